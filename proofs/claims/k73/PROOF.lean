import PyProof.Rows.All
import Wide.All
import OpenK.AllK
import Wide.FinOn
import Lean
import PyProof.EqAt
import PyProof.EqKinds
import PyProof.TupleCall
import KE.KLam
import PySem.Challenge.RW_stairrooms_k73_whole_first_step
set_option Elab.async false
namespace PySem.W.Fast
def tw9911687410296398011:=0
def tw9045258926393017576:=0
def tw7342626983327468506:=0
def tw17683283391868792215:=0
def tw14321698047820721372:=0
def tw9478813727029378433:=0
def tw2312597265615291928:=0
def tw1527204930481025383:=0
def tw11258306804293243132:=0
def tw10441189078318398902:=0
def tw15125771261956903258:=0
def tw1283506980011859969:=0
def tw1004593339420490729:=0
def tw3544651915260091173:=0
def tw15269425654929456476:=0
def tw15266785391687444539:=0
def tw9723682578460620891:=0
def tw8560726322155069060:=0
def tw11801650391622900179:=0
def tw14127486652294428307:=0
def tw11913268538381720213:=0
def tw2686718004561559855:=0
def tw8604979696160575008:=0
def tw10166892954511498249:=0
def tw12683310795314169836:=0
def tw4918694162171632466:=0
def tw16408023001231065620:=0
def tw10492582683554658041:=0
def tw16645757649517396401:=0
def tw6584469308530667732:=0
def tw3501889831259424984:=0
def tw13921919005729749812:=0
def tw12390782021942118942:=0
def tw5766181095882713430:=0
def tw5824247625822886979:=0
def tw15853727897521883275:=0
def tw10275949009854564666:=0
def tw8521597775319928436:=0
def tw17584191335013195612:=0
def tw8047032804361144261:=0
def tw18406689318668271181:=0
def tw16469943266984779137:=0
def tw11846370373574997029:=0
def tw1735571389945239771:=0
def tw15945904282836308387:=0
def tw7750769465160294860:=0
def tw4202673366249849491:=0
def tw16801269517542960672:=0
def tw14550693921475344484:=0
def tw6878535200312667207:=0
def tw16632375998614247822:=0
def tw15083788939570734299:=0
def tw13261574445939288711:=0
def tw12124443520851957044:=0
def tw11655376856063916228:=0
def tw6743822951217308217:=0
def tw447717403241242290:=0
def tw12664327836493813462:=0
def tw10035081181641441020:=0
def tw8708482821940700748:=0
def tw4817981600543833687:=0
def tw17571631200592639834:=0
def tw17357414001117552268:=0
def tw17329969520162680104:=0
def tw11408623696531555632:=0
def tw1057306937073154610:=0
def tw6178244272827954729:=0
def tw3161077796674850459:=0
def tw2904058922640873309:=0
def tw16618134895088991800:=0
def tw12323772569751236006:=0
def tw10276969695076772373:=0
def tw10118012357411222232:=0
def tw4355615645706949100:=0
def tw3015604971527890583:=0
def tw2265299691495554755:=0
def tw18101583386606535240:=0
def tw15641155157065175805:=0
def tw1465564398378206461:=0
def tw14321144422957734134:=0
def tw12249993202121903794:=0
def tw902582806634263858:=0
def tw5213485622955226937:=0
def tw512557566824241540:=0
def tw4801039527111802282:=0
def tw450187942056410602:=0
def tw2696157109874119690:=0
def tw2355404199824840798:=0
def tw1921160878016633958:=0
def tw16988158499489311127:=0
def tw16980547499210933930:=0
def tw8755266905418455375:=0
def tw7539763571100840771:=0
def tw5442971307982108685:=0
def tw3427924564325372817:=0
def tw2064118905727727203:=0
def tw16826725409987885975:=0
def tw13501672401922333513:=0
def tw11506949944486722818:=0
def tw11198388801270196117:=0
def tw10760031201136348398:=0
def tw9878173891806150429:=0
def tw8487562230406468105:=0
def tw8089249423132065445:=0
def tw7875707854763748492:=0
def tw3008007984704827758:=0
def tw1754243070517289278:=0
def tw17234483976792478675:=0
def tw15142431143280010732:=0
def tw13786455662358949411:=0
def tw11030641428109492703:=0
def tw9802983821206752271:=0
def tw7240639191980452486:=0
def tw684117499851941213:=0
def tw6714801024506940561:=0
def tw6181847661251503008:=0
def tw6093179522131556990:=0
def tw5581984692328104656:=0
def tw17843169823834903998:=0
def tw176977295656723065:=0
def tw16964212798373946863:=0
def tw16761591470956491853:=0
def tw1536147683505774889:=0
def tw14832175709080873599:=0
def tw1460478622569836974:=0
def tw13888251672469135178:=0
def tw11701492411309977178:=0
def tw10154314827766144001:=0
def tw9281662355237421915:=0
def tw8814574923527911149:=0
def tw8390827631967549055:=0
def tw8340926499216404060:=0
def tw6130821448147606368:=0
def tw4074507585887532813:=0
def tw179189376934874584:=0
def tw17652695096001567504:=0
def tw16843462989757039891:=0
def tw15729792075999087868:=0
def tw14109453767193502313:=0
def tw13185835248587936794:=0
def tw12951820434879171755:=0
def tw12632963454795662708:=0
def tw11971130579796114034:=0
def tw10602856759635532317:=0
def tw9085195453500331236:=0
def tw8612541938085228305:=0
def tw7897135418779063302:=0
def tw7341270039093922885:=0
def tw7134983793405793177:=0
def tw7115244209674446852:=0
def tw705330452703051597:=0
def tw5819105399919881484:=0
def tw5140171473248983199:=0
def tw4997450903056089975:=0
def tw4307926830116509514:=0
def tw3866599564448483793:=0
def tw3830783680494933951:=0
def tw3823650005643028596:=0
def tw18038851775406917655:=0
def tw18032779900021213040:=0
def tw17729564300890611173:=0
def tw17716863462265859512:=0
def tw17065142239566038489:=0
def tw1703860651114587486:=0
def tw16743919102785911483:=0
def tw16283258727396688951:=0
def tw16245695487900975421:=0
def tw15860708213811878519:=0
def tw14977234088687162302:=0
def tw14775263502782431712:=0
def tw14670137783204244808:=0
def tw14397947794671477899:=0
def tw14221475358252599964:=0
def tw13135487405686255751:=0
def tw12357872333080808881:=0
def tw12296552071639831032:=0
def tw11787554532782738252:=0
def tw11339562753883754242:=0
def tw1069010634818593453:=0
def tw10044013261082468525:=0
def tw9867131338692390694:=0
def tw8247069255634196442:=0
def tw7848866751621661257:=0
def tw762384175361060421:=0
def tw6744984778823417519:=0
def tw5425565988235752197:=0
def tw5010354932100547165:=0
def tw3924725502804413793:=0
def tw2800321189394573348:=0
def tw193794278739742225:=0
def tw18207201711260066481:=0
def tw18127141830633905074:=0
def tw18027755133952139252:=0
def tw17843839365795533554:=0
def tw16949064816178058999:=0
def tw16702496124019576060:=0
def tw1599608497217551579:=0
def tw15968237232650601322:=0
def tw15660991250957307376:=0
def tw15104015179872336855:=0
def tw14585778381282314952:=0
def tw14292392306617517729:=0
def tw12678953225602555564:=0
def tw11166862733661299840:=0
def tw1059446635175154315:=0
def tw10095913671755900038:=0
def tw8770029601138628478:=0
def tw8035931760809384120:=0
def tw7904445426397662059:=0
def tw7574902415414485744:=0
def tw6780223440767404674:=0
def tw5190860397250508396:=0
def tw4769826392853288355:=0
def tw4566636315000093172:=0
def tw3566807236516140644:=0
def tw3104486758596841148:=0
def tw3093781508513788219:=0
def tw2773274263299585572:=0
def tw1897875410602398997:=0
def tw17868647176945168147:=0
def tw17375602352810135561:=0
def tw16164986634524919498:=0
def tw1612923964453859806:=0
def tw15786528573266890262:=0
def tw1492062709326496596:=0
def tw1428814744893504695:=0
def tw13055914441102849027:=0
def tw7175792842613744815:=0
def tw6658185936689682968:=0
def tw439055297870408345:=0
def tw3624387153200950280:=0
def tw2168224380260717174:=0
def tw16477329177891185698:=0
def tw1629198167979442983:=0
def tw16180315334032665911:=0
def tw15829181571673270705:=0
def tw15732654264858244716:=0
def tw1304240117979556626:=0
def tw12261729195969336472:=0
def tw119775208399524090:=0
def tw10932722520931459696:=0
def tw10150324261921262226:=0
def tw976709547398631384:=0
def tw9623524494010043433:=0
def tw9583254098639418403:=0
def tw931510637493425866:=0
def tw9119751986894142981:=0
def tw8783073200307453229:=0
def tw8722415481117505015:=0
def tw8385567426930851361:=0
def tw7956301941440062040:=0
def tw7863108119856694670:=0
def tw7693350481814642131:=0
def tw7627118995241731642:=0
def tw7387496920539170626:=0
def tw6704578965310311189:=0
def tw6690677384477064843:=0
def tw6406724726538629663:=0
def tw6350474685870504171:=0
def tw6329672369177362234:=0
def tw6121026886529796221:=0
def tw6056548384089880543:=0
def tw6008010531490865865:=0
def tw5950158449063615346:=0
def tw590611807225418770:=0
def tw5533809914848052129:=0
def tw55107133691585252:=0
def tw5350998768358884751:=0
def tw5168400519034163868:=0
def tw4992925186480290751:=0
def tw4933930183700603765:=0
def tw4746302684295054048:=0
def tw4169430970946328830:=0
def tw3941131271490555836:=0
def tw3797301031838899788:=0
def tw3725507860900426652:=0
def tw3711776433476670718:=0
def tw3465091326942903629:=0
def tw3258786278723069861:=0
def tw3220723017206680370:=0
def tw3182821167057557991:=0
def tw3096949930750721708:=0
def tw2904033067149887106:=0
def tw2651210568008831048:=0
def tw2308842233520690658:=0
def tw1980078614172103820:=0
def tw18334927389422029420:=0
def tw17994301212061070119:=0
def tw17939888687896264705:=0
def tw17925923492730016652:=0
def tw17908656721387608039:=0
def tw17831088686795452451:=0
def tw17723765623042550390:=0
def tw17644514534155135092:=0
def tw17628590533929976792:=0
def tw17558519780344122324:=0
def tw17405045028177135956:=0
def tw17259577006381911698:=0
def tw17238752558760652402:=0
def tw16835956152608702361:=0
def tw16821967185522334815:=0
def tw1682181479755940848:=0
def tw16661212229125270991:=0
def tw16575673167688372683:=0
def tw16503717402094505217:=0
def tw16306601271817509428:=0
def tw15924826414491783191:=0
def tw15856698116174445793:=0
def tw15699315692412800413:=0
def tw15641575440650329080:=0
def tw1564093576101422265:=0
def tw15565656631415577005:=0
def tw15414259988211055499:=0
def tw15291515778787918541:=0
def tw14882510809304047780:=0
def tw14849095896601040367:=0
def tw14774234679712429206:=0
def tw14635225500592789833:=0
def tw14560837491469231475:=0
def tw14429984225472846677:=0
def tw14324394720252608761:=0
def tw13847991401066540787:=0
def tw13817142068744991791:=0
def tw13809386149585982481:=0
def tw13769731409856085057:=0
def tw13752025206567590305:=0
def tw13732165248360646341:=0
def tw13587954947775276195:=0
def tw13385619842731796546:=0
def tw13298203722689827917:=0
def tw12840604464936152123:=0
def tw12679859039530741841:=0
def tw12340981958623863397:=0
def tw11788803944947964044:=0
def tw11735653163353574974:=0
def tw11644868132232139897:=0
def tw11137535781475439334:=0
def tw11083616581157620123:=0
def tw11040902395418374828:=0
def tw10897373541712964772:=0
def tw10785498421680218836:=0
def tw10769681086646498438:=0
def tw10698238366409207256:=0
def tw10500720501580190231:=0
def tw10121643642846045468:=0
def tw9816307224394526710:=0
def tw9602979466950630956:=0
def tw912290570786946579:=0
def tw8777541643666118068:=0
def tw8572175281459272771:=0
def tw8568187914498332850:=0
def tw8444893750286939596:=0
def tw8125407811402774585:=0
def tw7552210041123771490:=0
def tw684210181549580303:=0
def tw6340304130596135008:=0
def tw6158425238486604569:=0
def tw5096499008420852698:=0
def tw5051596291613938045:=0
def tw3612554134655720397:=0
def tw3121732170634265723:=0
def tw2093290091728733057:=0
def tw17990003072128590093:=0
def tw17795394019121955329:=0
def tw16221219022901355867:=0
def tw16219145617115034907:=0
def tw15186367229040268510:=0
def tw1488474676173749703:=0
def tw14415884991196681418:=0
def tw13746588304753895505:=0
def tw11858878876565515630:=0
def tw11551815002882820457:=0
def tw10424792985553544811:=0
def tw10017577030591726147:=0
def tw9930359092145622687:=0
def tw9834661911540460081:=0
def tw974001917477778970:=0
def tw9591621326534694922:=0
def tw9590536906216307355:=0
def tw9467629813166748578:=0
def tw9254883793231693245:=0
def tw9248597171148506525:=0
def tw9002392303285804385:=0
def tw8863156965792605256:=0
def tw8576866337993464856:=0
def tw8562296191053873827:=0
def tw847593159352496057:=0
def tw8420131052260663755:=0
def tw8388858425438247444:=0
def tw8377945894465552080:=0
def tw8338600121835276020:=0
def tw8229460734390689525:=0
def tw8039774922555296384:=0
def tw8037652997034423971:=0
def tw7937346951877118417:=0
def tw7393957277229836691:=0
def tw7259079589770855615:=0
def tw720755081136891062:=0
def tw6942357351460751399:=0
def tw6787905781562076304:=0
def tw6692137819554114951:=0
def tw6429728187070590260:=0
def tw621812022307901172:=0
def tw6169767553621521813:=0
def tw6034192224097964318:=0
def tw5994711959094706394:=0
def tw5920227957080817638:=0
def tw5821001088122574322:=0
def tw5717963241065829162:=0
def tw5643517080389645038:=0
def tw5581349078452510653:=0
def tw5430882940802126740:=0
def tw5295854211047901153:=0
def tw5019332986140449700:=0
def tw4869967250276580588:=0
def tw4855646995411632120:=0
def tw477595423994022719:=0
def tw4337561567144917162:=0
def tw4256779784062091372:=0
def tw4138905410403352593:=0
def tw3975676623463710300:=0
def tw397431815971221653:=0
def tw3855638733940352994:=0
def tw3855077825024126993:=0
def tw3773624442522805073:=0
def tw3760063030202703356:=0
def tw3436359320994789115:=0
def tw3415376743198261602:=0
def tw3017139974649574989:=0
def tw2780415966309772251:=0
def tw2762985067018713519:=0
def tw2648121624305032702:=0
def tw2567624805475646970:=0
def tw2520694231678862498:=0
def tw2448602276733661166:=0
def tw2342838551658309370:=0
def tw2248526150547823735:=0
def tw2217001567337907910:=0
def tw2187499721780371684:=0
def tw2045930578084102194:=0
def tw2020109458520273824:=0
def tw1923656493189036919:=0
def tw1901317781093569649:=0
def tw1856151083423349262:=0
def tw18324572440802094995:=0
def tw1818218476948158209:=0
def tw18159918767601648018:=0
def tw18133197322224867361:=0
def tw18066811921283522515:=0
def tw17949153669898374660:=0
def tw17928405464846012575:=0
def tw17915051066750267265:=0
def tw17694846207451314135:=0
def tw17690871460500525271:=0
def tw17645572048654386869:=0
def tw17438179399263098937:=0
def tw17423125552162021742:=0
def tw17415715754555401154:=0
def tw17258839070269863901:=0
def tw17218974888202052536:=0
def tw17076493798685594974:=0
def tw17029066052626920852:=0
def tw17002439396945247550:=0
def tw16924412733494049589:=0
def tw1691102865124860179:=0
def tw16868688195037900307:=0
def tw16840622159041910090:=0
def tw16622475990643145580:=0
def tw16526325248041854055:=0
def tw16507177298177948937:=0
def tw1637453852661378490:=0
def tw16080655234471338842:=0
def tw16029895960380650870:=0
def tw15963830579283735448:=0
def tw15831574140416324556:=0
def tw15170883547044141151:=0
def tw15159215201983465910:=0
def tw15003257448840769609:=0
def tw14931363111589739018:=0
def tw1488503510874697304:=0
def tw14876317631354250296:=0
def tw14870940994311712039:=0
def tw14800109303040266240:=0
def tw14793259975867257014:=0
def tw14650229311272632197:=0
def tw14322595565739780087:=0
def tw14318957944991924802:=0
def tw13841191037290658594:=0
def tw1382559312744143635:=0
def tw13820470126673855253:=0
def tw13788262537284159298:=0
def tw13679643304169797691:=0
def tw13647187277582396961:=0
def tw13392218115919352882:=0
def tw13140385074510843379:=0
def tw13021086612755893400:=0
def tw12996499756298277263:=0
def tw12878273097781070547:=0
def tw12650994420537281789:=0
def tw12441502783428931068:=0
def tw12150866365501820893:=0
def tw11985937269989024962:=0
def tw11892039915525360660:=0
def tw11872690636868124001:=0
def tw11687504721054253588:=0
def tw11665305186481523908:=0
def tw11646379141798419536:=0
def tw11605670760853518920:=0
def tw11560677996495128784:=0
def tw11383850339681254435:=0
def tw11365700717142005424:=0
def tw11364142691922409913:=0
def tw11362101791794971524:=0
def tw11304072722765767021:=0
def tw11296645311156999791:=0
def tw11282886037220131173:=0
def tw11029396596865941829:=0
def tw10846541316933110243:=0
def tw10787819557663234410:=0
def tw10785159265526997160:=0
def tw10548826715568245312:=0
def tw10263077061500514125:=0
def tw10053539800044614232:=0
end PySem.W.Fast
section
open PySem PySem.W PyProof.Rows
set_option maxRecDepth 100000 in
set_option maxHeartbeats 0 in
open_top My.top for PySem.Challenge.rw_stairrooms_k73_whole_first_step
end
set_option linter.all false
set_option maxRecDepth 100000
set_option maxHeartbeats 4000000
open PySem renaming Value->Va,Addr->Vb,Shared->Vc,Program->Vd,World->Ve,wpAny->Vf,model->Vg,Heap->Vh,Around->Vi,mainGlobals->Vj,Expr->Vk,FuncData->Vl,Str->Vm
open Option renaming some->Vn,none->Vo
open PySem renaming wpAny_bind->FV,wpAny_pure->FW,wpAny_setState_of->GV,wpAny_callSpecial?_slot->GW
open PySem.W renaming Frag->FX
open PySem.Heap renaming get?_push_of_some->FY,get?_push_size->FZ,lt_size->F0
open List renaming length_map->F1,getElem?_eq_getElem->F2,getElem?_map->F3,mem_cons_of_mem->F4,size_toArray->F6,mem_cons_self->F7,getElem?_eq_some_iff->F9,mem_of_getElem?->Ga,mem_singleton->Gb,mem_cons->Gh,map_append->Gj,length_append->Gk,mem_append->Gr,getElem?_append_right->Gs,getElem?_append_left->Gu,getElem_mem->Gv,length_cons->Gw,take_length->Gx,not_mem_nil->GD,all_eq_true->GF,any_eq_true->GG,mem_append_right->GL,mem_append_left->GN,replicate->GO,getElem?_of_mem->GR,lookup_cons->GS,length_take->GU,range->GX
open Array renaming length_toList->F5
open PySem.F renaming plainAttrs_list->F8,slot_list_append->Gp,type_list_append->Gq
open Option renaming map_eq_some_iff->Ge,bind_some->Gz
open Int renaming toNat_natCast->Gf,toNat_of_nonneg->Gg,mul_nonneg->Gy
open Bool renaming false_ne_true->Gi,eq_iff_iff->GH,and_eq_true->GI,false_eq_true->GP
open Nat renaming ne_of_lt->Gm,le_refl->Gn,lt_of_lt_of_le->GA,le_trans->GC,lt_or_ge->GQ
open PySem.Str renaming ofString->GJ
open Option.some renaming inj->GK
open List renaming map->A0,mem_map->G6,take_add_one->G7,mem_filter->G8,length_filter_le->HJ,mem_range->HK,length_singleton->HN,nodup_append->HP,append_nil->HW,contains_iff_mem->HZ,getD_eq_getElem?_getD->Hb,filter_append->Hc,filter_cons->He,getElem?_eq_none->Hj,drop_eq_getElem_cons->Ho,map_cons->Hr,nodup_cons->Hs,append_assoc->Hu,length_reverse->Hz,length_range->ID,nodup_nil->IF,filter->IJ,mem_filterMap->Ia,getElem?_take_of_lt->Ic,pairwise_map->Ii,getElem?_inj->Ij,filterMap_cons->Il,pairwise_iff_getElem->Iw,range_succ->JA,length_drop->JF,pairwise_lt_range->JN,filter_eq_nil_iff->JO,find?_cons->JP,any_cons->JS,getElem?_reverse->JV,mem_of_mem_take->Jc,mem_or_eq_of_mem_set->Jh,getElem?_range->Jj,length_erase_of_mem->Jl,forIn_cons->Jn,getElem?_set_self->Jq,take_of_length_le->Js,ext_getElem?->Jt,length_pos_of_mem->Jv,count_append->Jy,getElem?_toArray->Jz,map_take->J9,getElem?_set_ne->KA,lookup->KG,mem_iff_getElem->KI,eq_nil_of_length_eq_zero->KN,replicate_succ'->KO,of_mem_zip->KQ,length_set->KR,dropLast_concat_getLast->KZ,replicate_succ->Ka,map_congr_left->Kb,map_eq_nil_iff->Kc,take_succ->Kr,count_nil->Ku,mem_of_find?_eq_some->Kw,range'->K1,length_filterMap_le->K8,getElem?_replicate->K9,Nodup->LQ,any_map->LR,range_succ_eq_map->LS,foldl_cons->LW,length_replicate->La,perm_append_comm->Lf,cons_lt_cons_iff->Lh,take_append_drop->Lj,mem_iff_getElem?->Lk,length->Lo,drop_zero->Lx,mem_erase_of_ne->Ly,dropLast_concat->L6,contains_append->L7,reverse_append->MB,map_drop->MG,filterMap_map->MN,getElem?_drop->MP,pairwise_cons->MQ,map_singleton->MR,count_pos_iff->MS,map_map->Mb,foldl->Mj,count->Mm
open PySem.PassesOwn renaming never->B2
open PySem.Paired renaming length->G9,snoc->IT
open Classical renaming byContradiction->HL,propDecidable->IW,axiomOfChoice->JK
open Nat renaming zero_le->HM,not_lt_zero->Ha,mul_comm->Hx,lt_irrefl->Hy,ne_of_gt->IC,lt_of_le_of_lt->IE,zero_add->IQ,strongRecOn->IS,le_add_right->Ib,le_of_lt->Io,gcd->Iv,succ_mul->JB,mod_lt->JC,add_assoc->JD,div_add_mod->JQ,lt_succ_of_lt->JW,add_mod_right->JY,lt_trichotomy->JZ,succ_le_succ->Jf,lt_succ_self->Jg,le_of_dvd->Jm,le_of_succ_le->Ju,mul_le_mul->Jx,mod_mul_right_mod->J3,le_of_not_lt->J5,gcd_dvd_left->J8,min_eq_left->KY,eq_zero_or_pos->Kq,mul_add_mod_self_right->Ks,add_sub_cancel->Kt,add_sub_cancel_left->LC,gcd_pos_of_pos_left->LH,le_mul_of_pos_right->LI,le_of_eq->LK,dvd_of_mod_eq_zero->LP,sub_self->LU,le_antisymm->LY,mul_le_mul_right->L0,pow_le_pow_right->L5,mul_le_mul_left->MC,mul_div_cancel'->ME,lt_trans->MZ,succ_add->Ma
open Ne renaming symm->HQ
open PySem renaming boot_len->HR,mem_of_lookup->Hl,defaultsOf_eq->L9,list_append->MW,call->Mk
open PySem.W renaming mg_none_of->HS,nsIn->HX,tabIn->Hm,cellsFrom_some->Hw,kia_one->IH,mg_of->Ie,kla_obj->Ik,fnOf->Iq,CodeHd->JG,tabObj->JH,WalkO->JT,keepIn->Ja,codeIn->Jr,kla_makeFunctionHit->Kf,kla_makeFunction->K2,instObj->LV,lookIn->Ln,kla_fn->Lr,kla_callFunE->Ls,kla_codeExpr->Lu,noTabs->Lv,callWith_K->MJ,callWith_F->ML,methodObj->MT,kitx_list->MU,kitx_dict->MV,plainGet->Mc
open Option renaming isSome_iff_exists->HV,bind_eq_some_iff->IV,map_some->KW,isSome_map->Kz,isSome_some->MM,getD_none->Me
open False renaming elim->HY
open Int renaming emod_lt_of_pos->Hd,emod_nonneg->Hi,le_refl->IU,ediv_nonneg->Iy,mul_le_mul_of_nonneg_right->JJ,mul_ediv_add_emod->J4,mul_le_mul_of_nonneg_left->KP,add_mul_emod_self_right->Ki,add_mul_emod_self_left->Kp,emod_eq_of_lt->K0,lt_add_one_of_le->L4,add_mul->Mi
open PyProof.Rows renaming boot_isinstance->Hf,callWith_type1->Hg,boot_tuple->Hk,boot_max->IK,boot_enumerate->Kg,boot_str->Lg
open PySem.Heap renaming size_push->Hh,get?_update_other->Hq,get?_update_self->IA,SameBut->Ip,ExtBut->Jb,IsTuple->MY
open PySem.Builtin.SmallTypes renaming nextOf->Hn,ownedTupleIsFree->IL,ownedTupleHandOut->Ji
open PySem.Builtin.Range renaming rangeSize->Ht,rangeFitsLong->Kd,small->L8
open Array renaming getElem?_eq_getElem->Hv,getElem?_toList->IZ,mem_toList_iff->KC,getD_eq_getD_getElem?->Kh,getElem?_eq_some_iff->Ko,getElem?_eq_none->LN,toList_filterMap->LO,size_map->Lz,forIn_toList->MO
open PySem.PyData renaming eqv->IB,eqvAll->K5,canLayAll0->MX
open Prod renaming ext->IG
open PySem.SetTable renaming leap->II,bits->IM,turns->Ig,insertAt->Ih,sizeAbove->Iu,runEnd->Iz,grown->Jd,fits->K4,advance->LF,fill->MF,tooFull->Mg
open PySem.F renaming slot_dict_keyiterator_next->IP,slot_tuple_iterator_next->Ir,plain_max_loop->JI,called_set->JM,slot_enumerate_next->JU,args_dict_keyiterator_next_1->J6,entry_dict_keyiterator_next->KL,args_tuple_iterator_next_1->KS,slot_zip_next->KU,entry_tuple_iterator_next->Ke,slot_dict_getitem->Kv,slot_list_extend->K6,type_list_extend->K7,args_enumerate_next_1->LA,slot_list_index->LD,typeCall_enumerate_1->LL,entry_enumerate_next->LM,newCall_enumerate_1->Lc,entry_enumerate_new->Ld,slot_list_pop->Ll,type_list_pop->Lm
open Bool renaming eq_false_iff->IY,or_false->JR,and_false->Kl,or_eq_true->LX,and_eq_false_iff->Li
open PySem.Heap.SameBut renaming update->Im
open List.Pairwise renaming imp_of_mem->JE,filter->L3
open PySem.Obj renaming mapSeq->JL,data_mapFields->Jo,putSet->J7,isFreed_of_fields->Lb
open PySem.SetTable.probe renaming go->JX
open PySem.Around renaming under_plainId->Je,frames_deeper->Lp
open PySem.Builtin.List renaming listTooLong->Jk,listSameRef->K3
open PyProof.Rows.F renaming plain_set_update_loop->Jp,entry_set_update_loop->LG
open PySem.SetTable.layClean renaming free->Jw
open PySem.Calls renaming Name_function_global->Kj,spliced_cons->Kk,spliced_nil->Ky,callWith_builtin->LJ
open PySem.Value.type renaming inj->Km
open PySem.Env renaming cells->LZ
open PySem.Builtin.Dict renaming showsAll->Le
open PySem.Shared renaming heap->Lq
open Function renaming comp_apply->MA
open PySem.SeqAt.EqAt renaming int_str->MH,str_int->MI
open PySem.Heap.IsSliceOf renaming new->MK
open PySem.IsL renaming update->Mf
open Sum.inl renaming inj->Mh
open PySem.Walks renaming list->Ml
open PySem.DictEntry renaming key->Mn
abbrev GY:=@decide_eq_false
abbrev GZ:=@decide_eq_true
abbrev G0:=@if_neg
abbrev G5:=@if_pos
noncomputable section
namespace L2
open PySem PySem.Spec PyProof.Rows
abbrev Key:=Sum Int Vm
def jv:Key->Va->Bool
 | .inl k,v=>Value.isInt k v
 | .inr x,v=>Value.isStrOf x v
def CO(w:Ve):Key->Int
 | .inl k=>hashInt k
 | .inr x=>hashStr w x
def ik:∀{k} {v},jv k v=true->(∃i t,k=Sum.inl i/\v=Value.int i t)\/(∃x t,k=Sum.inr x/\v=Value.str x t)
 | .inl i,v,h=>by obtain⟨t,e⟩:=Value.isInt_shape (k:=i) (v:=v) h;exact .inl ⟨i,t,rfl,e⟩
 | .inr x,v,h=>by obtain⟨t,e⟩:=Value.isStrOf_shape (x:=x) (v:=v) h;exact .inr ⟨x,t,rfl,e⟩
def Dh(i)(t):jv (.inl i) (.int i t)=true:=by simp[jv,Value.isInt]
def Ee(x)(t):jv (.inr x) (.str x t)=true:=by simp[jv,Value.isStrOf]
def Dj(a b):decide ((Sum.inl a:Key)=Sum.inl b)=(a == b):=by
 by_cases e:a=b
 .subst e;simp
 .have h:¬(Sum.inl a:Key)=Sum.inl b:=λq=>e (Mh q);rw[GY h];exact(beq_eq_false_iff_ne.mpr e).symm
def D1(a b):decide ((Sum.inr a:Key)=Sum.inr b)=decide (a=b):=by
 by_cases e:a=b
 .simp
 .have h:¬(Sum.inr a:Key)=Sum.inr b:=λq=>e (Sum.inr.inj q);rw[GY h,GY e]
def DH(a)(b):decide ((Sum.inl a:Key)=Sum.inr b)=false:=GY (λq=>nomatch q)
def Fb(a)(b):decide ((Sum.inr a:Key)=Sum.inl b)=false:=GY (λq=>nomatch q)
def cR(prog:Vd)(w:Ve):PySem.KeyKind prog w Key where
 is:=jv
 hash:=CO w
 inj:=λv a b ha hb=>by
  rcases ik ha with⟨i,t,rfl,rfl⟩|⟨x,t,rfl,rfl⟩
  .rcases ik hb with⟨j,u,rfl,e⟩|⟨y,u,rfl,e⟩
   .injection e with c _;rw[c]
   .exact nomatch e
  .rcases ik hb with⟨j,u,rfl,e⟩|⟨y,u,rfl,e⟩
   .exact nomatch e
   .injection e with c _;rw[c]
 byValue:=λk v h=>by rcases ik h with⟨i,t,rfl,rfl⟩|⟨x,t,rfl,rfl⟩<;>rfl
 pyHash:=λd h=>by
  rcases ik d with⟨i,t,rfl,rfl⟩|⟨x,t,rfl,rfl⟩
  .exact wpAny_pyHash_int h
  .exact wpAny_pyHash_str h
 eqBool:=λf d h=>by
  rcases ik f with⟨i,t,rfl,rfl⟩|⟨x,t,rfl,rfl⟩
  .rcases ik d with⟨j,u,rfl,rfl⟩|⟨y,u,rfl,rfl⟩
   .rw[Dj]at h;exact wpAny_eqBool_int h
   .rw[DH]at h;exact MH i t y u _ _ _ _ h
  .rcases ik d with⟨j,u,rfl,rfl⟩|⟨y,u,rfl,rfl⟩
   .rw[Fb]at h;exact MI x t j u _ _ _ _ h
   .rw[D1]at h;exact wpAny_eqBool_str h
 «strs»:=λk x t v h=>by
  rcases ik h with⟨i,u,rfl,e⟩|⟨y,u,rfl,e⟩
  .exact nomatch e
  .injection e with c _
   subst c;cases v<;>rfl
def EE(prog)(w)(i)(t):(cR prog w).is (.inl i) (.int i t)=true:=Dh i t
def qr(prog)(w)(x)(t):(cR prog w).is (.inr x) (.str x t)=true:=Ee x t
inductive V where
 | non|bl (b:Bool)|int (i:Int)|str (x:Vm)|byt (b:Array UInt8)|flt (b:UInt64)|ref (a:Vb)|ty (n:String)
 deriving DecidableEq
def RelV:V->Va->Prop
 | .non,u=>u=Value.none
 | .bl b,u=>u=Value.bool b
 | .int i,u=>∃t,u=Value.int i t
 | .str x,u=>∃t,u=Value.str x t
 | .byt b,u=>∃t,u=Value.bytes b t
 | .flt b,u=>∃t,u=Value.float b t
 | .ref a,u=>u=Value.ref a
 | .ty n,u=>u=Value.type n
abbrev Vals:List V->List Va->Prop:=Paired RelV
theorem Vals.length{xs:List V}{us:List Va}(r:Vals xs us):xs.length=us.length:=G9 r
theorem Vals.get:∀{xs:List V} {us:List Va} {i:Nat} {x:V},Vals xs us->xs[i]?=Vn x->∃u,us[i]?=Vn u/\RelV x u
 | _,_,_,_,.nil,e=>by simp at e
 | _,_,0,_,.cons r _,e=>by simp at e;subst e;exact⟨_,rfl,r⟩
 | _,_,i+1,x,.cons _ t,e=>by obtain⟨u,h1,h2⟩:=Vals.get (i:=i) (x:=x) t (by simpa using e);exact⟨u,by simpa using h1,h2⟩
theorem Vals.set{x:V}{u:Va}(r:RelV x u):∀{xs:List V} {us:List Va} (i:Nat),Vals xs us->Vals (xs.set i x) (us.set i u)
 | _,_,_,.nil=>.nil
 | _,_,0,.cons _ t=>.cons r t
 | _,_,i+1,.cons q t=>.cons q (Vals.set r i t)
theorem Vals.append:∀{xs ys:List V} {us ws:List Va},Vals xs us->Vals ys ws->Vals (xs++ys) (us++ws)
 | _,_,_,_,.nil,s=>s
 | _,_,_,_,.cons r t,s=>.cons r (Vals.append t s)
theorem Vals.take:∀{xs:List V} {us:List Va} (n:Nat),Vals xs us->Vals (xs.take n) (us.take n)
 | _,_,0,_=>.nil
 | _,_,_+1,.nil=>.nil
 | _,_,n+1,.cons r t=>.cons r (Vals.take n t)
theorem Vals.drop:∀{xs:List V} {us:List Va} (n:Nat),Vals xs us->Vals (xs.drop n) (us.drop n)
 | _,_,0,r=>r
 | _,_,_+1,.nil=>.nil
 | _,_,n+1,.cons _ t=>Vals.drop n t
def fH:Option V->Option Va->Prop
 | some v,Vn u=>RelV v u
 | none,Vo=>True
 | _,_=>False
def KV{κ:Type}:List (κ×V)->List (κ×Va)->Prop:=Paired λ(p:κ×V) (q:κ×Va)=>p.1=q.1/\RelV p.2 q.2
def kV:Key->V
 | .inl i=>.int i
 | .inr x=>.str x
inductive HO where
 | lst (xs:List V)
 | tup (xs:List V)
 | dK (kvs:List (Key×V))|dT (kvs:List (List Key×V))
 | set (S:Int->Bool) (n:Nat)
 | ins (C dx:Vb) (fs:List (Vm×V))
 | own (x:Vb)
 | xd (fs:List (Vm×V))
 | met (f x:Vb)
 | rng (lo hi:Int)
 | frz (o:Obj) (u:HO)
 | tbl (ps:Array Va)
 | ext (φ:Vh->Prop)
abbrev Hp:=Vb->Option HO
def upd(H:Hp)(a:Vb)(o:HO):Hp:=λb=>if b=a then Vn o else H b
def aE:upd H a o a=Vn o:=by unfold upd;rw[G5 rfl]
def aA(h:b≠a):upd H a o b=H b:=by unfold upd;rw[G0 h]
def bA{H:Hp}(h:H a=Vn o)(h':H b=Vn u)(d:o≠u):a≠b:=by intro e;subst e;rw[h]at h';exact d (GK h')
def cx{H:Hp}(h:H a=Vn o)(h':H b=Vo):a≠b:=by intro e;subst e;rw[h]at h';cases h'
section
variable (P:Vd) (w:Ve)
def bI(H:Hp)(h:Vh)(a:Vb):HO->Prop
 | .lst xs=>xs.length<=sizeLine/\∃(b:List Va) (n:Nat),Vals xs b/\h.get? a=Vn { cls:=.type "list",data:=.seq b.toArray n }
 | .tup xs=>xs.length<=sizeLine/\∃b:List Va,Vals xs b/\IsTup h a b.toArray
 | .dK kvs=>kvs.length<=sizeLine/\(a == sysModules)=false/\∃vs,KV kvs vs/\h.DictOf (cR P w) a vs
 | .dT kvs=>kvs.length<=sizeLine/\(a == sysModules)=false/\∃xs:List (List Key×Vb×Va),
   Paired (λ(p:List Key×V) (q:List Key×Vb×Va)=>p.1=q.1/\H q.2.1=Vn (.tup (p.1.map kV))/\RelV p.2 q.2.2) kvs xs ∧
   ∃o es ep,h.get? a=Vn o/\o.ExactDict/\o.data=.dict es ep/\es.toList=xs.map (entryOfKey (tupleKind (cR P w)))/\(xs.map (·.1)).Nodup
 | .set S n=>h.SetOf (intKind P w) a S n
 | .ins C dx fs=>H dx=Vn (.own a)/\fs.length<=1000/\dx≠a/\h.get? a=Vn (LV C dx) ∧
   ∃mA,h.Ns1 dx mA/\(∀f,fH (fs.lookup f) (mA f))/\PySem.Within mA (fs.map (·.1))
 | .own _=>∃o,h.get? a=Vn o
 | .xd fs=>∃mA,h.Ns1 a mA/\∀f,fH (fs.lookup f) (mA f)
 | .rng lo hi=>∃t u v,h.get? a=Vn { cls:=.type "range",data:=.fields #[.int lo t,.int hi u,.int 1 v] }
 | .frz o u=>h.get? a=Vn o/\bI H h a u
 | .tbl ps=>h.get? a=Vn { cls:=.none,data:=.fields ps }
 | .met f x=>h.get? a=Vn (MT (.ref f) (.ref x))
 | .ext φ=>φ h/\(∃o,h.get? a=Vn o)/\∀h1 h2:Vh,φ h1->(∀o,h1.get? a=Vn o->h2.get? a=Vn o)->φ h2
def bE(H:Hp)(h:Vh):Prop:=∀a o,H a=Vn o->bI P w H h a o
end
section
variable {P:Vd} {w:Ve} {H H':Hp} {h h':Vh} {a:Vb} {o:HO}
theorem bI.lt(x:bI P w H h a o):a<h.objs.size:=by
 cases o with
 | lst xs=>obtain⟨_,_,_,_,e⟩:=x;exact F0 e
 | tup xs=>obtain⟨_,_,_,p⟩:=x;exact p.lt
 | dK kvs=>obtain⟨_,_,_,_,o,_,_,e,_⟩:=x;exact F0 e
 | dT kvs=>obtain⟨_,_,_,_,o,_,_,e,_⟩:=x;exact F0 e
 | set S n=>obtain⟨o,_,_,_,e,_⟩:=x;exact F0 e
 | ins C dx fs=>obtain⟨_,_,_,e,_⟩:=x;exact F0 e
 | own y=>obtain⟨_,e⟩:=x;exact F0 e
 | xd fs=>obtain⟨_,⟨_,_,_,e,_⟩,_⟩:=x;exact F0 e
 | rng lo hi=>obtain⟨_,_,_,e⟩:=x;exact F0 e
 | frz b u=>obtain⟨e,_⟩:=x;exact F0 e
 | tbl ps=>exact F0 (x)
 | met f y=>exact F0 (x)
 | ext φ=>obtain⟨_,⟨_,e⟩,_⟩:=x;exact F0 e
theorem Paired.mapP{α β:Type}{F G:α->β->Prop}:∀{l₁:List α} {l₂:List β},Paired F l₁ l₂->(∀a b,F a b->G a b)->Paired G l₁ l₂
 | _,_,.nil,_=>.nil
 | _,_,.cons r t,f=>.cons (f _ _ r) (Paired.mapP t f)
def bI.stay(x:bI P w H h a o)(k:∀b u,(b=a\/H b=Vn (.own a))->h.get? b=Vn u->h'.get? b=Vn u)
  (ho:∀b,H b=Vn (.own a)->H' b=Vn (.own a)) (j:∀b xs,H b=Vn (.tup xs)->H' b=Vn (.tup xs)):bI P w H' h' a o:=by
 induction o with
 | lst xs=>obtain⟨z,i,n,r,e⟩:=x;exact⟨z,i,n,r,k _ _ (.inl rfl) e⟩
 | tup xs=>obtain⟨z,i,r,g,e,c⟩:=x;exact⟨z,i,r,g,k _ _ (.inl rfl) e,c⟩
 | dK kvs=>obtain⟨z,y,vs,r,g,es,ep,e,c⟩:=x;exact⟨z,y,vs,r,g,es,ep,k _ _ (.inl rfl) e,c⟩
 | dT kvs=>
  obtain⟨z,y,xs,r,g,es,ep,e,c⟩:=x;exact⟨z,y,xs,Paired.mapP r λp q z=>⟨z.1,j _ _ z.2.1,z.2.2⟩,g,es,ep,k _ _ (.inl rfl) e,c⟩
 | set S n=>obtain⟨g,es,ep,t,e,c⟩:=x;exact⟨g,es,ep,t,k _ _ (.inl rfl) e,c⟩
 | ins C dx fs=>
  obtain⟨d,z,ne,e,mA,⟨od,es,ep,l,c⟩,r⟩:=x;exact⟨ho _ d,z,ne,k _ _ (.inl rfl) e,mA,⟨od,es,ep,k _ _ (.inr d) l,c⟩,r⟩
 | own y=>obtain⟨g,e⟩:=x;exact⟨g,k _ _ (.inl rfl) e⟩
 | xd fs=>obtain⟨mA,⟨od,es,ep,e,c⟩,r⟩:=x;exact⟨mA,⟨od,es,ep,k _ _ (.inl rfl) e,c⟩,r⟩
 | rng lo hi=>obtain⟨t,u,v,e⟩:=x;exact⟨t,u,v,k _ _ (.inl rfl) e⟩
 | frz g u m=>obtain⟨e,q⟩:=x;exact⟨k _ _ (.inl rfl) e,m q⟩
 | tbl ps=>
  have e:h.get? a=Vn { cls:=.none,data:=.fields ps }:=x;exact k a _ (.inl rfl) e
 | met f y=>
  have e:h.get? a=Vn (MT (.ref f) (.ref y)):=x;exact k a _ (.inl rfl) e
 | ext φ=>obtain⟨p,⟨o,e⟩,st⟩:=x;exact⟨st _ _ p λo q=>k _ _ (.inl rfl) q,⟨o,k _ _ (.inl rfl) e⟩,st⟩
theorem bE.lt(x:bE P w H h)(e:H a=Vn o):a<h.objs.size:=(x a o e).lt
def bE.fresh(x:bE P w H h)(e:h.objs.size<=a):H a=Vo:=by
 cases q:H a with
 | none=>rfl
 | some u=>exact absurd (GA (x.lt q) e) (Hy _)
def bE.kept(x:bE P w H h)(k:∀b u,h.get? b=Vn u->h'.get? b=Vn u):bE P w H h':=λa o e=>
 (x a o e).stay (λb u _ q=>k b u q) (λ_ q=>q) λ_ _ q=>q
def bE.laid(x:bE P w H h)(k:∀b u,h.get? b=Vn u->h'.get? b=Vn u)(f:h.objs.size<=a)(new:bI P w (upd H a o) h' a o):bE P w (upd H a o) h':=λb u e=>by
 have d:=x.fresh f;by_cases hb:b=a
 .subst hb;rw[aE]at e;cases e;exact new
 .rw[aA hb]at e;exact(x b u e).stay (λc v _ q=>k c v q) (λc q=>by rw[aA (cx q d)];exact q) λc xs q=>by rw[aA (cx q d)];exact q
end
def Rd(H:Hp)(a:Vb)(u:HO):Prop:=H a=Vn u\/∃o,H a=Vn (.frz o u)
def Rd.ok(r:Rd H a u)(x:bE P w H h):bI P w H h a u:=by
 rcases r with r|⟨o,r⟩
 .exact x a u r
 .obtain⟨_,q⟩:=x a _ r;exact q
def kz:Option HO->Prop
 | some (.lst _)=>True
 | some (.dK _)=>True
 | some (.dT _)=>True
 | some (.set _ _)=>True
 | some (.ins _ _ _)=>True
 | some (.ext _)=>True
 | _=>False
section
variable {P:Vd} {w:Ve} {H:Hp} {h h':Vh} {x e:Vb} {o':HO}
def bE.write(ok:bE P w H h)(d:kz (H x))(i:e=x\/H e=Vn (.own x))(k:∀b u,b≠e->h.get? b=Vn u->h'.get? b=Vn u)(g:∃u,h'.get? e=Vn u)
  (new:bI P w (upd H x o') h' x o'):bE P w (upd H x o') h':=λb u q=>by
 have nown:∀c y,H c=Vn (.own y)->c≠x:=λc y r z=>by subst z;rw[r]at d;exact d
 have ntup:∀c xs,H c=Vn (.tup xs)->c≠x:=λc xs r z=>by subst z;rw[r]at d;exact d
 by_cases hb:b=x
 .subst hb;rw[aE]at q;cases q;exact new
 .rw[aA hb]at q;by_cases a:b=e
  .have j:H b=Vn (.own x):=by
    rcases i with z|z
    .exact absurd (a.trans z) hb
    .rw[a];exact z
   rw[q]at j;cases j;obtain⟨v,l⟩:=g;exact⟨v,by rw[a];exact l⟩
  .refine(ok b u q).stay (λc v f r=>k c v ?_ r) (λc r=>by rw[aA (nown c b r)];exact r) λc xs r=>by rw[aA (ntup c xs r)];exact r
   rcases f with rfl|f
   .exact a
   .rintro rfl;rcases i with z|z
    .exact nown c b f z
    .rw[f]at z;cases z;exact hb rfl
end
structure Un(fs ex:List Vb)(H H':Hp)(h h':Vh):Prop where
 keep:∀b o,h.get? b=Vn o->H b=Vo->b∉fs->b∉ex->h'.get? b=Vn o
 slot:∀b o,h.get? b=Vn o->H b=Vo->b∈fs->b∉ex->∃sl,h'.get? b=Vn { o with slots:=sl }
 free:∀b o,h.get? b=Vn o->H b=Vo->b∉ex->H' b=Vo
 there:∀b o,h.get? b=Vn o->b∉ex->∃o',h'.get? b=Vn o'
 tups:∀b xs,H b=Vn (.tup xs)->H' b=Vn (.tup xs)
 frzs:∀b o u,H b=Vn (.frz o u)->H' b=Vn (.frz o u)
 tbls:∀b ps,H b=Vn (.tbl ps)->∃more,H' b=Vn (.tbl (ps++more))
section
variable {fs fs' ex ex':List Vb} {H H1 H2:Hp} {h h1 h2 h':Vh} {a x e:Vb} {o:HO}
def Un.any(u:Un fs ex H H1 h h1){a:Obj}(q:h.get? b=Vn a)(n:H b=Vo)(c:b∉ex):∃sl,h1.get? b=Vn { a with slots:=sl }:=by
 by_cases hb:b∈fs
 .exact u.slot b a q n hb c
 .exact⟨a.slots,u.keep b a q n hb c⟩
def Un.kept(k:∀b u,h.get? b=Vn u->h'.get? b=Vn u):Un fs ex H H h h':=
 ⟨λb a q _ _ _=>k b a q,λb a q _ _ _=>⟨a.slots,k b a q⟩,λ_ _ _ n _=>n,λb a q _=>⟨a,k b a q⟩,λ_ _ q=>q,λ_ _ _ q=>q,λ_ ps q=>⟨#[],by rw[q];simp⟩⟩
def Un.refl:Un fs ex H H h h:=Un.kept λ_ _ q=>q
def Un.laid(k:∀b u,h.get? b=Vn u->h'.get? b=Vn u)(d:h.objs.size<=a)(c:H a=Vo):Un fs ex H (upd H a o) h h' where
 keep:=λb u q _ _ _=>k b u q
 slot:=λb u q _ _ _=>⟨u.slots,k b u q⟩
 free:=λb u q n _=>by rw[aA (Gm (GA (F0 q) d))];exact n
 there:=λb u q _=>⟨u,k b u q⟩
 tups:=λb xs q=>by rw[aA (cx q c)];exact q
 frzs:=λb u xs q=>by rw[aA (cx q c)];exact q
 tbls:=λb ps q=>⟨#[],by rw[aA (cx q c),q];simp⟩
def Un.write(c:kz (H x))(i:e=x\/H e=Vn (.own x))(k:∀b u,b≠e->h.get? b=Vn u->h'.get? b=Vn u)(d:∃u,h'.get? e=Vn u):Un fs ex H (upd H x o) h h':=by
 have g:∀b,H b=Vo->b≠x:=λb n z=>by subst z;rw[n]at c;exact c
 have hb:∀b,H b=Vo->b≠e:=λb n z=>by
  subst z;rcases i with r|r
  .exact g b n r
  .rw[n]at r;cases r
 have f:∀b u,H b=Vn u->¬kz (Vn u)->b≠x:=λb u q nm z=>by subst z;rw[q]at c;exact nm c
 refine⟨λb u q n _ _=>k b u (hb b n) q,λb u q n _ _=>⟨u.slots,k b u (hb b n) q⟩,λb u q n _=>by rw[aA (g b n)];exact n,λb u q _=>?_,
  λb xs q=>by rw[aA (f b _ q λz=>z)];exact q,λb u xs q=>by rw[aA (f b _ q λz=>z)];exact q,λb ps q=>⟨#[],by rw[aA (f b _ q λz=>z),q];simp⟩⟩
 by_cases a:b=e
 .subst a;exact d
 .exact⟨u,k b u a q⟩
end
def kZ(h:Vh)(H:Hp):List Vb:=(GX h.objs.size).filter λa=>(H a).isSome
def gm(h:Vh)(H:Hp):Vh:=PySem.W.hideAll h (kZ h H)
def Au(h)(H):(gm h H).objs.size=h.objs.size:=PySem.W.hideAll_size _ _
def mM(e:h.get? b=Vn o)(n:H b=Vo):(gm h H).get? b=Vn o:=
 PySem.W.hideAll_get _ e λa=>by have q:(H b).isSome=true:=(G8.mp a).2;rw[n]at q;simp at q
def Bi(e:(gm h H).get? b=Vn o):h.get? b=Vn o/\H b=Vo:=by
 have e':h.get? b=Vn o:=PySem.W.of_hideAll (kZ h H) e;refine⟨e',?_⟩;cases q:H b with
 | none=>rfl
 | some x=>
  have a:b∈kZ h H:=G8.mpr ⟨HK.mpr (F0 e'),by simp[q]⟩;have z:(gm h H).get? b=Vo:=PySem.W.hideAll_none (kZ h H) a;rw[z]at e;cases e
structure Mod(K:FX)(mg:Vm->Option Va)(base:Vh):Prop where
 kin:K.In base
 glob:base.Ns Vj mg
 blt:∃mb,base.Ns builtinsNs mb/\∀x:Vm,x≠"__name__"->mb x=bootBuiltins x
 nolimit:base.NoLimit
structure Cx where
 prog:Vd
 w:Ve
 K:FX
 mg:Vm->Option Va
 base:Vh
 A:Vi
 N:List Vm
 s₀:Vc
 H₀:Hp
 env:Env
 outer:List Env
 stack:List Env
 ex:List Vb
 fn:Vm->Bool
 calm:Bool
 pn:List (Vb×Obj)
 xe:Va->Vc->Prop
variable {a tg:Vk}{t' n:Nat}{ch fp:List Vb}{M:Model}{A:Vi}{E:Va->Vc->Prop}{v:V}{u:Va}{s:Vc}{pins:List (Vb×Obj)}{H:Hp}{P:Vd}{w:Ve}{h:Vh}{xs:List V}{us:List Va}
def dH(l:List Env):List Vb:=l.filterMap (·.frame)
abbrev Cx.fs(X:Cx):List Vb:=dH X.outer
def lF(sc:Scope)(x:Vm):Prop:=sc.names.lookup x=Vn .local\/sc.names.lookup x=Vn .cell\/sc.names.lookup x=Vn .free
def Loc(sc:Scope)(x:Vm):Prop:=sc.names.lookup x=Vn .local\/sc.names.lookup x=Vn .cell
def Look(env:Env)(h:Vh)(m:Vm->Option Va)(x:Vm)(u:Va):Prop:=
 (env.kindOf x=Vn .local/\m x=Vn u)\/((env.kindOf x=Vn .cell\/env.kindOf x=Vn .free)/\∃c,env.cells.lookup x=Vn c/\h.IsCell c (Vn u))
structure Cx.Ok(X:Cx):Prop where
 mod:Mod X.K X.mg X.base
 kind:X.env.scope.kind=.function
 glob:X.env.globals=Vj
 blt:X.env.builtins=builtinsNs
 above:X.s₀.heap.objs.size<=X.env.locals
 inj:∀x y c,X.env.cells.lookup x=Vn c->X.env.cells.lookup y=Vn c->x=y
 has:∀x,(X.env.kindOf x=Vn .cell\/X.env.kindOf x=Vn .free)->∃c,X.env.cells.lookup x=Vn c
 cab:∀x c,X.fn x=true->X.env.cells.lookup x=Vn c->X.s₀.heap.objs.size<=c
 hd:X.calm=true->X.A.handled=Vo
 frames:X.A.frames=Vn X.stack
 stk:X.stack=X.outer\/(X.stack=X.env::X.outer/\X.env.frame=Vn X.env.locals)
 exf:∀b∈X.ex,b≠X.env.locals/\∀x c,X.env.cells.lookup x=Vn c->c≠b
 bs:∀b o,X.base.get? b=Vn o->X.s₀.heap.get? b=Vn o/\X.H₀ b=Vo
 bsz:X.base.objs.size<=X.s₀.heap.objs.size
 noex:∀b o,X.base.get? b=Vn o->b∉X.ex
 exfs:∀b∈X.ex,b∉X.fs
 funs:X.s₀.heap.FunFrames X.base X.outer
 frf:∀b∈X.fs,X.H₀ b=Vo
structure Inv(X:Cx)(pins:List (Vb×Obj))(σ:List (Option V))(H:Hp)(s:Vc):Prop where
 ok:X.Ok
 os:s.os=X.s₀.os
 bare:AllBare s.gens
 base:Un X.fs X.ex X.H₀ H X.s₀.heap s.heap
 loc:∃m,s.heap.Ns X.env.locals m/\∀(i:Nat) (x:Vm) (v:V),X.N[i]?=Vn x->σ[i]?=Vn (Vn v)->lF X.env.scope x->∃u,RelV v u/\Look X.env s.heap m x u
 cell:∀x c,X.env.cells.lookup x=Vn c->∃v,s.heap.IsCell c v
 free:H X.env.locals=Vo
 freeC:∀x c,X.env.cells.lookup x=Vn c->H c=Vo
 pin:∀p∈X.pn++pins,s.heap.get? p.1=Vn p.2/\H p.1=Vo/\p.1≠X.env.locals/\p.1∉X.fs/\∀v,p.2.data≠.cell v
 hok:bE X.prog X.w H s.heap
 len:σ.length=X.N.length
section
variable {X:Cx} {pins:List (Vb×Obj)} {σ:List (Option V)} {H H':Hp} {s:Vc} {h':Vh}
def Cx.Ok.nofr(ok:X.Ok)(e:X.base.get? b=Vn o):b∉X.fs:=λhb=>by have:=(ok.funs.mem hb).1;rw[e]at this;cases this
theorem Inv.bs(I:Inv X pins σ H s):∀b o,X.base.get? b=Vn o->s.heap.get? b=Vn o/\H b=Vo:=λb o e=>
 ⟨I.base.keep b o (I.ok.bs b o e).1 (I.ok.bs b o e).2 (I.ok.nofr e) (I.ok.noex b o e),I.base.free b o (I.ok.bs b o e).1 (I.ok.bs b o e).2 (I.ok.noex b o e)⟩
def Inv.bk(I:Inv X pins σ H s):∀b o,X.base.get? b=Vn o->s.heap.get? b=Vn o:=λb o e=>(I.bs b o e).1
theorem Inv.mod(I:Inv X pins σ H s):Mod X.K X.mg X.base:=I.ok.mod
def Inv.kIn(I:Inv X pins σ H s):X.K.In s.heap:=I.ok.mod.kin.keeps I.bk
theorem Inv.lt(I:Inv X pins σ H s):X.env.locals<s.heap.objs.size:=let ⟨_,hn,_⟩:=I.loc;hn.lt
def Inv.sz(I:Inv X pins σ H s):X.s₀.heap.objs.size<=s.heap.objs.size:=GC I.ok.above (Io I.lt)
def Inv.nofs(I:Inv X pins σ H s){a:Vb}(h:s.heap.objs.size<=a):a∉X.fs:=λhb=>by obtain⟨_,o,ho,_⟩:=I.ok.funs.mem hb;exact absurd (GA (F0 ho) (GC I.sz h)) (Hy _)
def Inv.cne(I:Inv X pins σ H s):∀x c,X.env.cells.lookup x=Vn c->c≠X.env.locals:=λx c e z=>by obtain⟨v,o,ho,hd⟩:=I.cell x c e;obtain⟨m,⟨o',es,ep,a,b,_⟩,_⟩:=I.loc;rw[z,a]at ho;cases ho;rw[b]at hd;cases hd
theorem Inv.funs(I:Inv X pins σ H s):s.heap.FunFrames X.base X.outer:=by
 have all:∀l,(∀b∈dH l,b∈X.fs)->X.s₀.heap.FunFrames X.base l->s.heap.FunFrames X.base l:=by
  intro l;induction l with
  | nil=>intro _ _;trivial
  | cons env r d=>
   intro hs f;obtain⟨g,⟨L,o,a,h,ho,hd⟩,i⟩:=f;have c:L∈X.fs:=hs L (by unfold dH;rw[Il,a];exact F7);obtain⟨sl,e⟩:=I.base.slot L o ho (I.ok.frf L c) c λz=>I.ok.exfs L z c;exact⟨g,⟨L,_,a,h,e,hd⟩,d (λb hb=>hs b (by unfold dH;rw[Il,a];exact F4 _ hb)) i⟩
 exact all X.outer (λ_ hb=>hb) I.ok.funs
theorem Inv.stack(I:Inv X pins σ H s):s.heap.FunFrames X.base X.stack:=by
 rcases I.ok.stk with e|⟨e,a⟩
 .rw[e];exact I.funs
 .rw[e];obtain⟨m,b,_⟩:=I.loc;refine .cons (by rw[I.ok.kind];decide) a b ?_ I.funs;exact Heap.get?_none_of_le (GC I.ok.bsz I.ok.above)
def Inv.stkSub(I:Inv X pins σ H s):∀b∈dH X.stack,b∈X.env.locals::X.fs:=λb hb=>by
 rcases I.ok.stk with e|⟨e,a⟩
 .rw[e]at hb;exact F4 _ hb
 .rw[e]at hb;unfold dH at hb;rw[Il,a]at hb;exact hb
def Inv.stkFree(I:Inv X pins σ H s):∀b∈dH X.stack,H b=Vo:=λb hb=>by
 rcases Gh.mp (I.stkSub b hb)with e|hb
 .rw[e];exact I.free
 .obtain⟨_,o,ho,_⟩:=I.ok.funs.mem hb;exact I.base.free b o ho (I.ok.frf b hb) λz=>I.ok.exfs b z hb
def Inv.step(I:Inv X pins σ H s)
  (hch:∀b∈ch,(b∈X.ex\/X.s₀.heap.objs.size<=b)/\b≠X.env.locals/\(∀x c,X.env.cells.lookup x=Vn c->c≠b)/\∀p∈X.pn++pins,p.1≠b)
  (keep:∀b o,b≠X.env.locals->b∉X.fs->b∉ch->s.heap.get? b=Vn o->H b=Vo->h'.get? b=Vn o)
  (slot:∀b o,b≠X.env.locals->b∈X.fs->b∉ch->s.heap.get? b=Vn o->H b=Vo->∃sl,h'.get? b=Vn { o with slots:=sl }) (free:∀b o,b∉ch->s.heap.get? b=Vn o->H b=Vo->H' b=Vo)
  (there:∀b o,b∉ch->s.heap.get? b=Vn o->∃o',h'.get? b=Vn o')
  (tups:∀b xs,H b=Vn (.tup xs)->H' b=Vn (.tup xs)) (frzs:∀b o u,H b=Vn (.frz o u)->H' b=Vn (.frz o u)) (tbls:∀b ps,H b=Vn (.tbl ps)->∃more,H' b=Vn (.tbl (ps++more)))
  (ns:∀m,s.heap.Ns X.env.locals m->h'.Ns X.env.locals m) (hok:bE X.prog X.w H' h') (C:AllBare g') :
  Inv X pins σ H' { s with heap:=h',gens:=g',drawn:=d',toks:=t' }:=by
 have neL:∀b o,X.s₀.heap.get? b=Vn o->b≠X.env.locals:=λb o e=>Gm (GA (F0 e) I.ok.above);have neC:∀b o,X.s₀.heap.get? b=Vn o->b∉X.ex->b∉ch:=λb o e a hb=>by
  rcases(hch b hb).1 with z|z
  .exact a z
  .exact absurd (GA (F0 e) z) (Hy _)
 have cellK:∀x c,X.env.cells.lookup x=Vn c->∀v,s.heap.IsCell c v->h'.IsCell c v:=λx c e v ⟨o,ho,hd⟩=>by
  have f:c∉ch:=λz=>(hch c z).2.2.1 x c e rfl;by_cases y:c∈X.fs
  .obtain⟨sl,q⟩:=slot c o (I.cne x c e) y f ho (I.freeC x c e);exact⟨_,q,hd⟩
  .exact⟨o,keep c o (I.cne x c e) y f ho (I.freeC x c e),hd⟩
 refine⟨I.ok,I.os,C,⟨λb o e n hb a=>?_,λb o e n hb a=>?_,λb o e n a=>?_,λb o e a=>?_,λb xs e=>tups b xs (I.base.tups b xs e),λb o xs e=>frzs b o xs (I.base.frzs b o xs e),λb ps e=>?_⟩,?_,λx c e=>?_,?_,λx c e=>?_,λp A=>?_,hok,I.len⟩
 .exact keep b o (neL b o e) hb (neC b o e a) (I.base.keep b o e n hb a) (I.base.free b o e n a)
 .obtain⟨sl,g⟩:=I.base.slot b o e n hb a;obtain⟨j,h⟩:=slot b _ (neL b o e) hb (neC b o e a) g (I.base.free b o e n a);exact⟨j,h⟩
 .obtain⟨o',g⟩:=I.base.there b o e a;exact free b o' (neC b o e a) g (I.base.free b o e n a)
 .obtain⟨o',g⟩:=I.base.there b o e a;exact there b o' (neC b o e a) g
 .obtain⟨m1,g⟩:=I.base.tbls b ps e;obtain⟨E,h⟩:=tbls b _ g;exact⟨m1++E,by rw[h,Array.append_assoc]⟩
 .obtain⟨m,F,G⟩:=I.loc;refine⟨m,ns m F,λi x v g h J=>?_⟩;obtain⟨u,r,l⟩:=G i x v g h J;refine⟨u,r,?_⟩;rcases l with l|⟨k,c,e,z⟩
  .exact .inl l
  .exact .inr ⟨k,c,e,cellK x c e _ z⟩
 .obtain⟨v,z⟩:=I.cell x c e;exact⟨v,cellK x c e v z⟩
 .obtain⟨m,⟨o,_,_,ho,_⟩,_⟩:=I.loc;exact free _ o (λz=>(hch _ z).2.1 rfl) ho I.free
 .obtain⟨v,o,ho,hd⟩:=I.cell x c e;exact free c o (λz=>(hch c z).2.2.1 x c e rfl) ho (I.freeC x c e)
 .obtain⟨e,n,ne,B,d⟩:=I.pin p A;have f:p.1∉ch:=λz=>(hch p.1 z).2.2.2 p A rfl;exact⟨keep p.1 p.2 ne B f e n,free p.1 p.2 f e n,ne,B,d⟩
def Inv.un(I:Inv X pins σ H s)(u:Un X.fs [] H H' s.heap h')(hok:bE X.prog X.w H' h'):Inv X pins σ H' { s with heap:=h',toks:=t' }:=by
 obtain⟨m,⟨o,es,ep,ho,r⟩,_⟩:=id I.loc;obtain⟨sl,f⟩:=u.any ho I.free (by simp);exact I.step (ch:=[]) (λ_ z=>nomatch z) (λb o _ hb _ e n=>u.keep b o e n hb (by simp)) (λb o _ hb _ e n=>u.slot b o e n hb (by simp)) (λb o _ e n=>u.free b o e n (by simp)) (λb o _ e=>u.there b o e (by simp)) u.tups u.frzs u.tbls (λi g=>by obtain⟨o',c,d,a,h⟩:=g;rw[ho]at a;cases a;exact⟨_,c,d,f,h⟩) hok I.bare
def Inv.call(I:Inv X pins σ H s)(u:Un (dH X.stack) ch H H' s.heap h')(hok:bE X.prog X.w H' h')(i:AllBare g')
  (hch:∀b∈ch,(b∈X.ex\/X.s₀.heap.objs.size<=b)/\b≠X.env.locals/\(∀x c,X.env.cells.lookup x=Vn c->c≠b)/\∀p∈X.pn++pins,p.1≠b) :
  Inv X pins σ H' { s with heap:=h',gens:=g',drawn:=d',toks:=t' }:=by
 obtain⟨m,⟨o,es,ep,ho,r⟩,_⟩:=id I.loc;obtain⟨sl,f⟩:=u.any ho I.free λz=>(hch _ z).2.1 rfl;exact I.step hch (λb o f hb a e n=>u.keep b o e n (λz=>(Gh.mp (I.stkSub b z)).elim f hb) a) (λb o _ _ a e n=>u.any e n a) (λb o a e n=>u.free b o e n a) (λb o a e=>u.there b o e a) u.tups u.frzs u.tbls (λq j=>by obtain⟨o',g,h,d,l⟩:=j;rw[ho]at d;cases d;exact⟨_,g,h,f,l⟩) hok i
def Inv.turned(I:Inv X pins σ H s)(k:∀b o,b≠it->s.heap.get? b=Vn o->h'.get? b=Vn o)(g:H it=Vo)(f:it≠X.env.locals)
  (h1:it∈X.ex\/X.s₀.heap.objs.size<=it) (h2:∀x c,X.env.cells.lookup x=Vn c->c≠it) (h:∀p∈X.pn++pins,p.1≠it):Inv X pins σ H { s with heap:=h',toks:=t' }:=by
 have d:∀b u,H b=Vn u->b≠it:=λb u e z=>by rw[z,g]at e;cases e
 refine I.step (ch:=[it]) (λb hb=>?_) (λb o _ _ a e _=>k b o (λz=>a (by simp[z])) e) (λb o _ _ a e _=>⟨o.slots,k b o (λz=>a (by simp[z])) e⟩) (λ_ _ _ _ n=>n)
  (λb o a e=>⟨o,k b o (λz=>a (by simp[z])) e⟩) (λ_ _ e=>e) (λ_ _ _ e=>e) (λb ps e=>⟨#[],by rw[e];simp⟩) (λm i=>?_) (λb u e=>?_) I.bare
 .have e:b=it:=by simpa using hb
  subst e;exact⟨h1,f,h2,h⟩
 .obtain⟨o,es,ep,ho,r⟩:=i;exact⟨o,es,ep,k _ o (HQ f) ho,r⟩
 .refine(I.hok b u e).stay (λc v a q=>k c v ?_ q) (λ_ q=>q) λ_ _ q=>q;rcases a with z|z
  .rw[z];exact d b u e
  .exact d c _ z
def Inv.tok(I:Inv X pins σ H s)(t):Inv X pins σ H { s with toks:=t }:=I.un Un.refl I.hok
theorem Inv.kept{t':Nat}(I:Inv X pins σ H s)(k:∀b u,s.heap.get? b=Vn u->h'.get? b=Vn u):Inv X pins σ H { s with heap:=h',toks:=t' }:=I.un (Un.kept k) (I.hok.kept k)
theorem Inv.laid{a:Vb}{o:HO}{t':Nat}(I:Inv X pins σ H s)(k:∀b u,s.heap.get? b=Vn u->h'.get? b=Vn u)(c:s.heap.objs.size<=a)(new:bI X.prog X.w (upd H a o) h' a o):
  Inv X pins σ (upd H a o) { s with heap:=h',toks:=t' }:=I.un (Un.laid k c (I.hok.fresh c)) (I.hok.laid k c new)
theorem Inv.write{x e:Vb}{o:HO}{t':Nat}(I:Inv X pins σ H s)(c:kz (H x))(d:e=x\/H e=Vn (.own x))(k:∀b u,b≠e->s.heap.get? b=Vn u->h'.get? b=Vn u)(a:∃u,h'.get? e=Vn u)
  (new:bI X.prog X.w (upd H x o) h' x o):Inv X pins σ (upd H x o) { s with heap:=h',toks:=t' }:=I.un (Un.write c d k a) (I.hok.write c d k a new)
def Inv.pins_of{a:List (Vb×Obj)}(I:Inv X pins σ H s)(h:∀p∈a,s.heap.get? p.1=Vn p.2/\H p.1=Vo/\p.1≠X.env.locals/\p.1∉X.fs/\∀v,p.2.data≠.cell v):Inv X a σ H s:=
 ⟨I.ok,I.os,I.bare,I.base,I.loc,I.cell,I.free,I.freeC,λp b=>(Gr.mp b).elim (λz=>I.pin p (GN _ z)) (h p),I.hok,I.len⟩
def vK{N:List Vm}(c:N.Nodup){i j:Nat}(a:N[i]?=Vn x)(b:N[j]?=Vn x):i=j:=by obtain⟨h1,d⟩:=F9.mp a;obtain⟨h2,e⟩:=F9.mp b;exact(List.getElem_inj c).mp (d.trans e.symm)
def vd{M:Model}{A:Vi}{E:Va->Vc->Prop}{i:Nat}{x:Vm}{Q:Unit->Vc->Prop}(I:Inv X pins σ H s)(hN:X.N.Nodup)(hi:X.N[i]?=Vn x)(l:Loc X.env.scope x)(r:RelV v u)
  (h:∀s',Inv X pins (σ.set i (Vn v)) H s'->(∃a,Ip a s.heap s'.heap/\(a=X.env.locals\/X.env.cells.lookup x=Vn a))->Q () s') (hf:X.fn x=true\/X.env.scope.names.lookup x=Vn .local:=by first|exact .inl rfl|exact .inr rfl|assumption):Vf M A (storeName X.env x u) Q E s:=by
 obtain⟨m,U,hl⟩:=id I.loc;have L:(X.env.scope.kind == .class || (X.env.scope.kind == .module && X.env.locals != X.env.globals))=false:=by rw[I.ok.kind];rfl
 have F:i<σ.length:=by rw[I.len];exact(F9.mp hi).1
 have cne:=I.cne;have tracked:∀{a:Vb} {h':Vh},(∃o,s.heap.get? a=Vn o/\H a=Vo)->Ip a s.heap h'->bE X.prog X.w H h':=λ{a h'} ha hs b ob e=>by
  obtain⟨_,_,B⟩:=ha;refine(I.hok b ob e).stay (λc T g q=>(hs.2 c ?_).trans q) (λ_ q=>q) λ_ _ q=>q;rintro rfl;rcases g with rfl|g
  .rw[B]at e;cases e
  .rw[B]at g;cases g
 rcases l with G|G
 .refine wpAny_storeName_local G U (λh' W hs=>?_) L;obtain⟨oL,_,_,Y,_⟩:=id U;refine h _ ⟨I.ok,I.os,I.bare,⟨λb o e n hb l=>?_,λb o e n hb l=>?_,I.base.free,λb o e l=>?_,I.base.tups,I.base.frzs,I.base.tbls⟩,⟨_,W,λj y Z f C e3=>?_⟩,λy c e=>?_,I.free,I.freeC,λp hp=>?_,tracked ⟨oL,Y,I.free⟩ hs,by simpa using I.len⟩ ⟨_,hs,.inl rfl⟩
  .exact(hs.2 b (Gm (GA (F0 e) I.ok.above))).trans (I.base.keep b o e n hb l)
  .obtain⟨sl,f⟩:=I.base.slot b o e n hb l;exact⟨sl,(hs.2 b (Gm (GA (F0 e) I.ok.above))).trans f⟩
  .obtain⟨o',f⟩:=I.base.there b o e l;exact⟨o',(hs.2 b (Gm (GA (F0 e) I.ok.above))).trans f⟩
  .by_cases J:j=i
   .subst J;rw[hi]at f;cases f;rw[Jq F]at C;cases C;exact⟨u,r,.inl ⟨G,by simp⟩⟩
   .rw[KA (HQ J)]at C;obtain⟨u',r',q⟩:=hl j y Z f C e3;refine⟨u',r',?_⟩;rcases q with⟨k,e⟩|⟨k,c,e,z⟩
    .refine .inl ⟨k,?_⟩;have:y≠x:=λe=>J (vK hN f (e ▸ hi));simp[this,e]
    .exact .inr ⟨k,c,e,z.sameBut hs (cne y c e)⟩
  .obtain⟨T,z⟩:=I.cell y c e;exact⟨T,z.sameBut hs (cne y c e)⟩
  .obtain⟨e,n,ne,nf,d⟩:=I.pin p hp;exact⟨(hs.2 p.1 ne).trans e,n,ne,nf,d⟩
 .have hfn:X.fn x=true:=by
   rcases hf with z|z
   .exact z
   .rw[z]at G;cases G
  obtain⟨c,g⟩:=I.ok.has x (.inl G);obtain⟨T,z⟩:=I.cell x c g;refine wpAny_storeName_cell I.ok.kind G g z (λh' O hs=>?_);obtain⟨oc,P,R⟩:=id z;refine h { s with heap:=h' } ⟨I.ok,I.os,I.bare,⟨λb o e n hb l=>?_,λb o e n hb l=>?_,I.base.free,λb o e l=>?_,I.base.tups,I.base.frzs,I.base.tbls⟩,⟨m,U.sameBut hs (HQ (cne x c g)),λj y Z f C e3=>?_⟩,λy c' e=>?_,I.free,I.freeC,λp hp=>?_,tracked ⟨oc,P,I.freeC x c g⟩ hs,by simpa using I.len⟩ ⟨c,hs,.inr g⟩
  .exact(hs.2 b (Gm (GA (F0 e) (I.ok.cab x c hfn g)))).trans (I.base.keep b o e n hb l)
  .obtain⟨sl,f⟩:=I.base.slot b o e n hb l;exact⟨sl,(hs.2 b (Gm (GA (F0 e) (I.ok.cab x c hfn g)))).trans f⟩
  .obtain⟨o',f⟩:=I.base.there b o e l;exact⟨o',(hs.2 b (Gm (GA (F0 e) (I.ok.cab x c hfn g)))).trans f⟩
  .by_cases J:j=i
   .subst J;rw[hi]at f;cases f;rw[Jq F]at C;cases C;exact⟨u,r,.inr ⟨.inl G,c,g,O⟩⟩
   .rw[KA (HQ J)]at C;obtain⟨u',r',q⟩:=hl j y Z f C e3;refine⟨u',r',?_⟩;rcases q with q|⟨k,c',e,z'⟩
    .exact .inl q
    .refine .inr ⟨k,c',e,z'.sameBut hs ?_⟩;rintro rfl;exact J (vK hN f (I.ok.inj _ _ _ e g ▸ hi))
  .by_cases S:c'=c
   .subst S;exact⟨_,O⟩
   .obtain⟨w2,z2⟩:=I.cell y c' e;exact⟨w2,z2.sameBut hs S⟩
  .obtain⟨e,n,ne,nf,d⟩:=I.pin p hp;refine⟨(hs.2 p.1 ?_).trans e,n,ne,nf,d⟩;intro q;rw[q,P]at e;have q':oc=p.2:=GK e;exact d T (by rw[<-q'];exact R)
def kc{M:Model}{A:Vi}{E:Va->Vc->Prop}{i:Nat}{x:Vm}{Q:Unit->Vc->Prop}(I:Inv X pins σ H s)(a:X.N.Nodup)(hi:X.N[i]?=Vn x)(b:Loc X.env.scope x)(r:RelV v u)
  (h:∀s',Inv X pins (σ.set i (Vn v)) H s'->Q () s') (c:X.fn x=true\/X.env.scope.names.lookup x=Vn .local:=by first|exact .inl rfl|exact .inr rfl|assumption):Vf M A (storeName X.env x u) Q E s:=
 vd I a hi b r (λs' d _=>h s' d) c
def Inv.call'(I:Inv X pins σ H s)(ho:s'.os=s.os)(u:Un (dH X.stack) ch H H' s.heap s'.heap)(hok:bE X.prog X.w H' s'.heap)(a:AllBare s'.gens)
  (hch:∀b∈ch,(b∈X.ex\/X.s₀.heap.objs.size<=b)/\b≠X.env.locals/\(∀x c,X.env.cells.lookup x=Vn c->c≠b)/\∀p∈X.pn++pins,p.1≠b):Inv X pins σ H' s':=by
 obtain⟨h',g',d',t',o'⟩:=s';have e:o'=s.os:=ho;subst e;exact I.call u hok a hch
end
abbrev XK:=Va->Option Vb->Hp->Prop
abbrev St:=List (Option V)
abbrev VK:=V->Hp->Prop
abbrev TE:=St->Hp->VK->Prop
abbrev TT:=St->Hp->(Bool->Hp->Prop)->Prop
abbrev TA:=St->Hp->(List V->Hp->Prop)->Prop
structure Ends where
 nx:St->Hp->Prop
 rt:VK
 bk:St->Hp->Prop:=λ_ _=>False
 ct:St->Hp->Prop:=λ_ _=>False
abbrev TS:=Ends->St->Hp->Prop
def EP(X:Cx)(pins:List (Vb×Obj))(σ:St)(Q:VK)(u:Va)(s':Vc):Prop:=∃v H',Inv X pins σ H' s'/\RelV v u/\Q v H'
def TP(X:Cx)(pins:List (Vb×Obj))(σ:St)(Q:Bool->Hp->Prop)(b:Bool)(s':Vc):Prop:=∃H',Inv X pins σ H' s'/\Q b H'
def AP(X:Cx)(pins:List (Vb×Obj))(σ:St)(Q:List V->Hp->Prop)(us:List Va)(s':Vc):Prop:=∃vs H',Inv X pins σ H' s'/\Vals vs us/\Q vs H'
def SP(X:Cx)(pins:List (Vb×Obj))(D:Ends)(f:Flow)(s':Vc):Prop:=
 match f with
 | .next=>∃a H',Inv X pins a H' s'/\D.nx a H'
 | .brk=>∃a H',Inv X pins a H' s'/\D.bk a H'
 | .cont=>∃a H',Inv X pins a H' s'/\D.ct a H'
 | .ret u=>∃v a H',Inv X pins a H' s'/\RelV v u/\D.rt v H'
def PE(X:Cx)(e:Vk)(t:TE):Prop:=
 ∀(pins:List (Vb×Obj)) (s:Vc) (σ:St) (H:Hp) (Q:VK),Inv X pins σ H s->t σ H Q->Vf (Vg X.prog X.w) X.A (eval e X.env) (EP X pins σ Q) X.xe s
def PT(X:Cx)(e:Vk)(t:TT):Prop:=
 ∀(pins:List (Vb×Obj)) (s:Vc) (σ:St) (H:Hp) (Q:Bool->Hp->Prop),Inv X pins σ H s->t σ H Q->Vf (Vg X.prog X.w) X.A (isTrue e X.env (eval e X.env)) (TP X pins σ Q) X.xe s
def PW(X:Cx)(e:Vk)(t:TT):Prop:=
 ∀(whole:Sem Va) (pins:List (Vb×Obj)) (s:Vc) (σ:St) (H:Hp) (Q:Bool->Hp->Prop),Inv X pins σ H s->t σ H Q->Vf (Vg X.prog X.w) X.A (isTrue e X.env whole) (TP X pins σ Q) X.xe s
def PW.pt(h:PW X e t):PT X e t:=h _
def PA(X:Cx)(es:List Vk)(t:TA):Prop:=
 ∀(pos:Pos) (pins:List (Vb×Obj)) (s:Vc) (σ:St) (H:Hp) (Q:List V->Hp->Prop),Inv X pins σ H s->t σ H Q->Vf (Vg X.prog X.w) X.A (spliced (backTo pos (starEach es X.env))) (AP X pins σ Q) X.xe s
def PS(X:Cx)(st:Stmt)(t:TS):Prop:=
 ∀(pins:List (Vb×Obj)) (s:Vc) (σ:St) (H:Hp) (D:Ends),Inv X pins σ H s->t D σ H->Vf (Vg X.prog X.w) X.A (exec st X.env) (SP X pins D) X.xe s
def cM(X:Cx)(st:List Stmt)(t:TS):Prop:=
 ∀(pins:List (Vb×Obj)) (s:Vc) (σ:St) (H:Hp) (D:Ends),Inv X pins σ H s->t D σ H->Vf (Vg X.prog X.w) X.A (execs st X.env) (SP X pins D) X.xe s
def aJ{t:Sem α}{Q b:α->Vc->Prop}(h:Vf M A t Q E s)(c:∀a s,Q a s->b a s):Vf M A t b E s:=wpAny_mono h c λ_ _ x=>x
section
variable {X:Cx}
def bin(ha:PE X a ta)(hb:PE X b tb){σ:St}{R:V->V->Hp->Prop}(I:Inv X pins σ H s)(h:ta σ H λx H1=>tb σ H1 λy H2=>R x y H2)
   {Q:α->Vc->Prop} {f:Va->Va->Sem α}
  (e:∀v u s2 x y H2,Inv X pins σ H2 s2->RelV x v->RelV y u->R x y H2->Vf (Vg X.prog X.w) X.A (f v u) Q X.xe s2) :
  Vf (Vg X.prog X.w) X.A (eval a X.env) (λv c=>Vf (Vg X.prog X.w) X.A (eval b X.env) (λu d=>Vf (Vg X.prog X.w) X.A (f v u) Q X.xe d) X.xe c) X.xe s:=by
 refine aJ (ha pins s σ H _ I h) λv s1 ⟨x,H1,g,r1,i⟩=>?_;refine aJ (hb pins s1 σ H1 _ g i) λu s2 ⟨y,H2,j,l,m⟩=>?_;exact e v u s2 x y H2 j r1 l m
def ko(i:Nat):TE:=λσ H Q=>∃v,σ[i]?=Vn (Vn v)/\Q v H
def tC(v:V):TE:=λ_ H Q=>Q v H
def pQ{i:Nat}{x:Vm}{pos:Pos}(g:X.N[i]?=Vn x)(j:lF X.env.scope x)(hd:(x == ("__debug__":Vm))=false:=by decide)(d:(x == ("__classdict__":Vm))=false:=by decide):PE X (.Name x pos) (ko i):=by
 intro pins s σ H Q I h;obtain⟨v,e,h⟩:=h;obtain⟨m,n,o⟩:=I.loc;obtain⟨u,r,l⟩:=o i x v g e j;have fin:EP X pins σ Q u s:=⟨v,H,I,r,h⟩;rcases l with⟨b,p⟩|⟨b,c,f,a⟩
 .exact wpAny_Name (wpAny_loadName_local I.ok.kind b n p fin) hd
 .rcases b with b|b
  .exact wpAny_Name (wpAny_loadName_cell I.ok.kind b f a fin) hd
  .exact wpAny_Name (wpAny_loadName_free I.ok.kind b f a fin d) hd
def ae{i j pos}:PE X (.Constant (.int i) j pos) (tC (.int i)):=λ_ _ _ H _ I h=>wpAny_Constant_int ⟨.int i,H,I.tok _,⟨_,rfl⟩,h⟩
def b9{b j pos}:PE X (.Constant (.bool b) j pos) (tC (.bl b)):=λ_ _ _ H _ I h=>Constant_bool ⟨.bl b,H,I,rfl,h⟩
def i8{j pos}:PE X (.Constant .none j pos) (tC .non):=λ_ _ _ H _ I h=>Constant_none ⟨.non,H,I,rfl,h⟩
def bf{x j pos}:PE X (.Constant (.str x) j pos) (tC (.str x)):=λ_ _ _ H _ I h=>Calls.Constant_str ⟨.str x,H,I.tok _,⟨_,rfl⟩,h⟩
def Gl(X:Cx)(x:Vm):Prop:=X.env.kindOf x=Vn .globalImplicit
def j4{E:Va->Vc->Prop}{σ:St}{x:Vm}{pos:Pos}{Q:Va->Vc->Prop}(I:Inv X pins σ H s)(a:Gl X x)(b:X.mg x=Vn u)(h:Q u s)
  (hd:(x == ("__debug__":Vm))=false:=by decide):Vf (Vg X.prog X.w) X.A (eval (.Name x pos) X.env) Q E s:=
 Kj I.ok.kind a (Calls.loadGlobal_global (by rw[I.ok.glob];exact I.mod.glob.keeps I.bk) b h) hd
def fu{E:Va->Vc->Prop}{σ:St}{x:Vm}{pos:Pos}{Q:Va->Vc->Prop}(I:Inv X pins σ H s)(a:Gl X x)(b:X.mg x=Vo)(c:bootBuiltins x=Vn u)(h:Q u s)
  (d:x≠"__name__":=by decide) (hd:(x == ("__debug__":Vm))=false:=by decide):Vf (Vg X.prog X.w) X.A (eval (.Name x pos) X.env) Q E s:=by
 obtain⟨mb,h1,h2⟩:=I.mod.blt;exact Kj I.ok.kind a (Calls.loadGlobal_builtin (by rw[I.ok.glob];exact I.mod.glob.keeps I.bk) b (by rw[I.ok.blt];exact h1.keeps I.bk) ((h2 x d).trans c) h) hd
def jz{x:Vm}{pos:Pos}(a:Gl X x)(b:X.mg x=Vn u)(r:RelV v u)(hd:(x == ("__debug__":Vm))=false:=by decide):PE X (.Name x pos) (tC v):=
 λ_ _ _ H _ I h=>j4 I a b ⟨v,H,I,r,h⟩ hd
def ib{x:Vm}{pos:Pos}(a:Gl X x)(b:X.mg x=Vo)(c:bootBuiltins x=Vn u)(r:RelV v u)(d:x≠"__name__":=by decide)(hd:(x == ("__debug__":Vm))=false:=by decide):PE X (.Name x pos) (tC v):=
 λ_ _ _ H _ I h=>fu I a b c ⟨v,H,I,r,h⟩ d hd
variable {a b:Vk} {ta tb:TE} {pos:Pos}
def PC(X:Cx)(op:CmpOp)(a b:Vk)(t:TE):Prop:=
 ∀(pins:List (Vb×Obj)) (s:Vc) (σ:St) (H:Hp) (Q:VK),Inv X pins σ H s->t σ H Q ->
  Vf (Vg X.prog X.w) X.A (eval a X.env) (λv c=>Vf (Vg X.prog X.w) X.A (eval b X.env) (λu d=>Vf (Vg X.prog X.w) X.A (compareOp op v u) (EP X pins σ Q) X.xe d) X.xe c) X.xe s
def tB(t:TE):TT:=λσ H Q=>t σ H λx H1=>∃c,x=.bl c/\Q c H1
def Bh{op:CmpOp}{t:TE}(h:PC X op a b t)(h1:behindInMarks op b=false:=by first|exact nobehind _ (by decide) (by decide)|rfl):PE X (.Compare a [op] [b] pos) t:=λpins s σ H Q I c=>wpAny_Compare1 (h pins s σ H Q I c) h1
def g7{op:CmpOp}{t:TE}(h:PC X op a b t)(h1:behindInMarks op b=false:=by first|exact nobehind _ (by decide) (by decide)|rfl):PT X (.Compare a [op] [b] pos) (tB t):=by intro pins s σ H Q I e;refine wpAny_isTrue_Compare1 (aJ (h pins s σ H _ I e) λv s1 h1=>aJ h1 λu s2 h2=>aJ h2 λc i ⟨x,H1,f,r1,g⟩=>?_) h1;obtain⟨d,rfl,q⟩:=g;cases r1;exact wpAny_truthy_bool ⟨H1,f,q⟩
def cj{e:Vk}{t:TE}(h:PE X e t)(a:∀whole,isTrue e X.env whole=(do let v <-whole;standAt e.pos;holding [v] (truthy v)):=by intro _;rfl):PT X e (tB t):=by intro pins s σ H Q I b;refine isTrue_plain (aJ (h pins s σ H _ I b) λv s1 ⟨x,H1,c,r1,f⟩=>?_) (a _);obtain⟨d,rfl,q⟩:=f;cases r1;exact wpAny_truthy_bool ⟨H1,c,q⟩
variable {tA tB':TT} {rest:List Vk}
def uG(t u:TT):TT:=λσ H Q=>t σ H λc H1=>if c=true then u σ H1 Q else Q false H1
def w9(t u:TT):TT:=λσ H Q=>t σ H λc H1=>if c=true then Q true H1 else u σ H1 Q
def xY(t:TT):TT:=λσ H Q=>t σ H λc H1=>Q (!c) H1
def iG(ha:PT X a tA):PW X (.BoolOp .And [a] pos) tA:=by
 intro b pins s σ H Q I h;refine isTrue_and (aJ (ha pins s σ H Q I h) λc s1 e=>?_);cases c with
 | true=>exact isTrue_and_nil e
 | false=>exact e
def fZ(ha:PT X a tA):PW X (.BoolOp .Or [a] pos) tA:=by
 intro b pins s σ H Q I h;refine isTrue_or (aJ (ha pins s σ H Q I h) λc s1 e=>?_);cases c with
 | false=>exact isTrue_or_nil e
 | true=>exact e
def gQ(ha:PT X a tA)(hb:PW X (.BoolOp .And (b::rest) pos) tB'):PW X (.BoolOp .And (a::b::rest) pos) (uG tA tB'):=by
 intro f pins s σ H Q I h;refine isTrue_and (aJ (ha pins s σ H _ I h) λc s1 ⟨H1,d,e⟩=>?_);cases c with
 | true=>exact hb f pins s1 σ H1 Q d e
 | false=>exact⟨H1,d,e⟩
def eQ(ha:PT X a tA)(hb:PW X (.BoolOp .Or (b::rest) pos) tB'):PW X (.BoolOp .Or (a::b::rest) pos) (w9 tA tB'):=by
 intro f pins s σ H Q I h;refine isTrue_or (aJ (ha pins s σ H _ I h) λc s1 ⟨H1,d,e⟩=>?_);cases c with
 | true=>exact⟨H1,d,e⟩
 | false=>exact hb f pins s1 σ H1 Q d e
def dR(ha:PT X a tA):PT X (.UnaryOp .Not a pos) (xY tA):=by intro pins s σ H Q I h;exact isTrue_not (ha pins s σ H (λc H1=>Q (!c) H1) I h)
def uM(ta tb:TE):TE:=λσ H Q=>ta σ H λx H1=>∃c,x=.bl c/\if c=true then tb σ H1 Q else Q (.bl false) H1
def qS(ta tb:TE):TE:=λσ H Q=>ta σ H λx H1=>∃c,x=.bl c/\if c=true then Q (.bl true) H1 else tb σ H1 Q
def rF(ta:TE):TE:=λσ H Q=>ta σ H λx H1=>∃c,x=.bl c/\Q (.bl (!c)) H1
def eL{op}(h:PE X a t):PE X (.BoolOp op [a] pos) t:=λpins s σ H Q I b=>BoolOp_one (h pins s σ H Q I b)
def fm(ha:PE X a ta)(hb:PE X (.BoolOp .And (b::rest) pos) tb):PE X (.BoolOp .And (a::b::rest) pos) (uM ta tb):=by
 intro pins s σ H Q I h;refine BoolOp_and (aJ (ha pins s σ H _ I h) λv s1 ⟨x,H1,e,r1,d⟩=>?_);obtain⟨c,rfl,d⟩:=d;cases r1;refine wpAny_truthy_bool ?_;cases c with
 | true=>exact hb pins s1 σ H1 Q e d
 | false=>exact⟨.bl false,H1,e,rfl,d⟩
def pN(ha:PE X a ta)(hb:PE X (.BoolOp .Or (b::rest) pos) tb):PE X (.BoolOp .Or (a::b::rest) pos) (qS ta tb):=by
 intro pins s σ H Q I h;refine BoolOp_or (aJ (ha pins s σ H _ I h) λv s1 ⟨x,H1,e,r1,d⟩=>?_);obtain⟨c,rfl,d⟩:=d;cases r1;refine wpAny_truthy_bool ?_;cases c with
 | false=>exact hb pins s1 σ H1 Q e d
 | true=>exact⟨.bl true,H1,e,rfl,d⟩
def xD(ha:PE X a ta):PE X (.UnaryOp .Not a pos) (rF ta):=by intro pins s σ H Q I h;refine UnaryOp_ (aJ (ha pins s σ H _ I h) λv s1 ⟨x,H1,d,r1,b⟩=>?_);obtain⟨c,rfl,b⟩:=b;cases r1;exact not_of (wpAny_truthy_bool ⟨.bl (!c),H1,d,rfl,b⟩)
end
def af(K:FX)(H:Hp)(a:Vb)(xs:List V):Prop:=
 Rd H a (.lst xs) ∨
  ∃(o:Obj) (b:Array Va) (n:Nat),K.lookup a=Vn o/\o.cls=.type "list"/\o.dict=Vo/\o.data=.seq b n/\b.size<=sizeLine/\Vals xs b.toList
def ax(K:FX)(H:Hp)(a:Vb)(xs:List V):Prop:=
 Rd H a (.tup xs) ∨
  ∃(o:Obj) (b:Array Va) (n:Nat),K.lookup a=Vn o/\o.cls=.type "tuple"/\o.data=.seq b n/\b.size<=sizeLine/\Vals xs b.toList
def C6:Va->Option V
 | .none=>Vn .non
 | .bool b=>Vn (.bl b)
 | .int i _=>Vn (.int i)
 | .str x _=>Vn (.str x)
 | .bytes b _=>Vn (.byt b)
 | .float b _=>Vn (.flt b)
 | .ref a=>Vn (.ref a)
 | .type n=>Vn (.ty n)
 | _=>Vo
def RelV.abs(r:RelV x u):C6 u=Vn x:=by
 cases x with
 | non=>cases r;rfl
 | bl _=>cases r;rfl
 | int _=>obtain⟨t,rfl⟩:=r;rfl
 | str _=>obtain⟨t,rfl⟩:=r;rfl
 | byt _=>obtain⟨t,rfl⟩:=r;rfl
 | flt _=>obtain⟨t,rfl⟩:=r;rfl
 | ref _=>cases r;rfl
 | ty _=>cases r;rfl
def RelV.inj(r:RelV x u)(q:RelV y u):x=y:=GK (r.abs.symm.trans q.abs)
theorem Vals.inj:∀{xs ys:List V} {us:List Va},Vals xs us->Vals ys us->xs=ys
 | _,_,_,.nil,.nil=>rfl
 | _,_,_,.cons r t,.cons a t'=>by rw[r.inj a,Vals.inj t t']
section
variable {X:Cx} {pins:List (Vb×Obj)} {σ:St} {H:Hp} {s:Vc} {a:Vb} {xs ys:List V}
def af.of{K:FX}(h:H a=Vn (.lst xs)):af K H a xs:=.inl (.inl h)
def ax.of{K:FX}(h:H a=Vn (.tup xs)):ax K H a xs:=.inl (.inl h)
theorem Inv.list(I:Inv X pins σ H s)(h:af X.K H a xs):∃b,Vals xs b/\PlainL s.heap a b.toArray/\xs.length<=sizeLine:=by
 rcases h with h|⟨o,b,n,c,d,hd,hs,f,r⟩
 .obtain⟨z,b,n,r,e⟩:=h.ok I.hok;exact⟨b,r,⟨_,n,e,rfl,rfl,rfl⟩,z⟩
 .refine⟨b.toList,r,⟨o,n,I.kIn a o c,d,hd,by simpa using hs⟩,?_⟩;have e:=r.length;simp only[F5]at e;lia
theorem Inv.tuple(I:Inv X pins σ H s)(h:ax X.K H a xs):∃b,Vals xs b/\IsTup s.heap a b.toArray/\xs.length<=sizeLine:=by
 rcases h with h|⟨o,b,n,c,d,hs,f,r⟩
 .obtain⟨z,b,r,p⟩:=h.ok I.hok;exact⟨b,r,p,z⟩
 .refine⟨b.toList,r,⟨o,I.kIn a o c,d,n,by simpa using hs⟩,?_⟩;have e:=r.length;simp only[F5]at e;lia
def Inv.list_inj(I:Inv X pins σ H s)(h:af X.K H a xs)(h':af X.K H a ys):xs=ys:=by
 obtain⟨c,r,⟨o,n,e,_,_,d⟩,_⟩:=I.list h;obtain⟨b,g,⟨o',j,e',_,_,f⟩,_⟩:=I.list h';rw[e]at e';cases e';rw[d]at f;injection f with i _;have:c=b:=by simpa using congrArg Array.toList i
 subst this;exact r.inj g
def Inv.tuple_inj(I:Inv X pins σ H s)(h:ax X.K H a xs)(h':ax X.K H a ys):xs=ys:=by
 obtain⟨c,r,⟨o,e,_,n,d⟩,_⟩:=I.tuple h;obtain⟨b,g,⟨o',e',_,j,f⟩,_⟩:=I.tuple h';rw[e]at e';cases e';rw[d]at f;injection f with i _;have:c=b:=by simpa using congrArg Array.toList i
 subst this;exact r.inj g
end
abbrev Cx.wish(X:Cx)(E:Va->Vc->Prop):Cx:={ X with xe:=E }
abbrev Cx.nox(X:Cx):Cx:=X.wish λ_ _=>False
theorem Cx.Ok.wish{X:Cx}(ok:X.Ok)(E:Va->Vc->Prop):(X.wish E).Ok:=
 ⟨ok.mod,ok.kind,ok.glob,ok.blt,ok.above,ok.inj,ok.has,ok.cab,ok.hd,ok.frames,ok.stk,ok.exf,ok.bs,ok.bsz,ok.noex,ok.exfs,ok.funs,ok.frf⟩
def Cx.Ok.unwish{X:Cx}(ok:(X.wish E).Ok):X.Ok:=
 ⟨ok.mod,ok.kind,ok.glob,ok.blt,ok.above,ok.inj,ok.has,ok.cab,ok.hd,ok.frames,ok.stk,ok.exf,ok.bs,ok.bsz,ok.noex,ok.exfs,ok.funs,ok.frf⟩
section
variable {X:Cx} {pins:List (Vb×Obj)} {σ:St} {H:Hp} {s:Vc} {E:Va->Vc->Prop}
theorem Inv.wish(I:Inv X pins σ H s)(E:Va->Vc->Prop):Inv (X.wish E) pins σ H s:=⟨I.ok.wish E,I.os,I.bare,I.base,I.loc,I.cell,I.free,I.freeC,I.pin,I.hok,I.len⟩
theorem Inv.unwish(I:Inv (X.wish E) pins σ H s):Inv X pins σ H s:=⟨I.ok.unwish,I.os,I.bare,I.base,I.loc,I.cell,I.free,I.freeC,I.pin,I.hok,I.len⟩
theorem SP.unwish{D:Ends}{f:Flow}{s':Vc}(h:SP (X.wish E) pins D f s'):SP X pins D f s':=by
 cases f with
 | next=>obtain⟨a,H',I,q⟩:=h;exact⟨a,H',I.unwish,q⟩
 | brk=>obtain⟨a,H',I,q⟩:=h;exact⟨a,H',I.unwish,q⟩
 | cont=>obtain⟨a,H',I,q⟩:=h;exact⟨a,H',I.unwish,q⟩
 | ret u=>obtain⟨v,a,H',I,r,q⟩:=h;exact⟨v,a,H',I.unwish,r,q⟩
theorem cM.nox{st:List Stmt}{t:TS}(h:cM X.nox st t):cM X st t:=λpins s σ H D I a=>
 wpAny_mono (h pins s σ H D (I.wish _) a) (λ_ _ q=>q.unwish) λ_ _ z=>HY z
end
section
variable {X:Cx} {st:Stmt} {rest:List Stmt} {t u:TS} {e:Vk} {te:TE} {pos:Pos}
def vt:TS:=λD σ H=>D.nx σ H
def sM(t u:TS):TS:=λD σ H=>t { D with nx:=u D } σ H
def a8:cM X [] vt:=λ_ _ σ H _ I h=>wpAny_execs_nil ⟨σ,H,I,h⟩
def av(h1:PS X st t)(h2:cM X rest u):cM X (st::rest) (sM t u):=by
 intro pins s σ H D I h;refine wpAny_execs_cons (aJ (h1 pins s σ H { D with nx:=u D } I h) λf s1 q=>?_);cases f with
 | next=>
  obtain⟨a,H',b,q⟩:=q;exact h2 pins s1 a H' D b q
 | ret v=>exact q
 | brk=>exact q
 | cont=>exact q
def az(h1:PS X st t):cM X [st] t:=by
 intro pins s σ H D I h;refine wpAny_execs_cons (aJ (h1 pins s σ H D I h) λf s1 q=>?_);cases f with
 | next=>exact wpAny_execs_nil q
 | ret v=>exact q
 | brk=>exact q
 | cont=>exact q
def Inv.quiet{σ:St}(I:Inv X pins σ H s):interactive X.env=false:=by simp[interactive,I.ok.kind]
def qO(te:TE):TS:=λD σ H=>te σ H λ_ H1=>D.nx σ H1
def br(a:PE X e te)(hs:swapsWith e Vo pos.line X.env=pure false:=by rfl):PS X (.Expr e pos) (qO te):=by intro pins s σ H D I h;exact wpAny_Expr_any (aJ (a pins s σ H _ I h) λv s1 ⟨x,H1,b,r1,c⟩=>⟨σ,H1,b,c⟩) I.quiet hs
def sR(te:TE):TS:=λD σ H=>te σ H D.rt
def aL(a:PE X e te):PS X (.Return (Vn e) pos) (sR te):=by intro pins s σ H D I h;exact wpAny_Return_some (aJ (a pins s σ H _ I h) λv s1 ⟨x,H1,b,r1,c⟩=>⟨x,σ,H1,b,r1,c⟩)
def vv(c:TT)(t u:TS):TS:=λD σ H=>c σ H λb H1=>if b=true then t D σ H1 else u D σ H1
def bH{c}{a b}{tc}(g:PT X c tc)(ha:cM X a t)(hb:cM X b u):PS X (.If c a b pos) (vv tc t u):=by
 intro pins s σ H D I h;refine wpAny_If (aJ (g pins s σ H _ I h) λd s1 ⟨H1,e,f⟩=>?_);cases d with
 | true=>exact ha pins s1 σ H1 D e f
 | false=>exact hb pins s1 σ H1 D e f
def AB:TS:=λ_ _ _=>False
def iZ:PS X st AB:=λ_ _ _ _ _ _ h=>h.elim
end
abbrev TG:=V->St->Hp->(St->Hp->Prop)->Prop
abbrev eW:=List V->St->Hp->(St->Hp->Prop)->Prop
def PG(X:Cx)(target:Vk)(t:TG):Prop:=
 ∀(pins:List (Vb×Obj)) (s:Vc) (σ:St) (H:Hp) (v:V) (u:Va) (Q:St->Hp->Prop),Inv X pins σ H s->RelV v u->t v σ H Q ->
  Vf (Vg X.prog X.w) X.A (assign target X.env u) (λ_ s'=>∃a H',Inv X pins a H' s'/\Q a H') X.xe s
def jk(X:Cx)(ts:List Vk)(t:eW):Prop:=
 ∀(pins:List (Vb×Obj)) (s:Vc) (σ:St) (H:Hp) (vs:List V) (us:List Va) (Q:St->Hp->Prop),Inv X pins σ H s->Vals vs us->t vs σ H Q ->
  Vf (Vg X.prog X.w) X.A (assignInOrder ((assignEach ts X.env).map (·.2)) us) (λ_ s'=>∃a H',Inv X pins a H' s'/\Q a H') X.xe s
abbrev mD:=V->V->V->Hp->(Hp->Prop)->Prop
def ue(X:Cx)(t:mD):Prop:=
 ∀(pins:List (Vb×Obj)) (s:Vc) (σ:St) (H:Hp) (o i v:V) (a b u:Va) (Q:Hp->Prop),Inv X pins σ H s->RelV o a->RelV i b->RelV v u->t o i v H Q ->
  Vf (Vg X.prog X.w) X.A (setItem a b u) (λ_ s'=>∃H',Inv X pins σ H' s'/\Q H') X.xe s
abbrev kB:=V->V->Hp->VK->Prop
def nj(X:Cx)(op:Operator)(t:kB):Prop:=
 ∀(pins:List (Vb×Obj)) (s:Vc) (σ:St) (H:Hp) (x y:V) (v u:Va) (Q:VK),Inv X pins σ H s->RelV x v->RelV y u->t x y H Q ->
  Vf (Vg X.prog X.w) X.A (inplaceOp op v u) (EP X pins σ Q) X.xe s
section
variable {X:Cx} {pos:Pos}
def jR(i:Nat):TG:=λv σ H Q=>Q (σ.set i (Vn v)) H
def aN{i:Nat}{x:Vm}(a:X.N.Nodup)(hi:X.N[i]?=Vn x)(b:Loc X.env.scope x)(c:X.fn x=true\/X.env.scope.names.lookup x=Vn .local:=by first|exact .inl rfl|exact .inr rfl|assumption):PG X (.Name x pos) (jR i):=by intro pins s σ H v u Q I r h;exact wpAny_assign_Name (kc I a hi b r (λs' d=>⟨_,H,d,h⟩) c)
def uN:eW:=λvs σ H Q=>vs=[]/\Q σ H
def xo(t:TG)(u:eW):eW:=λvs σ H Q=>∃v r,vs=v::r/\t v σ H λa H'=>u r a H' Q
def dY:jk X [] uN:=by intro pins s σ H vs us Q I r h;obtain⟨e,h⟩:=h;subst e;cases r;exact assignInOrder_nil ⟨σ,H,I,h⟩
def bG{e:Vk}{es:List Vk}{t:TG}{u:eW}(h1:PG X e t)(h2:jk X es u)
  (hs:(assignEach (e::es) X.env).map (·.2)=assign e X.env::(assignEach es X.env).map (·.2):=by rfl):jk X (e::es) (xo t u):=by
 intro pins s σ H vs us Q I r h;obtain⟨v,g,b,h⟩:=h;subst b;cases r with
 | cons r c=>
  rw[hs];refine assignInOrder_cons (aJ (h1 pins s σ H _ _ _ I r h) λ_ s1 ⟨a,H1,d,f⟩=>?_);exact h2 pins s1 a H1 _ _ Q d c f
def pF(K:FX)(n:Nat)(t:eW):TG:=λv σ H Q=>∃a xs,v=.ref a/\ax K H a xs/\xs.length=n/\t xs σ H Q
def AJ{es:List Vk}{k:Nat}{t:eW}(g:X.calm=true)(h:jk X es t)
  (i:(assignEach es X.env).length=n:=by rfl) (c:(assignEach es X.env).findIdx? (·.1)=Vo:=by rfl):PG X (.Tuple es k pos) (pF X.K n t):=by
 intro pins s σ H v u Q I r d;obtain⟨a,xs,j,l,m,d⟩:=d;subst j;cases r;obtain⟨p,f,q,y⟩:=I.tuple l;refine assign_Tuple_tuple (I.ok.hd g) q (by simp[i,<-m,f.length]) c λh' w=>?_;have x:Inv X pins σ H { s with heap:=h' }:=I.kept (t':=s.toks) λb o e=>w b o (Gm (F0 e)) e;exact h pins _ σ H xs _ Q x (by simpa using f) d
def yc(to a:TE)(t:mD):TG:=λv σ H Q=>to σ H λo H1=>a σ H1 λi H2=>t o i v H2 λb=>Q σ b
def iO{o i:Vk}{to c:TE}{t:mD}(ho:PE X o to)(hi:PE X i c)(hs:ue X t)
  (ha:∀v,assign (.Subscript o i pos) X.env v=(do
   let a <-holding [v] (eval o X.env);let b <-holding [v,a] (eval i X.env)
   standAt pos
   holding [v,a,b] (setItem a b v)
   release [v,a,b] []):=by intro _;rfl):PG X (.Subscript o i pos) (yc to c t):=by
 intro pins s σ H v u Q I r h;refine FV (wpAny_holding (aJ (ho pins s σ H _ I h) λa s1 ⟨x,H1,d,r1,e⟩=>?_));refine FV (wpAny_holding (aJ (hi pins s1 σ H1 _ d e) λb s2 ⟨y,H2,f,g,j⟩=>?_));refine FV (wpAny_standAt (FV (wpAny_holding (aJ (hs pins s2 σ H2 x y v a b u _ f r1 g r j) λ_ p ⟨l,m,n⟩=>?_))));exact wpAny_release ⟨σ,l,m,n⟩
def lS(te:TE)(g:TG):TS:=λD σ H=>te σ H λx H1=>g x σ H1 D.nx
def gR{tg e:Vk}{te:TE}{g:TG}(a:PE X e te)(b:PG X tg g)(hs:swapsWithSole [tg] e pos.line X.env=pure false:=by rfl)(c:swappedStores [tg] e X.env=pure Vo:=by rfl)
  (h1:(assignEach [tg] X.env).map (·.2)=[assign tg X.env]:=by rfl):PS X (.Assign [tg] e pos) (lS te g):=by
 intro pins s σ H D I h;refine wpAny_Assign_stores (aJ (a pins s σ H _ I h) λv s1 ⟨x,H1,d,r1,f⟩=>?_) hs c;rw[h1];exact aJ (b pins s1 σ H1 x v _ d r1 f) λ_ s2 q=>q
def aG{i:Nat}{x:Vm}{e:Vk}{te:TE}{pos':Pos}(a:X.N.Nodup)(hi:X.N[i]?=Vn x)(b:Loc X.env.scope x)(c:PE X e te)(hs:swapsWith e (Vn (.Name x pos')) pos.line X.env=pure false:=by rfl)(d:X.fn x=true\/X.env.scope.names.lookup x=Vn .local:=by first|exact .inl rfl|exact .inr rfl|assumption):
  PS X (.Assign [.Name x pos'] e pos) (lS te (jR i)):=by
 intro pins s σ H D I h;refine wpAny_Assign_Name (aJ (c pins s σ H _ I h) λv s1 ⟨y,H1,f,r1,g⟩=>?_) hs;exact kc f a hi b r1 (λs2 j=>⟨_,H1,j,g⟩) d
def rM(i j:Nat)(ta:TA):TS:=λD σ H=>ta σ H λvs H1=>∃v w,vs=[v,w]/\D.nx ((σ.set i (Vn v)).set j (Vn w)) H1
def sL{i j:Nat}{x y:Vm}{b:Vk}{ta:TA}{f py pt:Pos}{kt k2 pt2}(C:X.calm=true)(r:X.N.Nodup)(hi:X.N[i]?=Vn x)(E:X.N[j]?=Vn y)(g:i≠j)
  (u:X.env.scope.names.lookup x=Vn .local) (z:X.env.scope.names.lookup y=Vn .local) (ha:PA X [a,b] ta)
  (F:swappedStores [.Tuple [.Name x f,.Name y py] kt pt] (.Tuple [a,b] k2 pt2) X.env=pure (Vn [x,y]))
  (hs:swapsWithSole [.Tuple [.Name x f,.Name y py] kt pt] (.Tuple [a,b] k2 pt2) pos.line X.env=pure false:=by rfl) :
  PS X (.Assign [.Tuple [.Name x f,.Name y py] kt pt] (.Tuple [a,b] k2 pt2) pos) (rM i j ta):=by
 intro pins s σ H D I h;refine FV (wpAny_standAt ?_);refine FV (FW ?_);refine FV (Tuple_ (aJ (ha _ pins s σ H _ I h) λus s1 ⟨vs,H1,G,r1,l⟩=>?_));obtain⟨v,w,J,l⟩:=l;subst J;obtain⟨c,d,rfl,L,m⟩:∃c d,us=[c,d]/\RelV v c/\RelV w d:=by
  cases r1 with
  | cons p q=>
   cases q with
   | cons M O=>
    cases O;exact⟨_,_,rfl,p,M⟩
 refine wpAny_newObj_type ?_ (by show 2<=sizeLine;decide);have P:Inv X pins σ H1 { s1 with heap:=s1.heap.push { cls:=.type "tuple",data:=.seq [c,d].toArray } }:=G.kept (t':=s1.toks) λb o e=>FY _ e;rw[F];refine FV (FW ?_);refine FV (wpAny_rule (FV (unpackItems_tuple (items:=#[c,d]) (I.ok.hd C) (IsTup.new s1.heap _) λh' n=>?_)));have Q:=P.kept (h':=h') (t':=s1.toks) λb o e=>n b o (Gm (F0 e)) e;refine FV (assignInOrder_cons (wpAny_bindName (kc Q r E (.inl z) m (λs2 R=>?_) (.inr z))));refine assignInOrder_cons (wpAny_bindName (kc R r hi (.inl u) L (λS B=>assignInOrder_nil (FW ?_)) (.inr u)));rw[List.set_comm _ _ (HQ g)]at B;exact⟨_,H1,B,l⟩
def uU(i:Nat)(te:TE)(a:kB):TS:=λD σ H=>∃x,σ[i]?=Vn (Vn x)/\te σ H λy H1=>a x y H1 λz H2=>D.nx (σ.set i (Vn z)) H2
def kF{i:Nat}{x:Vm}{e:Vk}{te:TE}{op:Operator}{n:kB}{pos':Pos}(o:X.N.Nodup)(hi:X.N[i]?=Vn x)(g:Loc X.env.scope x)(p:PE X e te)(ho:nj X op n)(q:X.fn x=true\/X.env.scope.names.lookup x=Vn .local:=by first|exact .inl rfl|exact .inr rfl|assumption):
  PS X (.AugAssign (.Name x pos') op e pos) (uU i te n):=by
 intro pins s σ H D I h;obtain⟨v,B,h⟩:=h;obtain⟨m,C,E⟩:=I.loc;have j:lF X.env.scope x:=by rcases g with k|k;exact .inl k;exact .inr (.inl k)
 obtain⟨u,r,l⟩:=E i x v hi B j;refine wpAny_AugAssign_Name ?_;have go:Vf (Vg X.prog X.w) X.A (eval e X.env) (λw d=>Vf (Vg X.prog X.w) X.A (inplaceOp op u w) (λr f=>Vf (Vg X.prog X.w) X.A (storeName X.env x r) (λ_=>SP X pins D .next) X.xe f) X.xe d) X.xe s:=by refine aJ (p pins s σ H _ I h) λw s1 ⟨y,H1,F,r1,G⟩=>?_;refine aJ (ho pins s1 σ H1 v y u w _ F r r1 G) λz s2 ⟨R,H2,J,L,M⟩=>?_;exact kc J o hi g L (λS O=>⟨_,H2,O,M⟩) q
 rcases l with⟨a,P⟩|⟨a,c,Q,b⟩
 .exact wpAny_loadName_local I.ok.kind a C P go
 .rcases a with a|a
  .exact wpAny_loadName_cell I.ok.kind a Q b go
  .rcases g with k|k
   .have:X.env.scope.names.lookup x=Vn .free:=a;rw[k]at this;cases this
   .have:X.env.scope.names.lookup x=Vn .free:=a;rw[k]at this;cases this
def pB(f:Int->Int->Int):kB:=λx y H Q=>∃i j,x=.int i/\y=.int j/\Q (.int (f i j)) H
def kY:nj X .Add (pB λi j=>i+j):=by intro pins s σ H x y v u Q I r1 a h;obtain⟨i,j,b,c,q⟩:=h;subst b;subst c;obtain⟨t,rfl⟩:=r1;obtain⟨d,rfl⟩:=a;exact iadd_int ⟨.int _,H,I.tok _,⟨_,rfl⟩,q⟩
def Ca:nj X .Sub (pB λi j=>i-j):=by intro pins s σ H x y v u Q I r1 a h;obtain⟨i,j,b,c,q⟩:=h;subst b;subst c;obtain⟨t,rfl⟩:=r1;obtain⟨d,rfl⟩:=a;exact isub_int ⟨.int _,H,I.tok _,⟨_,rfl⟩,q⟩
def zP(c:TT)(tb:TS):TS:=λD σ H=>∃W:Nat->St->Hp->Prop,(∃m,W m σ H)/\∀m σ H,W m σ H ->
 c σ H λb H1=>if b=true then ∃N:St->Hp->Prop,(∀a H',N a H'->∃d,d<m/\W d a H')/\tb { D with nx:=N,ct:=N,bk:=D.nx } σ H1 else D.nx σ H1
def By(r:PassesOwn (Vg X.prog X.w) X.A X.env X.xe)(y:PT X c tc)(hb:cM X body tb):PS X (.While c body [] pos) (zP tc tb):=by
 intro pins s σ H D I h;obtain⟨W,⟨z,B⟩,turn⟩:=h;refine wpAny_While (codeAny_whileLoop (λn s'=>∃e H',Inv X pins e H' s'/\W n e H') ?_ z ⟨σ,H,I,B⟩);rintro n s1 ⟨d,H1,C,E⟩;refine wpAny_passesOwn r (aJ (y pins s1 d H1 _ C (turn n d H1 E)) λb s2 ⟨H2,u,i⟩=>?_);cases b with
 | true=>
  obtain⟨N,x,i⟩:=i;refine wpAny_passesOwn r (aJ (hb pins s2 d H2 _ u i) λf F j=>?_);cases f with
  | next=>
   obtain⟨a,g,l,m⟩:=j;obtain⟨o,p,q⟩:=x a g m;exact⟨o,p,a,g,l,q⟩
  | cont=>
   obtain⟨a,g,l,m⟩:=j;obtain⟨o,p,q⟩:=x a g m;exact⟨o,p,a,g,l,q⟩
  | brk=>exact j
  | ret v=>exact j
 | false=>
  exact wpAny_execs_nil ⟨d,H2,u,i⟩
end
structure It where
 go:Nat->Hp->Prop
 yld:Nat->Hp->V->Hp->Prop
 stop:Nat->Hp->Prop
def cC(X:Cx)(pins:List (Vb×Obj))(H:Hp)(b:Vb):Prop:=
 H b=Vo/\b≠X.env.locals/\b∉X.fs/\(b∈X.ex\/X.s₀.heap.objs.size<=b)/\(∀x c,X.env.cells.lookup x=Vn c->c≠b)/\∀p∈X.pn++pins,p.1≠b
def Inv.fpOk{σ:St}{b:Vb}(I:Inv X pins σ H s)(hb:s.heap.objs.size<=b)(a:H' b=Vo):cC X pins H' b:=by
 refine⟨a,IC (GA I.lt hb),I.nofs hb,.inr (GC I.sz hb),λx c e z=>?_,λp d z=>?_⟩
 .obtain⟨v,q⟩:=I.cell x c e;exact absurd (GA q.lt (by rw[z];exact hb)) (Hy _)
 .exact absurd (GA (F0 (I.pin p d).1) (by rw[z];exact hb)) (Hy _)
structure Turn(P:Vd)(w:Ve)(K:FX)(tg:Vk)(J:It)(fp:List Vb)(it:Vb)(tn:Nat->Vh->Prop):Prop where
 mem:it∈fp
 obj:∀i h,tn i h->∀b∈fp,∃o,h.get? b=Vn o/\∀v,o.data≠.cell v
 keep:∀i h h',tn i h->(∀b∈fp,∀o,h.get? b=Vn o->h'.get? b=Vn o)->tn i h'
 item:∀(X:Cx),X.prog=P->X.w=w->X.K=K->X.calm=true->∀(i:Nat) (pins:List (Vb×Obj)) (s:Vc) (σ:St) (H:Hp) (E:Va->Vc->Prop),Inv X pins σ H s->(∀b∈fp,cC X pins H b)->tn i s.heap->J.go i H ->
  Vf (Vg P w) X.A (pyNext (.ref it)) (λr s1=>∃u,r=Vn u ∧
   Vf (Vg P w) X.A (letOwnedTupleGo tg (.ref it) u) (λ_ s2=>∃x H',Inv X pins σ H' s2/\RelV x u/\J.yld i H x H'/\tn (i+1) s2.heap/\∀b∈fp,H' b=Vo) E s1) E s
 done:∀(X:Cx),X.prog=P->X.w=w->X.K=K->X.calm=true->∀(i:Nat) (pins:List (Vb×Obj)) (s:Vc) (σ:St) (H:Hp) (E:Va->Vc->Prop),Inv X pins σ H s->(∀b∈fp,cC X pins H b)->tn i s.heap->J.stop i H ->
  Vf (Vg P w) X.A (pyNext (.ref it)) (λr s1=>r=Vo/\Inv X pins σ H s1) E s
 self:∀(A:Vi) (i:Nat) (s:Vc) (Q:Va->Vc->Prop) (E:Va->Vc->Prop),tn i s.heap->Q (.ref it) s->Vf (Vg P w) A (pyIter (.ref it)) Q E s
abbrev TI:=St->Hp->(It->Hp->Prop)->Prop
def oX(X:Cx)(pins:List (Vb×Obj))(σ:St)(tg:Vk)(R:It->Hp->Prop)(a:Va)(s2:Vc):Prop:=
 ∃(it:Vb) (fp:List Vb) (tn:Nat->Vh->Prop) (J:It) (H':Hp),a=.ref it/\Inv X pins σ H' s2/\Turn X.prog X.w X.K tg J fp it tn/\tn 0 s2.heap/\(∀b∈fp,cC X pins H' b)/\R J H'
def PI(X:Cx)(tg iter:Vk)(a:TI):Prop:=
 ∀(pins:List (Vb×Obj)) (s:Vc) (σ:St) (H:Hp) (R:It->Hp->Prop),Inv X pins σ H s->a σ H R ->
  Vf (Vg X.prog X.w) X.A (eval iter X.env) (λv s1=>Vf (Vg X.prog X.w) X.A (pyIter v) (oX X pins σ tg R) X.xe s1) X.xe s
def ka         {n : String}   (ho : s.heap.get? it = Vn o) (b : o.cls = .type n) (hd : o.data = .fields vs)
    (c : ["enumerate", "zip", "dict_itemiterator", "dict_reverseitemiterator", "odict_iterator", "itertools.zip_longest", "itertools.pairwise"].contains n = false) (a : Q () s) : Vf M A (letOwnedTupleGo tg (.ref it) u) Q E s := by
  cases tg <;> first
    | exact FW a
    | (cases u <;> first
        | exact FW a
        | (refine FV (wpAny_load ho ?_)
           rw [b, hd];show Vf M A (if (["enumerate", "zip", "dict_itemiterator", "dict_reverseitemiterator", "odict_iterator", "itertools.zip_longest", "itertools.pairwise"].contains n && vs[0]? == Vn (rawInt _)) = true then _ else _) Q E s;rw [G0 (by intro h; rw [c, Bool.false_and] at h; cases h)];exact FW a))
def cW(K:FX)(a:Vb):It:=
 ⟨λi H=>∃xs x,af K H a xs/\xs[i]?=Vn x,λi H x H'=>H'=H/\∀xs,af K H a xs->xs[i]?=Vn x,λi H=>∃xs,af K H a xs/\xs.length<=i⟩
def dA(K:FX)(a:Vb):It:=
 ⟨λi H=>∃xs x,ax K H a xs/\xs[i]?=Vn x,λi H x H'=>H'=H/\∀xs,ax K H a xs->xs[i]?=Vn x,λi H=>∃xs,ax K H a xs/\xs.length<=i⟩
def eV(lo:Int)(n:Nat):It:=⟨λi _=>i<n,λi H x H'=>H'=H/\x=.int (lo+i),λi _=>n<=i⟩
theorem Ew{K:FX}(a it):Turn P w K tg (cW K a) [it] it (λi h=>h.IsListIter it a i) where
 mem:=by simp
 obj:=λi h st b hb=>by
  have e:b=it:=by simpa using hb
  subst e;obtain⟨o,e,c,d⟩:=st;exact⟨o,e,λv z=>by rw[d]at z;cases z⟩
 keep:=λi h h' st k=>st.at λo e=>k it (by simp) o e
 item:=by intro X l m n L i pins s σ H E I g st q;subst l m n;obtain⟨xs,x,j,r⟩:=q;obtain⟨y,A,p,M⟩:=I.list j;obtain⟨u,N,O⟩:=A.get r;obtain⟨B,C,Q,F,G,J⟩:=g it (by simp);refine wpAny_pyNext_list_item st p.isList (by simpa using N) λh' f R=>?_;have S:Inv X pins σ H { s with heap:=h' }:=I.turned (t':=s.toks) (λb o hb e=>(R.2 b hb).trans e) B C F G J;obtain⟨o,e,c,d⟩:=id f;exact⟨u,rfl,ka e c d (by decide) ⟨x,H,S,O,⟨rfl,λys T=>by rw[I.list_inj T j];exact r⟩,f,λb hb=>(g b hb).1⟩⟩
 done:=by intro X l m n L i pins s σ H E I g st q;subst l m n;obtain⟨xs,j,r⟩:=q;obtain⟨y,A,p,M⟩:=I.list j;obtain⟨B,C,Q,F,G,J⟩:=g it (by simp);have W:=A.length;exact wpAny_pyNext_list_end (I.ok.hd L) st p.isList (by simp;lia) λh' U=>⟨rfl,I.turned (λb o hb e=>U b o hb e) B C F G J⟩
 self:=λ_ _ _ _ _ st h=>wpAny_pyIter_listiter st h
theorem Cw{K:FX}(a it):Turn P w K tg (dA K a) [it] it (λi h=>h.IsTupleIter it a i) where
 mem:=by simp
 obj:=λi h st b hb=>by
  have e:b=it:=by simpa using hb
  subst e;obtain⟨o,e,c,d⟩:=st;exact⟨o,e,λv z=>by rw[d]at z;cases z⟩
 keep:=λi h h' st k=>st.at λo e=>k it (by simp) o e
 item:=by intro X m n q L i pins s σ H E I j st r;subst m n q;obtain⟨xs,x,l,y⟩:=r;obtain⟨f,A,p,M⟩:=I.tuple l;obtain⟨u,N,O⟩:=A.get y;obtain⟨B,C,Q,F,G,J⟩:=j it (by simp);refine wpAny_pyNext_tuple_item st (p) (by simpa using N) λh' g R=>?_;have S:Inv X pins σ H { s with heap:=h' }:=I.turned (t':=s.toks) (λb o hb e=>(R.2 b hb).trans e) B C F G J;obtain⟨o,e,c,d⟩:=id g;exact⟨u,rfl,ka e c d (by decide) ⟨x,H,S,O,⟨rfl,λys T=>by rw[I.tuple_inj T l];exact y⟩,g,λb hb=>(j b hb).1⟩⟩
 done:=by intro X m n q L i pins s σ H E I j st r;subst m n q;obtain⟨xs,l,y⟩:=r;obtain⟨f,A,p,M⟩:=I.tuple l;obtain⟨B,C,Q,F,G,J⟩:=j it (by simp);have W:=A.length;exact wpAny_pyNext_tuple_end (I.ok.hd L) st (p) (by simp;lia) λh' U=>⟨rfl,I.turned (λb o hb e=>U b o hb e) B C F G J⟩
 self:=λ_ _ _ _ _ st h=>wpAny_pyIter_tupleiter st h
theorem FD{K:FX}(it)(lo)(n):Turn P w K tg (eV lo n) [it] it (λi h=>IsRangeIter h it (lo+(i:Nat)*1) ((n:Int)-(i:Nat)) 1) where
 mem:=by simp
 obj:=λi h st b hb=>by
  have e:b=it:=by simpa using hb
  subst e;exact⟨_,st,λv z=>by have x:=z;cases x⟩
 keep:=λi h h' st k=>k it (by simp) _ st
 item:=by intro X d f g j i pins s σ H E I c st l;subst d f g;obtain⟨m,p,y,q,r,u⟩:=c it (by simp);have W:=Walks.range (prog:=X.prog) (w:=X.w) (I.ok.hd j) it lo 1 n;refine W.item i s _ _ l st λv h' tk A a B=>?_;obtain⟨t,rfl⟩:=A;have C:Inv X pins σ H { s with heap:=h',toks:=tk }:=I.turned (λb o hb e=>B b o (by simpa using hb) e) m p q r u;refine⟨_,rfl,ka a rfl rfl (by decide) ⟨.int (lo+i),H,C,⟨t,?_⟩,⟨rfl,rfl⟩,a,λb hb=>(c b hb).1⟩⟩;rw[Int.mul_one]
 done:=by intro X d f g j i pins s σ H E I c st l;obtain⟨m,p,y,q,r,u⟩:=c it (by simp);exact wpAny_pyNext_range_end (I.ok.hd j) st (by have:n<=i:=l;lia) λh' F=>⟨rfl,I.turned (λb o hb e=>F b o hb e) m p q r u⟩
 self:=λ_ _ _ _ _ st h=>wpAny_pyIter_rangeiter st h
section
variable {X:Cx} {tg:Vk}
def nB(K:FX)(tl:TE):TI:=λσ H R=>tl σ H λx H1=>∃a,x=.ref a/\(∃xs,af K H1 a xs)/\R (cW K a) H1
def pA(K:FX)(tl:TE):TI:=λσ H R=>tl σ H λx H1=>∃a,x=.ref a/\(∃xs,ax K H1 a xs)/\R (dA K a) H1
def zj(d:PE X l tl):PI X tg l (nB X.K tl):=by
 intro pins s σ H R I h;refine aJ (d pins s σ H _ I h) λv s1 ⟨x,H1,c,r1,f⟩=>?_;obtain⟨a,e,⟨xs,g⟩,q⟩:=f;subst e;cases r1;obtain⟨i,j,p,m⟩:=c.list g;refine wpAny_pyIter_list p.isList ?_;refine⟨s1.heap.objs.size,[s1.heap.objs.size],_,_,H1,rfl,c.kept λb o e=>FY _ e,Ew a _,⟨_,FZ _ rfl,rfl,rfl⟩,λb hb=>?_,q⟩;have e:b=s1.heap.objs.size:=by simpa using hb
 subst e;exact c.fpOk (Gn _) (c.hok.fresh (Gn _))
def Ei(f:PE X l tl):PI X tg l (pA X.K tl):=by
 intro pins s σ H R I h;refine aJ (f pins s σ H _ I h) λv s1 ⟨x,H1,c,r1,g⟩=>?_;obtain⟨a,e,⟨xs,i⟩,q⟩:=g;subst e;cases r1;obtain⟨d,j,p,m⟩:=c.tuple i;refine wpAny_pyIter_tuple (p) ?_;refine⟨s1.heap.objs.size,[s1.heap.objs.size],_,_,H1,rfl,c.kept λb o e=>FY _ e,Cw a _,⟨_,FZ _ rfl,rfl,rfl⟩,λb hb=>?_,q⟩;have e:b=s1.heap.objs.size:=by simpa using hb
 subst e;exact c.fpOk (Gn _) (c.hok.fresh (Gn _))
theorem vJ{σ:St}{lo hi:Int}{t u v:Tok}(I:Inv X pins σ H s)(h1:-(2 ^ 62)<=lo)(h2:lo<2 ^ 62)(c:-(2 ^ 62)<=hi)(d:hi<2 ^ 62)
  (q:R (eV lo (hi-lo).toNat) H):Vf (Vg X.prog X.w) X.A (pyIter (.ref s.heap.objs.size)) (oX X pins σ tg R) E { s with heap:=s.heap.push { cls:=.type "range",data:=.fields #[.int lo t,.int hi u,.int 1 v] },toks:=tk }:=by
 refine wpAny_pyIter_range (IsRange.new ..) (small_one h1 h2 c d) ?_;have a:Inv X pins σ H { s with heap:=s.heap.push { cls:=.type "range",data:=.fields #[.int lo t,.int hi u,.int 1 v] },toks:=tk }:=I.kept λb o e=>FY _ e;refine⟨(s.heap.push { cls:=.type "range",data:=.fields #[.int lo t,.int hi u,.int 1 v] }).objs.size,[(s.heap.push { cls:=.type "range",data:=.fields #[.int lo t,.int hi u,.int 1 v] }).objs.size],_,_,H,rfl,
  a.kept λb o e=>FY _ e,FD _ lo (hi-lo).toNat,?_,λb hb=>?_,q⟩
 .have f:lo+((0:Nat):Int)*1=lo:=by simp
  have g:(((hi-lo).toNat:Nat):Int)-((0:Nat):Int)=Ht lo hi 1:=by rw[rangeSize_one];split<;>lia
  rw[f,g];exact FZ _ rfl
 .have e:b=(s.heap.push { cls:=.type "range",data:=.fields #[.int lo t,.int hi u,.int 1 v] }).objs.size:=by simpa using hb
  subst e;exact a.fpOk (Gn _) (a.hok.fresh (Gn _))
def yj(ta:TA):TI:=λσ H R=>ta σ H λvs H1=>∃j:Int,vs=[.int j]/\-(2 ^ 62)<=j/\j<2 ^ 62/\R (eV 0 j.toNat) H1
def uc(ta:TA):TI:=λσ H R=>ta σ H λvs H1=>∃i j:Int,vs=[.int i,.int j]/\(-(2 ^ 62)<=i/\i<2 ^ 62/\-(2 ^ 62)<=j/\j<2 ^ 62)/\R (eV i (j-i).toNat) H1
theorem cX{ta:TA}{p pos:Pos}(c:Gl X "range")(d:X.mg "range" = Vo)(ha:PA X [a] ta)(hs:starEach [a] X.env=[(false,eval a X.env)]:=by rfl):PI X tg (.Call (.Name "range" p) [a] [] pos) (yj ta):=by
 intro pins s σ H R I h;refine Call_ (fu I c d boot_range (Hg (aJ (ha pos pins s σ H _ I h) λus s1 ⟨vs,H1,f,r1,b⟩=>?_) hs rfl));obtain⟨j,e,b,g,q⟩:=b;subst e;cases r1 with
 | cons r i=>
  cases i;obtain⟨t,rfl⟩:=r;exact call_range_1 (vJ f (by lia) (by lia) b g (by simpa using q))
def CB{b:Vk}{ta:TA}{p pos:Pos}(g:Gl X "range")(l:X.mg "range" = Vo)(ha:PA X [a,b] ta)(hs:starEach [a,b] X.env=[(false,eval a X.env),(false,eval b X.env)]:=by rfl)(c:starEach [b] X.env=[(false,eval b X.env)]:=by rfl):
  PI X tg (.Call (.Name "range" p) [a,b] [] pos) (uc ta):=by
 intro pins s σ H R I h;refine Call_ (fu I g l boot_range (Hg (aJ (ha pos pins s σ H _ I h) λus s1 ⟨vs,H1,m,r1,d⟩=>?_) (by rw[hs,c]) (by rw[c];rfl)));obtain⟨i,j,e,⟨d,n,o,u⟩,q⟩:=d;subst e;cases r1 with
 | cons r f=>
  cases f with
  | cons v f=>
   cases f;obtain⟨t,rfl⟩:=r;obtain⟨w,rfl⟩:=v;exact call_range_2 (vJ m d n o u q)
def tQ(d:TI)(g:TG)(tb:TS):TS:=λD σ H=>d σ H λJ H1=>∃W:Nat->Nat->St->Hp->Prop,(∃m,W 0 m σ H1)/\∀i m σ H,W i m σ H ->
 (J.stop i H/\D.nx σ H)\/(J.go i H/\∃N:St->Hp->Prop,(∀a H',N a H'->∃c,c<m/\W (i+1) c a H')/\∀x H',J.yld i H x H'->g x σ H' λb H2=>tb { D with nx:=N,ct:=N,bk:=D.nx } b H2)
def iD(fp:List Vb)(h:Vh):List (Vb×Obj):=fp.filterMap λb=>(h.get? b).map λo=>(b,o)
def pG(hb:b∈fp)(e:h.get? b=Vn o):(b,o)∈iD fp h:=Ia.mpr ⟨b,hb,by rw[e];rfl⟩
def sh(a:p∈iD fp h):p.1∈fp/\h.get? p.1=Vn p.2:=by
 obtain⟨b,hb,e⟩:=Ia.mp a;cases q:h.get? b with
 | none=>rw[q]at e;cases e
 | some o=>
  rw[q]at e;have e':(b,o)=p:=GK e;subst e';exact⟨hb,q⟩
def Inv.pinned{σ:St}(I:Inv X pins σ H s)(a:∀b∈fp,cC X pins H b)(ho:∀b∈fp,∃o,s.heap.get? b=Vn o/\∀v,o.data≠.cell v):Inv X (pins++iD fp s.heap) σ H s:=
 I.pins_of λp c=>(Gr.mp c).elim (λz=>I.pin p (GL _ z)) λz=>by obtain⟨hb,e⟩:=sh z;obtain⟨f,g,h,_⟩:=a p.1 hb;obtain⟨o,e',d⟩:=ho p.1 hb;rw[e]at e';cases e';exact⟨e,f,g,h,d⟩
def Inv.unpinned{σ:St}(I:Inv X (pins++pl) σ H s):Inv X pins σ H s:=I.pins_of λp a=>I.pin p (GL _ (GN _ a))
def bJ{iter:Vk}{body:List Stmt}{R:TI}{g:TG}{tb:TS}{pos:Pos}(z:PassesOwn (Vg X.prog X.w) X.A X.env X.xe)(S:X.calm=true)(hi:PI X tg iter R)(hg:PG X tg g)(hb:cM X body tb)
  (hs:∀x,foldedSetIterable iter X.env x=pure x:=by intro _;rfl):PS X (.For tg iter body [] pos) (tQ R g tb):=by
 intro pins s σ H D I h;refine wpAny_For (aJ (hi pins s σ H _ I h) λv s1 h1=>aJ h1 λa0 s2 h2=>?_) hs;obtain⟨it,fp,tn,J,H2,e,I2,T,G,U,W,⟨m0,w0⟩,turn⟩:=h2;subst e;have stat:∀{H':Hp},(∀b∈fp,H' b=Vo)->∀b∈fp,cC X pins H' b:=λhn b hb=>⟨hn b hb,(U b hb).2⟩;refine codeAny_forLoop_any (λn s'=>∃i c H',Inv X pins c H' s'/\tn i s'.heap/\(∀b∈fp,H' b=Vo)/\W i n c H') ?_ m0 ⟨0,σ,H2,I2,G,λb hb=>(U b hb).1,w0⟩;rintro n Y ⟨i,j,F,Z,B,C,w3⟩;rcases turn i n j F w3 with⟨stop,qn⟩|⟨go,N,hN,step⟩
 .refine wpAny_passesOwn z (aJ (T.done X rfl rfl rfl S i pins Y j F X.xe Z (stat C) B stop) λr s4 ⟨L,I4⟩=>?_);subst L;exact wpAny_execs_nil ⟨j,F,I4,qn⟩
 .refine wpAny_passesOwn z (aJ (T.item X rfl rfl rfl S i pins Y j F X.xe Z (stat C) B go) λr s4 ⟨u,L,h4⟩=>?_);subst L;refine wpAny_passesOwn z (aJ h4 λ_ s5 ⟨x,H5,I5,r5,y5,y,M⟩=>?_);have O:=I5.pinned (stat M) (T.obj _ _ y);refine wpAny_passesOwn z (aJ (hg _ s5 j H5 x u _ O r5 (step x H5 y5)) λ_ s6 ⟨P,H6,I6,q6⟩=>?_);refine wpAny_passesOwn z (aJ (hb _ s6 P H6 _ I6 q6) λf Q q=>?_);have again:∀{a:St} {l:Hp},Inv X (pins++iD fp s5.heap) a l Q->N a l->∃m,m<n/\∃i c H',Inv X pins c H' Q/\tn i Q.heap/\(∀b∈fp,H' b=Vo)/\W i m c H':=λ{a l} p E=>by obtain⟨m',hm,w7⟩:=hN a l E;refine⟨m',hm,i+1,a,l,p.unpinned,T.keep _ _ _ y λb hb o e=>(p.pin (b,o) (GL _ (GL _ (pG hb e)))).1,λb hb=>?_,w7⟩;obtain⟨o,e,d⟩:=T.obj _ _ y b hb;exact(p.pin (b,o) (GL _ (GL _ (pG hb e)))).2.1
  cases f with
  | next=>obtain⟨a,l,p,E⟩:=q;exact again p E
  | cont=>obtain⟨a,l,p,E⟩:=q;exact again p E
  | brk=>obtain⟨a,l,p,q⟩:=q;exact⟨a,l,p.unpinned,q⟩
  | ret v=>obtain⟨x7,a,l,p,r7,q⟩:=q;exact⟨x7,a,l,p.unpinned,r7,q⟩
end
theorem Ai{K:FX}{a:Vb}{g:TG}{tb:TS}{D:Ends}(Pv:Nat->St->Hp->Prop)(f:Pv 0 σ H)(h:∀i σ H,i<=xs.length->Pv i σ H->af K H a xs)
  (hs:∀i x σ H,xs[i]?=Vn x->Pv i σ H->g x σ H λb H2=>tb { D with nx:=Pv (i+1),ct:=Pv (i+1),bk:=D.nx } b H2) (hd:∀σ H,Pv xs.length σ H->D.nx σ H) :
  ∃W:Nat->Nat->St->Hp->Prop,(∃m,W 0 m σ H)/\∀i m σ H,W i m σ H ->
   ((cW K a).stop i H/\D.nx σ H)\/((cW K a).go i H/\∃N,(∀c H',N c H'->∃d,d<m/\W (i+1) d c H')/\∀x H',(cW K a).yld i H x H'->g x σ H' λb H2=>tb { D with nx:=N,ct:=N,bk:=D.nx } b H2):=by
 refine⟨λi m σ H=>m=xs.length-i/\i<=xs.length/\Pv i σ H,⟨xs.length,by simp,HM _,f⟩,?_⟩;rintro i m σ H ⟨rfl,hi,p⟩;have q:=h i σ H hi p;by_cases hlt:i<xs.length
 .refine .inr ⟨⟨xs,xs[i],q,by simp[hlt]⟩,Pv (i+1),λc H' j=>⟨xs.length-(i+1),by lia,rfl,hlt,j⟩,λx H' y=>?_⟩;obtain⟨e,y⟩:=y;subst e;exact hs i x σ _ (y xs q) p
 .have e:i=xs.length:=by lia
  subst e;exact .inl ⟨⟨xs,q,Gn _⟩,hd σ H p⟩
theorem Fl{K:FX}{a:Vb}{g:TG}{tb:TS}{D:Ends}(Pv:Nat->St->Hp->Prop)(f:Pv 0 σ H)(h:∀i σ H,i<=xs.length->Pv i σ H->ax K H a xs)
  (hs:∀i x σ H,xs[i]?=Vn x->Pv i σ H->g x σ H λb H2=>tb { D with nx:=Pv (i+1),ct:=Pv (i+1),bk:=D.nx } b H2) (hd:∀σ H,Pv xs.length σ H->D.nx σ H) :
  ∃W:Nat->Nat->St->Hp->Prop,(∃m,W 0 m σ H)/\∀i m σ H,W i m σ H ->
   ((dA K a).stop i H/\D.nx σ H)\/((dA K a).go i H/\∃N,(∀c H',N c H'->∃d,d<m/\W (i+1) d c H')/\∀x H',(dA K a).yld i H x H'->g x σ H' λb H2=>tb { D with nx:=N,ct:=N,bk:=D.nx } b H2):=by
 refine⟨λi m σ H=>m=xs.length-i/\i<=xs.length/\Pv i σ H,⟨xs.length,by simp,HM _,f⟩,?_⟩;rintro i m σ H ⟨rfl,hi,p⟩;have q:=h i σ H hi p;by_cases hlt:i<xs.length
 .refine .inr ⟨⟨xs,xs[i],q,by simp[hlt]⟩,Pv (i+1),λc H' j=>⟨xs.length-(i+1),by lia,rfl,hlt,j⟩,λx H' y=>?_⟩;obtain⟨e,y⟩:=y;subst e;exact hs i x σ _ (y xs q) p
 .have e:i=xs.length:=by lia
  subst e;exact .inl ⟨⟨xs,q,Gn _⟩,hd σ H p⟩
theorem zl{lo:Int}{g:TG}{tb:TS}{D:Ends}(Pv:Nat->St->Hp->Prop)(d:Pv 0 σ H)
  (hs:∀i σ H,i<n->Pv i σ H->g (.int (lo+i)) σ H λa H2=>tb { D with nx:=Pv (i+1),ct:=Pv (i+1),bk:=D.nx } a H2) (hd:∀σ H,Pv n σ H->D.nx σ H) :
  ∃W:Nat->Nat->St->Hp->Prop,(∃m,W 0 m σ H)/\∀i m σ H,W i m σ H ->
   ((eV lo n).stop i H/\D.nx σ H)\/((eV lo n).go i H/\∃N,(∀b H',N b H'->∃c,c<m/\W (i+1) c b H')/\∀x H',(eV lo n).yld i H x H'->g x σ H' λa H2=>tb { D with nx:=N,ct:=N,bk:=D.nx } a H2):=by
 refine⟨λi m σ H=>m=n-i/\i<=n/\Pv i σ H,⟨n,by simp,HM _,d⟩,?_⟩;rintro i m σ H ⟨rfl,hi,p⟩;by_cases hlt:i<n
 .refine .inr ⟨hlt,Pv (i+1),λb H' f=>⟨n-(i+1),by lia,rfl,hlt,f⟩,λx H' y=>?_⟩;obtain⟨e,y⟩:=y;subst e y;exact hs i σ _ hlt p
 .have e:i=n:=by lia
  subst e;exact .inl ⟨Gn _,hd σ H p⟩
abbrev R2:=V->V->Hp->VK->Prop
def bS(X:Cx)(f:Va->Va->Sem Va)(r:R2):Prop:=
 ∀(pins:List (Vb×Obj)) (s:Vc) (σ:St) (H:Hp) (x y:V) (v u:Va) (Q:VK),Inv X pins σ H s->RelV x v->RelV y u->r x y H Q ->
  Vf (Vg X.prog X.w) X.A (f v u) (EP X pins σ Q) X.xe s
def nv(X:Cx)(f:Va->Sem Va)(r:V->Hp->VK->Prop):Prop:=
 ∀(pins:List (Vb×Obj)) (s:Vc) (σ:St) (H:Hp) (x:V) (v:Va) (Q:VK),Inv X pins σ H s->RelV x v->r x H Q ->
  Vf (Vg X.prog X.w) X.A (f v) (EP X pins σ Q) X.xe s
def cP(X:Cx)(f:Va)(r:List V->Hp->VK->Prop):Prop:=
 ∀(pins:List (Vb×Obj)) (s:Vc) (σ:St) (H:Hp) (xs:List V) (us:List Va) (Q:VK),Inv X pins σ H s->Vals xs us->r xs H Q ->
  Vf (Vg X.prog X.w) X.A (call f us) (EP X pins σ Q) X.xe s
def Ar(X:Cx)(r:V->Hp->(Bool->Hp->Prop)->Prop):Prop:=
 ∀(pins:List (Vb×Obj)) (s:Vc) (σ:St) (H:Hp) (x:V) (v:Va) (Q:Bool->Hp->Prop),Inv X pins σ H s->RelV x v->r x H Q ->
  Vf (Vg X.prog X.w) X.A (truthy v) (TP X pins σ Q) X.xe s
def jC(r:R2)(ta tb:TE):TE:=λσ H Q=>ta σ H λx H1=>tb σ H1 λy H2=>r x y H2 Q
def vz(r:V->Hp->VK->Prop)(ta:TE):TE:=λσ H Q=>ta σ H λx H1=>r x H1 Q
def rI(C:Int->Int->Prop)(g:Int->Int->V):R2:=λx y H Q=>∃i j,x=.int i/\y=.int j/\C i j/\Q (g i j) H
def iq(g:Int->Int->V):R2:=λx y H Q=>∃i j,x=.int i/\y=.int j/\Q (g i j) H
def rU(g:Int->V):V->Hp->VK->Prop:=λx H Q=>∃i,x=.int i/\Q (g i) H
section
variable {X:Cx} {a b c:Vk} {ta tb tc:TE} {pos:Pos}
def pH(ha:PE X a ta)(hb:PE X b tb){σ:St}{R:V->V->Hp->Prop}(I:Inv X pins σ H s)
  (h:ta σ H λx H1=>tb σ H1 λy H2=>R x y H2)  {f:Va->Va->Sem Va}
  (e:∀v u s2 x y H2,Inv X pins σ H2 s2->RelV x v->RelV y u->R x y H2->Vf (Vg X.prog X.w) X.A (f v u) Q X.xe s2) :
  Vf (Vg X.prog X.w) X.A (eval a X.env) (λv c=>Vf (Vg X.prog X.w) X.A (eval b X.env) (λu d=>Vf (Vg X.prog X.w) X.A (f v u) Q X.xe d) X.xe c) X.xe s:=by
 refine aJ (ha pins s σ H _ I h) λv s1 ⟨x,H1,g,r1,i⟩=>?_;refine aJ (hb pins s1 σ H1 _ g i) λu s2 ⟨y,H2,j,l,m⟩=>?_;exact e v u s2 x y H2 j r1 l m
def aH(ho:bS X (binaryOp op) r)(ha:PE X a ta)(hb:PE X b tb):PE X (.BinOp a op b pos) (jC r ta tb):=by intro pins s σ H Q I h;exact wpAny_BinOp (pH ha hb I h λv u s2 x y H2 c d e q=>ho pins s2 σ H2 x y v u Q c d e q)
def eX(ho:nv X (unaryOp op) r)(ha:PE X a ta):PE X (.UnaryOp op a pos) (vz r ta):=by intro pins s σ H Q I h;exact UnaryOp_ (aJ (ha pins s σ H _ I h) λv s1 ⟨x,H1,b,r1,c⟩=>ho pins s1 σ H1 x v Q b r1 c)
def mG{g:Int->Int->Int}
  (rule:∀i j t u s Q E,C i j->Q (.int (g i j) s.toks) { s with toks:=s.toks+1 }->Vf (Vg X.prog X.w) X.A (f (.int i t) (.int j u)) Q E s) :
  bS X f (rI C λi j=>.int (g i j)):=by
 intro pins s σ H x y v u Q I a b h;obtain⟨i,j,rfl,rfl,c,q⟩:=h;obtain⟨t,rfl⟩:=a;obtain⟨d,rfl⟩:=b;exact rule i j t d s _ _ c ⟨.int (g i j),H,I.tok _,⟨_,rfl⟩,q⟩
def sD{g:Int->Int->Int}
  (rule:∀i j t u s Q E,Q (.int (g i j) s.toks) { s with toks:=s.toks+1 }->Vf (Vg X.prog X.w) X.A (f (.int i t) (.int j u)) Q E s) :
  bS X f (iq λi j=>.int (g i j)):=by
 intro pins s σ H x y v u Q I a b h;obtain⟨i,j,rfl,rfl,q⟩:=h;obtain⟨t,rfl⟩:=a;obtain⟨c,rfl⟩:=b;exact rule i j t c s _ _ ⟨.int (g i j),H,I.tok _,⟨_,rfl⟩,q⟩
def mP{g:Int->Int->Bool}
  (rule:∀i j t u s Q E,Q (.bool (g i j)) s->Vf (Vg X.prog X.w) X.A (f (.int i t) (.int j u)) Q E s) :
  bS X f (iq λi j=>.bl (g i j)):=by
 intro pins s σ H x y v u Q I a b h;obtain⟨i,j,rfl,rfl,q⟩:=h;obtain⟨t,rfl⟩:=a;obtain⟨c,rfl⟩:=b;exact rule i j t c s _ _ ⟨.bl (g i j),H,I,rfl,q⟩
def sZ(i j:Int):Prop:=0<=j/\j<=1000000/\i.natAbs<2 ^ 64
def kD(i j:Int):Prop:=(-(2 ^ 64)<i/\i<2 ^ 64)\/(-(2 ^ 64)<j/\j<2 ^ 64)
def kD.ok(h:kD i j):IntMulOk i j:=by
 rcases h with⟨h1,h2⟩|⟨h1,h2⟩
 .exact .of_left (intBits_le_64 h1 h2)
 .exact .of_right (intBits_le_64 h1 h2)
def bp:bS X (binaryOp .Add) (iq λi j=>.int (i+j)):=sD λ_ _ _ _ _ _ _ q=>add_int q
def dU:bS X (binaryOp .Sub) (iq λi j=>.int (i-j)):=sD λ_ _ _ _ _ _ _ q=>sub_int q
def fC:bS X (binaryOp .Mult) (rI kD λi j=>.int (i*j)):=mG λ_ _ _ _ _ _ _ a q=>mul_int q a.ok
theorem cY:bS X (binaryOp .Mod) (rI (λ_ j=>0<j) λi j=>.int (i % j)):=mG λi j _ _ _ _ _ a q=>by exact mod_int' (by lia) (by rw[Int.fmod_eq_emod_of_nonneg i (by lia)];exact q)
def jX:bS X (binaryOp .Pow) (rI sZ λi j=>.int (i ^ j.toNat)):=mG λ_ _ _ _ _ _ _ a q=>pow_int_small a.1 a.2.1 a.2.2 q
def B7{g:Int->Int}
  (rule:∀i t s Q E,Q (.int (g i) s.toks) { s with toks:=s.toks+1 }->Vf (Vg X.prog X.w) X.A (f (.int i t)) Q E s) :
  nv X f (rU λi=>.int (g i)):=by
 intro pins s σ H x v Q I a h;obtain⟨i,rfl,q⟩:=h;obtain⟨t,rfl⟩:=a;exact rule i t s _ _ ⟨.int (g i),H,I.tok _,⟨_,rfl⟩,q⟩
def fh:nv X (unaryOp .USub) (rU λi=>.int (-i)):=B7 λ_ _ _ _ _ q=>neg_int q
end
def qZ:V->V->Bool
 | .non,.non=>true|.non,.int _=>true|.int _,.non=>true|.non,.bl _=>true|.bl _,.non=>true|.non,.str _=>true|.str _,.non=>true
 | .int _,.int _=>true|.bl _,.bl _=>true|.str _,.str _=>true|.byt _,.byt _=>true
 | .int _,.str _=>true|.str _,.int _=>true|.bl _,.str _=>true|.str _,.bl _=>true
 | _,_=>false
def mR:R2:=λx y H Q=>qZ x y=true/\Q (.bl (decide (x=y))) H
def mj:R2:=λx y H Q=>qZ x y=true/\Q (.bl (!decide (x=y))) H
def vo:decide (V.int i=V.int j)=(i == j):=by rw[GH];simp
def mQ:decide (V.bl i=V.bl j)=(i == j):=by rw[GH];simp
def ky:decide (V.str i=V.str j)=(i == j):=by rw[GH];simp
def xO:decide (V.byt i=V.byt j)=(i.toList == j.toList):=by rw[GH];cases i;cases j;simp
section
variable {X:Cx} {a b c:Vk} {ta tb tc:TE} {pos:Pos}
def bQ{σ:St}{k a:Bool}(I:Inv X pins σ H s)(q:Q (.bl k) H)(e:k=a):EP X pins σ Q (.bool a) s:=by subst e;exact⟨.bl k,H,I,rfl,q⟩
def bY:bS X (compareOp .Eq) mR:=by
 intro pins s σ H x y v u Q I c a h;obtain⟨hs,q⟩:=h;cases x with
 | non=>
  cases c;cases y with
  | non=>cases a;exact PySem.EqNone.eq_none_none (bQ I q (by simp))
  | bl j=>cases a;exact PySem.EqNone.eq_none_bool (bQ I q (by simp))
  | int j=>obtain⟨b,rfl⟩:=a;exact PySem.EqNone.eq_none_int (bQ I q (by simp))
  | str j=>obtain⟨b,rfl⟩:=a;exact PySem.EqNone.eq_none_str (bQ I q (by simp))
  | _=>exact absurd (hs) Gi
 | bl i=>
  cases c;cases y with
  | non=>cases a;exact PySem.EqNone.eq_bool_none (bQ I q (by simp))
  | bl j=>cases a;exact eq_bool (bQ I q mQ)
  | str j=>obtain⟨b,rfl⟩:=a;exact PySem.EqMixed.eq_bool_str (bQ I q (by simp))
  | _=>exact absurd (show false=true from hs) Gi
 | int i=>
  obtain⟨t,rfl⟩:=c;cases y with
  | non=>cases a;exact PySem.EqNone.eq_int_none (bQ I q (by simp))
  | int j=>obtain⟨b,rfl⟩:=a;exact eq_int (bQ I q vo)
  | str j=>obtain⟨b,rfl⟩:=a;exact PySem.EqMixed.eq_int_str (bQ I q (by simp))
  | _=>exact absurd (show false=true from hs) Gi
 | str i=>
  obtain⟨t,rfl⟩:=c;cases y with
  | non=>cases a;exact PySem.EqNone.eq_str_none (bQ I q (by simp))
  | bl j=>cases a;exact PySem.EqMixed.eq_str_bool (bQ I q (by simp))
  | int j=>obtain⟨b,rfl⟩:=a;exact PySem.EqMixed.eq_str_int (bQ I q (by simp))
  | str j=>obtain⟨b,rfl⟩:=a;exact eq_str (bQ I q ky)
  | _=>exact absurd (show false=true from hs) Gi
 | byt i=>
  obtain⟨t,rfl⟩:=c;cases y with
  | byt j=>obtain⟨b,rfl⟩:=a;exact PySem.W.eq_bytes (bQ I q xO)
  | _=>exact absurd (show false=true from hs) Gi
 | _=>cases y<;>exact absurd (show false=true from hs) Gi
def gH:bS X (compareOp .NotEq) mj:=by
 intro pins s σ H x y v u Q I c a h;obtain⟨hs,q⟩:=h;cases x with
 | non=>
  cases c;cases y with
  | non=>cases a;exact PySem.EqNone.ne_none_none (bQ I q (by simp))
  | bl j=>cases a;exact PySem.EqNone.ne_none_bool (bQ I q (by simp))
  | int j=>obtain⟨b,rfl⟩:=a;exact PySem.EqNone.ne_none_int (bQ I q (by simp))
  | str j=>obtain⟨b,rfl⟩:=a;exact PySem.EqNone.ne_none_str (bQ I q (by simp))
  | _=>exact absurd (show false=true from hs) Gi
 | bl i=>
  cases c;cases y with
  | non=>cases a;exact PySem.EqNone.ne_bool_none (bQ I q (by simp))
  | bl j=>cases a;exact ne_bool (bQ I q (congrArg not mQ))
  | str j=>obtain⟨b,rfl⟩:=a;exact PySem.EqMixed.ne_bool_str (bQ I q (by simp))
  | _=>exact absurd (show false=true from hs) Gi
 | int i=>
  obtain⟨t,rfl⟩:=c;cases y with
  | non=>cases a;exact PySem.EqNone.ne_int_none (bQ I q (by simp))
  | int j=>obtain⟨b,rfl⟩:=a;exact ne_int (bQ I q (congrArg not vo))
  | str j=>obtain⟨b,rfl⟩:=a;exact PySem.EqMixed.ne_int_str (bQ I q (by simp))
  | _=>exact absurd (show false=true from hs) Gi
 | str i=>
  obtain⟨t,rfl⟩:=c;cases y with
  | non=>cases a;exact PySem.EqNone.ne_str_none (bQ I q (by simp))
  | bl j=>cases a;exact PySem.EqMixed.ne_str_bool (bQ I q (by simp))
  | int j=>obtain⟨b,rfl⟩:=a;exact PySem.EqMixed.ne_str_int (bQ I q (by simp))
  | str j=>obtain⟨b,rfl⟩:=a;exact ne_str (bQ I q (congrArg not ky))
  | _=>exact absurd (show false=true from hs) Gi
 | byt i=>
  obtain⟨t,rfl⟩:=c;cases y with
  | byt j=>obtain⟨b,rfl⟩:=a;exact PySem.W.ne_bytes (bQ I q (congrArg not xO))
  | _=>exact absurd (show false=true from hs) Gi
 | _=>cases y<;>exact absurd (show false=true from hs) Gi
def fJ:bS X (compareOp .Lt) (iq λi j=>.bl (decide (i<j))):=mP λ_ _ _ _ _ _ _ q=>lt_int q
def jm:bS X (compareOp .LtE) (iq λi j=>.bl (decide (i<=j))):=mP λ_ _ _ _ _ _ _ q=>le_int q
def fX:bS X (compareOp .Gt) (iq λi j=>.bl (decide (j<i))):=mP λ_ _ _ _ _ _ _ q=>gt_int q
def pM:bS X (compareOp .GtE) (iq λi j=>.bl (decide (j<=i))):=mP λ_ _ _ _ _ _ _ q=>ge_int q
def E2:bS X (compareOp .Is) (λx y H Q=>y=.non/\Q (.bl (decide (x=.non))) H):=by
 intro pins s σ H x y v u Q I a b h;obtain⟨rfl,q⟩:=h;cases b;refine is_none_gen (bQ I q ?_);cases x<;>first
  | (cases a;rfl)
  | (obtain⟨t,rfl⟩:=a;rfl)
def nM:bS X (compareOp .IsNot) (λx y H Q=>y=.non/\Q (.bl (!decide (x=.non))) H):=by
 intro pins s σ H x y v u Q I a b h;obtain⟨rfl,q⟩:=h;cases b;refine isnot_none_gen (bQ I q ?_);cases x<;>first
  | (cases a;rfl)
  | (obtain⟨t,rfl⟩:=a;rfl)
def aT(b:Vk){op:CmpOp}(h:op≠.In:=by decide)(h2:op≠.NotIn:=by decide):behindInMarks op b=false:=by
 have a:(op == CmpOp.In)=false:=by cases op<;>first|rfl|exact absurd rfl h
 have c:(op == CmpOp.NotIn)=false:=by cases op<;>first|rfl|exact absurd rfl h2
 cases b<;>simp[behindInMarks,a,c]
def fU(ho:bS X (compareOp op) r)(ha:PE X a ta)(hb:PE X b tb)(c:behindInMarks op b=false):PE X (.Compare a [op] [b] pos) (jC r ta tb):=by intro pins s σ H Q I h;exact wpAny_Compare1 (pH ha hb I h λv u s2 x y H2 d e f q=>ho pins s2 σ H2 x y v u Q d e f q) c
def yO(t:TE):TT:=λσ H Q=>t σ H λx H'=>∃k,x=.bl k/\Q k H'
def aU(ho:bS X (compareOp op) r)(ha:PE X a ta)(hb:PE X b tb)(d:behindInMarks op b=false):PT X (.Compare a [op] [b] pos) (yO (jC r ta tb)):=by
 intro pins s σ H Q I h;refine wpAny_isTrue_Compare1 (aJ (ha pins s σ H _ I h) λv s1 ⟨x,H1,f,r1,g⟩=>aJ (hb pins s1 σ H1 _ f g) λu s2 ⟨y,H2,i,j,l⟩=>
  aJ (ho pins s2 σ H2 x y v u _ i r1 j l) λc q ⟨z,m,n,o,k,e,p⟩=>?_) d
 subst e;cases o;exact wpAny_truthy_bool ⟨m,n,p⟩
def xM(r b:R2)(ta tb tc:TE):TE:=λσ H Q=>ta σ H λx H1=>tb σ H1 λy H2=>r x y H2 λz a=>∃k,z=.bl k ∧
 (if k=true then tc σ a λc d=>b y c d Q else Q (.bl false) a)
def mH{op f:CmpOp}{r i:R2}(ho:bS X (compareOp op) r)(g:bS X (compareOp f) i)(ha:PE X a ta)(hb:PE X b tb)(o:PE X c tc)
  (p:lastMarks [op,f] [b,c]=false:=by with_unfolding_all rfl):PE X (.Compare a [op,f] [b,c] pos) (xM r i ta tb tc):=by
 intro pins s σ H Q I h;refine Compare_chain (aJ (ha pins s σ H _ I h) λv s1 ⟨x,H1,q,r1,w⟩=>chain_link (aJ (hb pins s1 σ H1 _ q w) λu s2 ⟨y,H2,A,j,B⟩=>
  aJ (ho pins s2 σ H2 x y v u _ A r1 j B) λd C ⟨z,l,m,E,k,e,n⟩=>?_)) p
 subst e;cases E;refine wpAny_truthy_bool ?_;cases k with
 | false=>exact ite_ff ⟨.bl false,l,m,rfl,n⟩
 | true=>exact ite_tt (chain_last (aJ (o pins C σ l _ m n) λF G ⟨J,L,M,N,O⟩=>g pins G σ L y J u F Q M j N O))
def l7(K:FX)(x:V)(H:Hp)(k:Bool):Prop:=
 match x with
 | .non=>k=false
 | .bl b=>k=b
 | .int i=>k=(i != 0)
 | .str y=>y.length<=sizeLine/\k=((y.length:Int) != 0)
 | .byt y=>y.size<=sizeLine/\k=((y.size:Int) != 0)
 | .ref p=>(∃xs,af K H p xs/\k = !xs.isEmpty)\/(∃xs,ax K H p xs/\k = !xs.isEmpty)\/∃kvs,H p=Vn (.dK kvs)/\k = !kvs.isEmpty
 | _=>False
def C4{kvs:List (κ×V)}{vs:List (κ×Va)}(r:KV kvs vs):(!vs.isEmpty) = !kvs.isEmpty:=by cases r<;>rfl
def wj{a:List Va}(r:Vals xs a):(!a.toArray.isEmpty) = !xs.isEmpty:=by cases r<;>simp
def i4:(sizeLine:Nat)<2 ^ 63:=by decide
theorem FP:Ar X (λx H Q=>∃k,l7 X.K x H k/\Q k H):=by
 intro pins s σ H x v Q I a h;obtain⟨k,e,q⟩:=h;have hs:sizeLine=16777216:=sizeLine_eq;cases x with
 | non=>
  cases a;have e':k=false:=e;subst e';exact truthy_none ⟨H,I,q⟩
 | bl b=>
  cases a;have e':k=b:=e;subst e';exact wpAny_truthy_bool ⟨H,I,q⟩
 | int i=>
  obtain⟨t,rfl⟩:=a;have e':k=(i != 0):=e;subst e';exact PySem.P.truthy_int ⟨H,I,q⟩
 | str y=>
  obtain⟨t,rfl⟩:=a;obtain⟨g,e'⟩:y.length<=sizeLine/\k=((y.length:Int) != 0):=e;subst e';exact PySem.P.truthy_str (by lia) ⟨H,I.tok _,q⟩
 | byt y=>
  obtain⟨t,rfl⟩:=a;obtain⟨g,e'⟩:y.size<=sizeLine/\k=((y.size:Int) != 0):=e;subst e';exact PySem.W.truthy_bytes (by lia) ⟨H,I.tok _,q⟩
 | ref p=>
  cases a;have e':(∃xs,af X.K H p xs/\k = !xs.isEmpty)\/(∃xs,ax X.K H p xs/\k = !xs.isEmpty)\/∃kvs,H p=Vn (.dK kvs)/\k = !kvs.isEmpty:=e;rcases e' with⟨xs,c,e'⟩|⟨xs,c,e'⟩|⟨kvs,c,e'⟩
  .subst e';obtain⟨d,r,pl,f⟩:=I.list c;have hlen:=r.length;exact wpAny_truthy_list pl.isList (by simp only[F6];lia) ⟨H,I.tok _,by rw[wj r];exact q⟩
  .subst e';obtain⟨d,r,pl,f⟩:=I.tuple c;have hlen:=r.length;exact truthy_tuple pl (by simp only[F6];lia) ⟨H,I.tok _,by rw[wj r];exact q⟩
  .subst e';obtain⟨f,j,vs,r,m⟩:kvs.length<=sizeLine/\(p == sysModules)=false/\∃vs,KV kvs vs/\s.heap.DictOf (cR X.prog X.w) p vs:=I.hok p _ c;have hlen:kvs.length=vs.length:=G9 r;exact wpAny_truthy_dict j m (by lia) ⟨H,I.tok _,by rw[C4 r];exact q⟩
 | _=>exact(show False from e).elim
def Bz(ha:PE X a ta)(b:∀whole,isTrue a X.env whole=(do let v <-whole;standAt a.pos;holding [v] (truthy v))):
  PT X a (λσ H Q=>ta σ H λx H'=>∃k,l7 X.K x H' k/\Q k H'):=by
 intro pins s σ H Q I h;exact isTrue_plain (aJ (ha pins s σ H _ I h) λv s1 ⟨x,H1,c,r1,d⟩=>FP pins s1 σ H1 x v Q c r1 d) (b _)
def vals1(r:Vals [x] us):∃u,us=[u]/\RelV x u:=by
 cases r with
 | cons r1 a=>cases a;exact⟨_,rfl,r1⟩
def vals2(r:Vals [x,y] us):∃u a,us=[u,a]/\RelV x u/\RelV y a:=by
 cases r with
 | cons r1 b=>
  cases b with
  | cons c d=>cases d;exact⟨_,_,rfl,r1,c⟩
def BJ(b:X.calm=true):cP X (.builtin "max") (λxs H Q=>∃i j,xs=[.int i,.int j]/\Q (.int (if j>i then j else i)) H):=by
 intro pins s σ H xs us Q I r h;obtain⟨i,j,rfl,q⟩:=h;obtain⟨u,c,rfl,⟨t,rfl⟩,⟨d,rfl⟩⟩:=vals2 r;refine max_two_ints (I.ok.hd b) λh' tk k=>⟨_,H,I.kept k,?_,q⟩;by_cases a:j>i
 .rw[G5 a,G5 a];exact⟨_,rfl⟩
 .rw[G0 a,G0 a];exact⟨_,rfl⟩
end
structure ObjM(h:Vh)(x dx C:Vb)(mA:Vm->Option Va):Prop where
 obj:h.get? x=Vn (LV C dx)
 ns:h.Ns1 dx mA
 ne:dx≠x
def Er(n:h.Ns1 dx mA):∃od,h.get? dx=Vn od/\∀name,Ln name od=Vn (mA name):=by
 obtain⟨o,es,ep,ho,hd,c,_,d⟩:=n;refine⟨o,ho,λname=>?_⟩;have e:=d name;unfold nsFind findBy at e;rw[<-Array.find?_toList]at e;unfold Ln;rw[hd];dsimp only;split
 .rename_i y q;rw[q]at e;exact congrArg Vn e
 .rename_i q;rw[q]at e;have a:es.toList.any (·.refKey)=false:=by rw[List.any_eq_false];intro y f;obtain⟨z,t,b⟩:=c y (KC.mp f);simp[DictEntry.refKey,b]
  have g:¬es.toList.any (·.refKey)=true:=by rw[a];exact Gi
  rw[G0 g];exact congrArg Vn e
def ObjM.look(I:ObjM h x dx C mA):∃od,PySem.W.InstAt h x (LV C dx) C (Vn od)/\∀name,Ln name od=Vn (mA name):=
 let ⟨od,ho,hl⟩:=Er I.ns
 ⟨od,⟨I.obj,rfl,rfl,ho⟩,hl⟩
def fH.some_of(r:fH (Vn v) o):∃u,o=Vn u/\RelV v u:=by
 cases o with
 | none=>exact(r).elim
 | some u=>exact⟨u,rfl,r⟩
section
variable {P:Vd} {w:Ve} {H H':Hp} {h h':Vh} {a C dx:Vb} {fs fs':List (Vm×V)}
def EH(hok:bE P w H h)(e:H a=Vn (.ins C dx fs)):∃mA,ObjM h a dx C mA/\(∀f,fH (fs.lookup f) (mA f))/\PySem.Within mA (fs.map (·.1))/\fs.length<=1000/\H dx=Vn (.own a):=by obtain⟨d,z,ne,b,mA,n,r,q⟩:=(show bI P w H h a (.ins C dx fs)from hok a _ e);exact⟨mA,⟨b,n,ne⟩,r,q,z,d⟩
end
structure Cls(K:FX)(C:Vb):Prop where
 pg:Mc K C Str.empty=true
 hd:PySem.W.hasDictIn K C=true
 po:PySem.W.plainOver K C=true
 sa:PySem.W.findIn K (.ref C) "__setattr__" = Vn (Vn (.builtin "object.__setattr__"))
def Cls.get{K:FX}(c:Cls K C)(f):Mc K C f=true:=c.pg
section
variable {X:Cx} {pins:List (Vb×Obj)} {σ:St} {H:Hp} {s:Vc} {A:Vi} {E:Va->Vc->Prop} {Q:Va->Vc->Prop} {c:Va} {b:Bool}
inductive TyOf(K:FX)(H:Hp):V->Va->Prop where
 | non:TyOf K H .non (.type "NoneType")
 | bl (x:Bool):TyOf K H (.bl x) (.type "bool")
 | int (i:Int):TyOf K H (.int i) (.type "int")
 | str (x:Vm):TyOf K H (.str x) (.type "str")
 | flt (x:UInt64):TyOf K H (.flt x) (.type "float")
 | lst {a:Vb} {xs:List V} (e:H a=Vn (.lst xs)):TyOf K H (.ref a) (.type "list")
 | frz {a:Vb} {o:Obj} {xs:List V} (e:H a=Vn (.frz o (.lst xs))):TyOf K H (.ref a) (.type "list")
 | tup {a:Vb} {xs:List V} (e:H a=Vn (.tup xs)):TyOf K H (.ref a) (.type "tuple")
 | dK {a:Vb} {kvs:List (Key×V)} (e:H a=Vn (.dK kvs)):TyOf K H (.ref a) (.type "dict")
 | dT {a:Vb} {kvs:List (List Key×V)} (e:H a=Vn (.dT kvs)):TyOf K H (.ref a) (.type "dict")
 | ins {a C dx:Vb} {fs:List (Vm×V)} (e:H a=Vn (.ins C dx fs)) (cl:Cls K C) (ha:PySem.W.findIn K (.ref C) "__class__" = Vn (Vn (.builtin "object.__class__")))
   (c:PySem.W.specialIn K (.builtin "object.__class__") "__get__" = Vn (Vn (.builtin "getset_descriptor.__get__"))) (b:PySem.W.takesIn K (.builtin "object.__class__")=Vn true)
   (d:PySem.W.mroIn K C (.type "object")=Vn true):TyOf K H (.ref a) (.ref C)
def AI(I:Inv X pins σ H s)(d:RelV x u)(ty:TyOf X.K H x t)(e:PySem.W.kitOne X.K t c=Vn b)(h:∀tk,Q (.bool b) { s with toks:=tk }):
  Vf (Vg X.prog X.w) A (call (.builtin "isinstance") [u,c]) Q E s:=by
 cases ty with
 | non=>cases(d);exact IH PySem.W.kitx_none I.kIn True.intro e (λz=>nomatch z) h
 | bl y=>cases(d);exact IH PySem.W.kitx_bool I.kIn True.intro e (λz=>nomatch z) h
 | int i=>obtain⟨t,q⟩:=(show ∃t,u=Value.int i t from d);cases q;exact IH PySem.W.kitx_int I.kIn True.intro e (λz=>nomatch z) h
 | str y=>obtain⟨t,q⟩:=(show ∃t,u=Value.str y t from d);cases q;exact IH PySem.W.kitx_str I.kIn True.intro e (λz=>nomatch z) h
 | flt y=>obtain⟨t,q⟩:=(show ∃t,u=Value.float y t from d);cases q;exact IH PySem.W.kitx_float I.kIn True.intro e (λz=>nomatch z) h
 | @lst a xs f=>
  cases(d);obtain⟨_,_,n,_,h1⟩:=(show bI X.prog X.w H s.heap a (.lst xs)from I.hok a _ f);exact IH MU I.kIn ⟨_,h1,rfl⟩ e (λz=>nomatch z) h
 | @frz a j xs f=>
  cases(d);obtain⟨_,_,_,n,_,h1⟩:=(show bI X.prog X.w H s.heap a (.frz j (.lst xs))from I.hok a _ f);exact IH MU I.kIn ⟨_,h1,rfl⟩ e (λz=>nomatch z) h
 | @tup a xs f=>
  cases(d);obtain⟨_,_,_,p⟩:=(show bI X.prog X.w H s.heap a (.tup xs)from I.hok a _ f);obtain⟨o,h1,h2,_⟩:=p;exact IH PySem.W.kitx_tuple I.kIn ⟨o,h1,h2⟩ e (λz=>nomatch z) h
 | @dK a kvs f=>
  cases(d);obtain⟨_,_,vs,_,p⟩:=(show bI X.prog X.w H s.heap a (.dK kvs)from I.hok a _ f);obtain⟨o,es,ep,h1,h2,_⟩:=p;exact IH MV I.kIn ⟨o,h1,h2.1⟩ e (λz=>nomatch z) h
 | @dT a kvs f=>
  cases(d);obtain⟨_,_,xs,_,o,es,ep,h1,h2,_⟩:=(show bI X.prog X.w H s.heap a (.dT kvs)from I.hok a _ f);exact IH MV I.kIn ⟨o,h1,h2.1⟩ e (λz=>nomatch z) h
 | @ins a C dx fs f cl ha l g m=>
  cases(d);obtain⟨mA,O,_⟩:=EH I.hok f;obtain⟨od,J,_⟩:=O.look;exact IH (PySem.W.kitx_own (cl.get _) cl.hd ha l g m) I.kIn J e (λz=>nomatch z) h
end
structure Room(k:Nat)(A:Vi):Prop where
 hd:A.handled=Vo
 dp:A.depth+3*k+5<recursionLimit
 un:A.units+16*k+200<cLine
theorem Room.mono(r:Room k A)(h:j<=k):Room j A:=⟨r.hd,by have:=r.dp;lia,by have:=r.un;lia⟩
theorem Room.deeper{k:Nat}{A:Vi}(r:Room (k+1) A)(env:Env):Room k (A.deeper env):=
 ⟨r.hd,by have:=r.dp;show A.depth+1+3*k+5<_;lia,by have:=r.un;show A.units+3+16*k+200<_;lia⟩
theorem Room.depth{k:Nat}{A:Vi}(r:Room k A):A.depth<recursionLimit:=by have:=r.dp;lia
theorem Room.units{k:Nat}{A:Vi}(r:Room k A):A.units+64<cLine:=by have:=r.un;lia
def pT:TA:=λ_ H Q=>Q [] H
def mO(ta:TE)(tr:TA):TA:=λσ H Q=>ta σ H λx H1=>tr σ H1 λxs H2=>Q (x::xs) H2
section
variable {X:Cx} {e:Vk} {es:List Vk} {te:TE} {t:TA} {pos:Pos}
def aa:PA X [] pT:=λ_ _ _ _ H Q I h=>Ky ⟨[],H,I,.nil,h⟩
def ao(ha:PE X e te)(a:PA X es t)(hs:starEach (e::es) X.env=(false,eval e X.env)::starEach es X.env:=by rfl):PA X (e::es) (mO te t):=by intro pos pins s σ H Q I h;rw[hs];refine Kk (aJ (ha pins s σ H _ I h) λu s1 ⟨x,H1,b,r1,c⟩=>?_);exact aJ (a pos pins s1 σ H1 _ b c) λus s2 ⟨xs,H2,d,f,g⟩=>⟨x::xs,H2,d,.cons r1 f,g⟩
def nZ(t:TA):TE:=λσ H Q=>t σ H λxs H1=>xs.length<=sizeLine/\∀p,H1 p=Vo->Q (.ref p) (upd H1 p (.tup xs))
def vk(t:TA):TE:=λσ H Q=>t σ H λxs H1=>xs.length<=sizeLine/\∀p,H1 p=Vo->Q (.ref p) (upd H1 p (.lst xs))
def bz{x1}(h:PA X es t):PE X (.Tuple es x1 pos) (nZ t):=by intro pins s σ H Q I c;refine wpAny_Tuple_spliced (aJ (h pos pins s σ H _ I c) λus s1 ⟨xs,H1,a,r,z,q⟩=>⟨by rw[<-r.length];exact z,?_⟩);have d:H1 s1.heap.objs.size=none:=a.hok.fresh (Gn _);refine⟨.ref s1.heap.objs.size,upd H1 s1.heap.objs.size (.tup xs),a.laid (λb u e=>FY _ e) (Gn _) ?_,rfl,q _ d⟩;exact⟨z,us,r,⟨_,FZ _ rfl,rfl,_,rfl⟩⟩
def bF(h:PA X es t):PE X (.List es pos) (vk t):=by intro pins s σ H Q I c;refine wpAny_List_spliced (aJ (h pos pins s σ H _ I c) λus s1 ⟨xs,H1,a,r,z,q⟩=>⟨by rw[<-r.length];exact z,?_⟩);have d:H1 s1.heap.objs.size=none:=a.hok.fresh (Gn _);refine⟨.ref s1.heap.objs.size,upd H1 s1.heap.objs.size (.lst xs),a.laid (λb u e=>FY _ e) (Gn _) ?_,rfl,q _ d⟩;exact⟨z,us,0,r,FZ _ rfl⟩
end
abbrev Sp:=List V->Hp->VK->XK->Prop
abbrev ip:=List Env->Hp->Vc->XK->Va->Vc->Prop
structure Env0(P:Vd)(w:Ve)(K:FX)(mg:Vm->Option Va)(base:Vh)(A:Vi)(outer:List Env)(s:Vc)(H:Hp):Prop where
 frames:A.frames=Vn outer
 mod:Mod K mg base
 bs:∀b o,base.get? b=Vn o->s.heap.get? b=Vn o/\H b=Vo
 bsz:base.objs.size<=s.heap.objs.size
 funs:s.heap.FunFrames base outer
 frf:∀b∈dH outer,H b=Vo
 hok:bE P w H s.heap
 bare:AllBare s.gens
def CE(outer:List Env)(P:Vd)(w:Ve)(H:Hp)(s:Vc)(Q:VK)(u:Va)(s':Vc):Prop:=
 ∃v H',s'.os=s.os/\AllBare s'.gens/\Un (dH outer) [] H H' s.heap s'.heap/\bE P w H' s'.heap/\RelV v u/\Q v H'
def CR(CX:ip)(outer:List Env)(P:Vd)(w:Ve)(H:Hp)(s:Vc)(Q:VK)(E:XK)(r:Result)(s':Vc):Prop:=
 match r with
 | .ok (.ret u)=>CE outer P w H s Q u s'
 | .ok _=>False
 | .error e=>CX outer H s E e s'
structure FnOk(P:Vd)(w:Ve)(K:FX)(mg:Vm->Option Va)(base:Vh)(CX:ip)(k:Nat)(f:Vb)(fd:Vl)(ps:List Vm)(sp:Sp):Prop where
 len:∀vs H Q E,sp vs H Q E->vs.length=ps.length
 run:∀(A:Vi) (outer:List Env) (s:Vc) (H:Hp) (args:Args) (us:List Va) (vs:List V) (Q:VK) (E:XK),Room k A->Env0 P w K mg base A outer s H->BindsTo s fd args (ps.zip us)->Vals vs us->sp vs H Q E ->
  codeAny (Vg P w) A (.call (.ref f) args) (CR CX outer P w H s Q E) s
section
variable {X:Cx} {pins:List (Vb×Obj)} {σ:St} {H:Hp} {s s':Vc}
def Inv.env0(I:Inv X pins σ H s):Env0 X.prog X.w X.K X.mg X.base X.A X.stack s H:=
 ⟨I.ok.frames,I.ok.mod,I.bs,GC I.ok.bsz I.sz,I.stack,I.stkFree,I.hok,I.bare⟩
def Inv.after(I:Inv X pins σ H s)(h:CE X.stack X.prog X.w H s Q u s'):EP X pins σ Q u s':=by obtain⟨v,H',os,bare,un,hok,r,q⟩:=h;obtain⟨c,g,d,t,a⟩:=s';obtain rfl:a=s.os:=os;exact⟨v,H',I.call un hok bare (λb z=>absurd z (by simp)),r,q⟩
end
def lR(sp:Sp)(dvs:List V)(E:XK)(t:TA):TE:=λσ H Q=>t σ H λvs H1=>sp (vs++dvs) H1 Q E
def Binds(K:FX)(fd:Vl)(ps:List Vm)(ds:List Va):Prop:=
 ∀(s:Vc) (us:List Va),K.In s.heap->(us++ds).length=ps.length->BindsTo s fd ⟨us,[]⟩ (ps.zip (us++ds))
def Binds.all{K:FX}(h:∀us,us.length=ps.length->bindArgs fd ⟨us,[]⟩=pure (ps.zip us)):Binds K fd ps []:=λs us _ a=>by rw[HW]at a ⊢;exact .of_eq (h us a)
def Passes(CX:ip)(X:Cx)(E:XK):Prop:=∀(pins:List (Vb×Obj)) (σ:St) (H:Hp) (s:Vc) (e:Va) (s':Vc),Inv X pins σ H s->CX X.stack H s E e s'->X.xe e s'
section
variable {X:Cx} {CX:ip} {k:Nat} {f C:Vb} {fd:Vl} {ps:List Vm} {sp:Sp} {dvs:List V} {ds:List Va} {E:XK} {x m:Vm} {p pos apos:Pos} {e o:Vk} {es:List Vk} {ta:TE} {t:TA}
def DE{σ:St}(F:FnOk X.prog X.w X.K X.mg X.base CX k f fd ps sp)(c:Room k X.A)(hb:Binds X.K fd ps ds)(hd:Vals dvs ds)(d:Passes CX X E)
  (I:Inv X pins σ H s) (r:Vals vs us) (h:sp (vs++dvs) H Q E):Vf (Vg X.prog X.w) X.A (call (.ref f) us) (EP X pins σ Q) X.xe s:=by
 have b:Vals (vs++dvs) (us++ds):=r.append hd;have g:(us++ds).length=ps.length:=by rw[<-b.length];exact F.len _ _ _ _ h
 refine wpAny_call (codeAny_mono (F.run X.A X.stack s H ⟨us,[]⟩ (us++ds) (vs++dvs) Q E c I.env0 (hb s us I.kIn g) b h) λr s' a=>?_);cases r with
 | error e=>exact d pins σ H s e s' I a
 | ok i=>
  cases i with
  | ret u=>exact I.after a
  | next=>exact HY a
  | brk=>exact HY a
  | cont=>exact HY a
def zi(F:FnOk X.prog X.w X.K X.mg X.base CX k f fd ps sp)(d:Room k X.A)(g:Gl X x)(i:X.mg x=Vn (.ref f))(j:Ja X.K (.ref f)=true)(hb:Binds X.K fd ps ds)(hd:Vals dvs ds)(l:Passes CX X E)
  (ha:PA X (e::es) t) (a:(x == ("__debug__":Vm))=false:=by decide) (m:starEach (e::es) X.env=(false,eval e X.env)::starEach es X.env:=by rfl) (b:(backTo pos (starEach es X.env)).any (·.1)=false:=by rfl) :
  PE X (.Call (.Name x p) (e::es) [] pos) (lR sp dvs E t):=by
 intro pins s σ H Q I h;refine wpAny_Call_Name_kw (j4 I g i ?_ a);refine MJ I.ok.mod.kin j (aJ (ha pos pins s σ H _ I h) λus s1 ⟨vs,H1,c,r,q⟩=>⟨c.kIn,?_⟩) m b;exact DE F d hb hd l c r q
end
structure FnScope(N P:List Vm)(sc:Scope):Prop where
 kind:sc.kind=.function
 co:sc.isCoroutine=false
 gen:sc.isGenerator=false
 nd:N.Nodup
 pre:N.take P.length=P
 par:∀x∈P,sc.names.lookup x=Vn .local\/sc.names.lookup x=Vn .cell
 nofree:∀y∈sc.names,y.2≠.free
theorem sf{kindOf:Vm->Option NameKind}{x:Vm}:∀{binds:List (Vm×Va)} {m:Vm->Option Va},(∀v,(x,v)∉binds)->bindL kindOf binds m x=m x
 | [],_,_=>rfl
 | (n,v)::r,m,h=>by
  unfold bindL;rw[sf λw a=>h w (F4 _ a)];split
  .have:x≠n:=by rintro rfl;exact h v F7
   simp[this]
  .rfl
theorem uf{kindOf:Vm->Option NameKind}{x:Vm}:∀{binds:List (Vm×Va)} {m:Vm->Option Va},(∀v,(x,v)∉binds)->bindC kindOf binds m x=m x
 | [],_,_=>rfl
 | (n,v)::r,m,h=>by
  unfold bindC;rw[uf λw a=>h w (F4 _ a)];split
  .rfl
  .have:x≠n:=by rintro rfl;exact h v F7
   simp[this]
theorem qD{kindOf:Vm->Option NameKind}{x:Vm}{v:Va}:∀{P:List Vm} {vs:List Va} {i:Nat} {m:Vm->Option Va},P.Nodup->P[i]?=Vn x->vs[i]?=Vn v->kindOf x=Vn .local ->
  bindL kindOf (P.zip vs) m x=Vn v
 | [],_,_,_,_,h,_,_=>by simp at h
 | _::_,[],_,_,_,_,h,_=>by simp at h
 | p::P,w::vs,0,m,nd,h1,h2,a=>by simp at h1 h2;subst h1;subst h2;show bindL kindOf ((p,w)::P.zip vs) m p=_;unfold bindL;rw[sf λv b=>(Hs.mp nd).1 (KQ b).1,G5 a];simp
 | p::P,w::vs,i+1,m,nd,h1,h2,a=>by unfold bindL;exact qD (Hs.mp nd).2 (by simpa using h1) (by simpa using h2) a
theorem qm{kindOf:Vm->Option NameKind}{x:Vm}{v:Va}:∀{P:List Vm} {vs:List Va} {i:Nat} {m:Vm->Option Va},P.Nodup->P[i]?=Vn x->vs[i]?=Vn v->kindOf x≠Vn .local ->
  bindC kindOf (P.zip vs) m x=Vn v
 | [],_,_,_,_,h,_,_=>by simp at h
 | _::_,[],_,_,_,_,h,_=>by simp at h
 | p::P,w::vs,0,m,nd,h1,h2,a=>by simp at h1 h2;subst h1;subst h2;show bindC kindOf ((p,w)::P.zip vs) m p=_;unfold bindC;rw[uf λv b=>(Hs.mp nd).1 (KQ b).1,G0 a];simp
 | p::P,w::vs,i+1,m,nd,h1,h2,a=>by unfold bindC;exact qm (Hs.mp nd).2 (by simpa using h1) (by simpa using h2) a
def start(N:List Vm)(vs:List V):St:=vs.map Vn++GO (N.length-vs.length) Vo
def eP(CX:ip)(P:Vd)(w:Ve)(K:FX)(mg:Vm->Option Va)(base:Vh)(N:List Vm)(qual:Vm)(scope:Scope)(f:Vb)(cd:Va)(A:Vi)(outer:List Env)(s:Vc)(H:Hp)(E:XK):Cx where
 prog:=P
 w:=w
 K:=K
 mg:=mg
 base:=base
 A:=A.deeper (envOfC qual scope s.heap.objs.size f cd)
 N:=N
 s₀:=s
 H₀:=H
 env:=envOfC qual scope s.heap.objs.size f cd
 outer:=outer
 stack:=envOfC qual scope s.heap.objs.size f cd::outer
 ex:=[]
 calm:=true
 fn:=λ_=>true
 pn:=[]
 xe:=λe s'=>Vf (Vg P w) (A.deeper (envOfC qual scope s.heap.objs.size f cd)) (leaving (envOfC qual scope s.heap.objs.size f cd) e) (λ_ a=>CX outer H s E e a) (λe' a=>CX outer H s E e' a) s'
def yK{sc:Scope}(h:sc.names.lookup x=Vn .cell):∃c,(cellsFrom n sc.names []).lookup x=Vn c:=by have q:=Hw sc.names n [] (.inl h);exact HV.mp q
theorem u5{K:FX}{E:XK}
  (S:FnScope N ps scope) (hd:A.handled=Vo) (d:Env0 P w K mg base A outer s H) (F:vs.length=ps.length) (r:Vals vs us)
  (x:InCallC s s.heap.objs.size (bindL (envOfC qual scope s.heap.objs.size f cd).kindOf (ps.zip us) λ_=>Vo) (cellsFrom (s.heap.objs.size+1) scope.names []) (bindC (envOfC qual scope s.heap.objs.size f cd).kindOf (ps.zip us) λ_=>Vo) s1) :
  Inv (eP CX P w K mg base N qual scope f cd A outer s H E) [] (start N vs) H s1:=by
 have B:ps.length<=N.length:=by have:=congrArg Lo S.pre;rw[GU]at this;lia
 obtain⟨h1,tk,rfl,m⟩:=x.done;have noA:∀b:Vb,b∉(eP CX P w K mg base N qual scope f cd A outer s H E).ex:=λb z=>absurd (show b∈([]:List Vb)from z) (by simp);refine⟨⟨d.mod,S.kind,rfl,rfl,Gn _,λy z c h1 h2=>?_,λy g=>?_,λy c _ h=>?_,λ_=>hd,Lp d.frames,.inr ⟨rfl,rfl⟩,λb z=>absurd z (noA b),d.bs,d.bsz,λb _ _=>noA b,λb z=>absurd z (noA b),d.funs,d.frf⟩,
  rfl,d.bare,Un.kept m,⟨_,x.toInCall.ns,λi y v h1 h2 G=>?_⟩,λy c h=>⟨_,x.cell y c h⟩,d.hok.fresh (Gn _),λy c h=>?_,λp j=>absurd (show p∈([]:List (Vb×Obj))from j) (by simp),d.hok.kept m,?_⟩
 .exact name_of_addr x.apart (Hl h1) (Hl h2)
 .rcases g with g|g
  .exact yK g
  .exact absurd rfl (S.nofree _ (Hl g))
 .exact Io (x.above y c (Hl h))
 .have hi:i<vs.length:=by
   unfold start at h2;by_cases hi:i<vs.length
   .exact hi
   .rw[Gs (by simpa using hi)]at h2;rw[K9]at h2;split at h2<;>cases h2
  have ha:vs[i]?=Vn v:=by
   unfold start at h2;rw[Gu (by simpa using hi),F3]at h2;cases e:vs[i]? with
   | none=>rw[e]at h2;cases h2
   | some a=>rw[e]at h2;cases h2;rfl
  obtain⟨u,o,C⟩:=r.get ha;have j:ps[i]?=some y:=by rw[<-S.pre,Ic (by lia)];exact h1
  have l:ps.Nodup:=by rw[<-S.pre];exact S.nd.sublist (List.take_sublist _ _)
  refine⟨u,C,?_⟩;rcases S.par y (Ga j)with k|k
  .exact .inl ⟨k,qD l j o k⟩
  .obtain⟨c,e⟩:=yK (n:=s.heap.objs.size+1) k;refine .inr ⟨.inl k,c,e,?_⟩;have q:=x.cell y c e;rw[qm l j o (by show scope.names.lookup y≠_;rw[k];decide)]at q;exact q
 .exact d.hok.fresh (Io (x.above y c (Hl h)))
 .unfold start;show _=N.length;rw[Gk,F1,La];lia
def wF{K:FX}{j kV doc pm cdv ct oc:Va}
     (m:K.lookup f=Vn ⟨oc,od,.func (Iq name qual params body scope j kV doc pm an cdv ct),osl⟩) (g:Jr K cdv qual=true) (S:FnScope N ps scope)
  (len:∀vs H Q E,sp vs H Q E->vs.length=ps.length)
  (c:∀A outer s H vs Q E,Room k (A.deeper (envOfC qual scope s.heap.objs.size f cdv))->sp vs H Q E ->
   ∃t,cM (eP CX P w K mg base N qual scope f cdv A outer s H E) body t/\t { nx:=λ_ H'=>Q .non H',rt:=Q } (start N vs) H) :
  FnOk P w K mg base CX (k+1) f (Iq name qual params body scope j kV doc pm an cdv ct) ps sp:=by
 refine⟨len,λA outer s H args us vs Q E h d hb r hsp=>?_⟩;have p:=len _ _ _ _ hsp;have l:K.In s.heap:=d.mod.kin.keeps λb o e=>(d.bs b o e).1;have lim:=d.mod.nolimit.keeps λb o e=>(d.bs b o e).1;have hkind:∀y∈ps.zip us,scope.names.lookup y.1=Vn .local\/(scope.names.lookup y.1=Vn .cell/\((cellsFrom (s.heap.objs.size+1) scope.names []).lookup y.1).isSome=true):=λ⟨n,v⟩ z=>by
  rcases S.par n (KQ z).1 with q|q
  .exact .inl q
  .exact .inr ⟨q,Hw _ _ _ (.inl q)⟩
 refine codeAny_call_function h.depth (l _ _ m) rfl S.co S.gen rfl (PySem.W.codeRec_of l g) (hb _ _ _ _ ?_);refine wpAny_newFunctionEnv_cells S.kind hkind λenv B s1 x=>?_;subst B;refine⟨lim.keeps x.toInCall.keep,codeAny_func ?_⟩;obtain⟨t,C,F⟩:=c A outer s H vs Q E (h.deeper _) hsp;have I:Inv (eP CX P w K mg base N qual scope f cdv A outer s H E) [] (start N vs) H s1:=u5 S h.hd d p r x;refine wpAny_mono (C [] s1 (start N vs) H _ I F) (λG s' hs=>?_) λe s' hs=>hs;have fin:∀{a:St} {H':Hp} {v:V} {u:Va},Inv (eP CX P w K mg base N qual scope f cdv A outer s H E) [] a H' s'->RelV v u->Q v H'->CE outer P w H s Q u s':=
  λ{a H' v u} J i q=>⟨v,H',J.os,J.bare,J.base,J.hok,i,q⟩
 cases G with
 | ret u=>
  obtain⟨v,a,H',J,i,q⟩:=hs;exact fin J i q
 | next=>
  obtain⟨a,H',J,q⟩:=hs;exact fin (v:=V.non) J rfl q
 | brk=>
  obtain⟨_,_,_,q⟩:=hs;exact HY q
 | cont=>
  obtain⟨_,_,_,q⟩:=hs;exact HY q
section
variable {X:Cx} {x:Vm} {p pos:Pos} {e:Vk} {es:List Vk} {t:TA} {id T:String} {r:List V->Hp->VK->Prop}
def l5(r:List V->Hp->VK->Prop)(t:TA):TE:=λσ H Q=>t σ H λvs H1=>r vs H1 Q
def bx(c:cP X (.builtin id) r)(d:Gl X x)(f:X.mg x=Vo)(g:bootBuiltins x=Vn (.builtin id))(ha:PA X (e::es) t)(i:x≠"__name__":=by decide)(a:(x == ("__debug__":Vm))=false:=by decide)
  (j:starEach (e::es) X.env=(false,eval e X.env)::starEach es X.env:=by rfl) (b:(backTo pos (starEach es X.env)).any (·.1)=false:=by rfl):PE X (.Call (.Name x p) (e::es) [] pos) (l5 r t):=by
 intro pins s σ H Q I h;refine wpAny_Call_Name_kw (fu I d f g ?_ i a);exact PyProof.Rows.callWith_builtin1 (aJ (ha pos pins s σ H _ I h) λus s1 ⟨vs,H1,l,r1,m⟩=>c pins s1 σ H1 vs us Q l r1 m) j b
def jZ(c:cP X (.type T) r)(d:Gl X x)(f:X.mg x=Vo)(g:bootBuiltins x=Vn (.type T))(ha:PA X (e::es) t)(i:x≠"__name__":=by decide)(a:(x == ("__debug__":Vm))=false:=by decide)
  (j:starEach (e::es) X.env=(false,eval e X.env)::starEach es X.env:=by rfl) (b:(backTo pos (starEach es X.env)).any (·.1)=false:=by rfl):PE X (.Call (.Name x p) (e::es) [] pos) (l5 r t):=by
 intro pins s σ H Q I h;refine wpAny_Call_Name_kw (fu I d f g ?_ i a);exact Hg (aJ (ha pos pins s σ H _ I h) λus s1 ⟨vs,H1,l,r1,m⟩=>c pins s1 σ H1 vs us Q l r1 m) j b
end
end L2
variable {n t' d B kk tk ep m low:Nat}{xs:List L2.V}{v:L2.V}{pins:List (Vb×Obj)}{σ:L2.St}{H H':L2.Hp}{s:Vc}{p a c l i1 i2:Vb}{ys items:Array Va}{A:Vi}{u pm ctv:Va}{T:String}{h h' base:Vh}{loose N ps own:List Vm}{X:L2.Cx}{qual:Vm}{f:Nat->Bool}{fd:Vl}{sp:L2.Sp}{env:Env}{sc out scope:Scope}{prog P:Vd}{w:Ve}{R:L2.It->L2.Hp->Prop}{elt iter tg body:Vk}{ifs elts:List Vk}{cells cl:List (Vm×Vb)}{js:List Nat}{fp:List Vb}{g:L2.TG}{tc:L2.TT}{Q E:Va->Vc->Prop}{lo:Int}{tl to td tv:L2.TE}{r:L2.V->List L2.V->L2.Hp->L2.VK->Prop}{neg:Bool}{o od:Obj}{params:Arguments}{mg:Vm->Option Va}{kvs:List (List Key×L2.V)}{us:List Va}
namespace HT
open PySem PyProof.Rows
section
open PySem.SeqAt
open PySem.AutoSeq1 (wpAny_loadPart')
open PySem.MeetsSeq PySem.MeetsSeq2 PySem.MeetsSeq3
end
section
variable {prog:Vd} {w:Ve} {A:Vi} {E:Va->Vc->Prop} {s:Vc}
def cB(n d:Nat):Option Int->Nat
 | none=>d
 | some v=>if v<0 then(v+(n:Int)).toNat else min v.toNat n
def mi(n d):cB n d Vo=d:=rfl
theorem qB(n d k:Nat):cB n d (Vn (k:Int))=min k n:=by show(if(k:Int)<0 then((k:Int)+(n:Int)).toNat else min (k:Int).toNat n)=min k n;rw[G0 (by lia),Gf]
end
end HT
namespace L2
open PySem PySem.Spec PyProof.Rows
abbrev TO:=St->Hp->(Option Int->Hp->Prop)->Prop
def PO(X:Cx)(e:Option Vk)(t:TO):Prop:=
 ∀(pins:List (Vb×Obj)) (s:Vc) (σ:St) (H:Hp) (Q:Option Int->Hp->Prop),Inv X pins σ H s->t σ H Q ->
  Vf (Vg X.prog X.w) X.A (evalPart e X.env) (λu s'=>∃o H',Inv X pins σ H' s'/\IsPart u o/\Q o H') X.xe s
def qL:TO:=λ_ H Q=>Q Vo H
def ui(t:TE):TO:=λσ H Q=>t σ H λx H1=>∃i,x=.int i/\Q (Vn i) H1
def intsAre_of:∀{us},Vals (ns.map V.int) us->IntsAre us ns:=by
 induction ns with
 | nil=>intro us r;cases r;exact .nil
 | cons n ns a=>
  intro us r;cases r with
  | cons r1 b=>
   obtain⟨t,e⟩:=r1;subst e;exact .cons n t (a b)
section
variable {X:Cx} {e:Vk} {te:TE} {lo hi:Option Vk} {tl th:TO} {pos p2:Pos}
def jb:PO X Vo qL:=by intro pins s σ H Q I h;exact FW ⟨Vo,H,I,.none,h⟩
def fG(h:PE X e te):PO X (Vn e) (ui te):=by intro pins s σ H Q I a;refine aJ (h pins s σ H _ I a) λu s1 ⟨x,H1,b,r1,c⟩=>?_;obtain⟨i,rfl,q⟩:=c;obtain⟨t,rfl⟩:=r1;exact⟨Vn i,H1,b,.int i t,q⟩
def oy(X:Cx)(r:V->Option Int->Option Int->Hp->VK->Prop):Prop:=
 ∀(pins:List (Vb×Obj)) (s:Vc) (σ:St) (H:Hp) (x:V) (v a b:Va) (lo hi:Option Int) (sl:Vb) (Q:VK),Inv X pins σ H s->RelV x v->s.heap.IsSliceOf sl a b .none->IsPart a lo->IsPart b hi->r x lo hi H Q ->
  ∃T id,typeLookup (.type T) "__getitem__" = pure (Vn (.builtin id))/\s.TypeIs v T/\Vf (Vg X.prog X.w) X.A (getItem v (.ref sl)) (EP X pins σ Q) X.xe s
def sI(r:V->Option Int->Option Int->Hp->VK->Prop)(te:TE)(tl th:TO):TE:=λσ H Q=>te σ H λx H1=>tl σ H1 λl H2=>th σ H2 λu a=>r x l u a Q
def ij{r:V->Option Int->Option Int->Hp->VK->Prop}(g:oy X r)(i:PE X e te)(j:PO X lo tl)(m:PO X hi th):PE X (.Subscript e (.Slice lo hi Vo p2) pos) (sI r te tl th):=by intro pins s σ H Q I h;refine Subscript_ (aJ (i pins s σ H _ I h) λv s1 ⟨x,H1,n,r1,o⟩=>?_);refine wpAny_Slice (aJ (j pins s1 σ H1 _ n o) λc s2 ⟨l,H2,p,pl,y⟩=>aJ (m pins s2 σ H2 _ p y) λd a ⟨u,f,z,pu,B⟩=>?_);refine FW ?_;have C:Inv X pins σ f { a with heap:=a.heap.push { cls:=.type "slice",data:=.fields #[c,d,.none] } }:=z.kept (t':=a.toks) λb J q=>FY _ q;obtain⟨T,id,E,F,G⟩:=g pins { a with heap:=a.heap.push { cls:=.type "slice",data:=.fields #[c,d,.none] } } σ f x v c d l u a.heap.objs.size Q C r1 (MK ..) pl pu B;exact tail_any F E G (by with_unfolding_all rfl)
def c6(xs:List V)(lo hi:Option Int):List V:=(xs.drop (HT.cB xs.length 0 lo)).take (HT.cB xs.length xs.length hi-HT.cB xs.length 0 lo)
theorem CI(xs)(lo hi):(c6 xs lo hi).length<=xs.length:=by unfold c6;rw[GU,JF];lia
end
def fo(n:Nat)(i:Int):Option Nat:=if 0<=i then(if i<n then Vn i.toNat else Vo)else if -(n:Int)<=i then Vn (i+n).toNat else Vo
def bT{α:Type}(xs:List α)(i:Int):Option α:=(fo xs.length i).bind λj=>xs[j]?
theorem yh(h:fo n i=Vn j):seqIndex? i n=Vn j/\j<n/\-(n:Int)<=i/\i<n:=by
 unfold fo at h;by_cases a:0<=i
 .rw[G5 a]at h;by_cases h1:i<n
  .rw[G5 h1]at h;have e:i.toNat=j:=GK h;exact⟨by rw[seqIndex_of a h1,e],by lia,by lia,h1⟩
  .rw[G0 h1]at h;cases h
 .rw[G0 a]at h;by_cases h1:-n<=i
  .rw[G5 h1]at h;have e:(i+n).toNat=j:=GK h;exact⟨by rw[seqIndex_neg (by lia) h1,e],by lia,h1,by lia⟩
  .rw[G0 h1]at h;cases h
def oP{xs:List α}{v:α}(h:bT xs i=Vn v):∃j,seqIndex? i xs.length=Vn j/\xs[j]?=Vn v/\j<xs.length/\-(xs.length:Int)<=i/\i<xs.length:=by
 unfold bT at h;cases e:fo xs.length i with
 | none=>rw[e]at h;cases h
 | some j=>
  rw[e]at h;obtain⟨h1,h2,a,b⟩:=yh e;exact⟨j,h1,h,h2,a,b⟩
theorem cO{xs:List α}{j:Nat}{v:α}(h:xs[j]?=Vn v):bT xs (j:Int)=Vn v:=by
 have a:j<xs.length:=(F9.mp h).1;have e:fo xs.length (j:Int)=Vn j:=by unfold fo;rw[G5 (by lia),G5 (by lia)];simp
 unfold bT;rw[e];exact h
theorem vX(xs)(v:α):bT (xs++[v]) (-1)=Vn v:=by
 have a:(xs++[v]).length=xs.length+1:=by simp
 have e:fo (xs++[v]).length (-1)=Vn xs.length:=by unfold fo;rw[a,G0 (by decide),G5 (by lia)];congr 1;lia
 unfold bT;rw[e];simp
def El(b:Vk):Prop:=∀o i,subscripted b false o i=operate [o,i] (getItem o i)
def jt(X:Cx)(r:R2):Prop:=
 ∀(value slice:Vk) (pins:List (Vb×Obj)) (s:Vc) (σ:St) (H:Hp) (x y:V) (v u:Va) (Q:VK),Inv X pins σ H s->RelV x v->RelV y u->r x y H Q ->
  subscripted slice false v u=operate [v,u] (getItem v u)->Vf (Vg X.prog X.w) X.A (subscriptTail value slice v u) (EP X pins σ Q) X.xe s
def jV(X:Cx)(id:String)(r:V->List V->Hp->VK->Prop):Prop:=
 ∀(pins:List (Vb×Obj)) (s:Vc) (σ:St) (H:Hp) (x:V) (xs:List V) (v:Va) (us:List Va) (Q:VK),Inv X pins σ H s->RelV x v->Vals xs us->r x xs H Q ->
  Vf (Vg X.prog X.w) X.A (call (.builtin id) (v::us)) (EP X pins σ Q) X.xe s
section
variable {X:Cx} {a b:Vk} {ta tb:TE} {pos:Pos}
def ay{r}(c:jt X r)(ha:PE X a ta)(hb:PE X b tb)(hs:El b):PE X (.Subscript a b pos) (jC r ta tb):=by intro pins s σ H Q I h;exact Subscript_ (pH ha hb I h λv u s2 x y H2 d e f q=>c a b pins s2 σ H2 x y v u Q d e f q (hs _ _))
def ny(K:FX):R2:=λx y H Q=>∃p xs i v,x=.ref p/\y=.int i/\af K H p xs/\bT xs i=Vn v/\Q v H
def oG(K:FX):R2:=λx y H Q=>∃p xs i v,x=.ref p/\y=.int i/\ax K H p xs/\bT xs i=Vn v/\Q v H
def Dv:R2:=λx y H Q=>∃z i c,x=.str z/\y=.int i/\z.length<=sizeLine/\bT z.cps.toList i=Vn c/\Q (.str ⟨#[c]⟩) H
theorem A7:jt X (ny X.K):=by
 intro value slice pins s σ H x y v u Q I f g h hs;obtain⟨p,xs,i,z,rfl,rfl,l,m,q⟩:=h;cases f;obtain⟨t,rfl⟩:=g;obtain⟨a,r,pl,B⟩:=I.list l;obtain⟨j,h1,h2,C,n,o⟩:=oP m;obtain⟨w,d,b⟩:=r.get h2;have A:=r.length;have E:=i4;have fin:EP X pins σ Q w s:=⟨z,H,I,b,q⟩;by_cases e:0<=i
 .have c:i.toNat=j:=by rw[seqIndex_of e o]at h1;exact GK h1
  exact item_listR pl.isList e (by lia) (by rw[c];simpa using d) fin hs
 .have c:(i+(a.toArray.size:Int)).toNat=j:=by rw[seqIndex_neg (by lia) n]at h1;rw[F6,<-A];exact GK h1
  exact subscriptTail_builtinR pl.isList.typeIs slot_list_getitem.lookup
   (wpAny_getItem_list_neg pl.isList (by lia) (by rw[F6]<;>lia) (by lia) (by rw[c];simpa using d) ⟨rfl,fin⟩) hs
theorem Ek:jt X (oG X.K):=by
 intro value slice pins s σ H x y v u Q I b c h hs;obtain⟨p,xs,i,z,rfl,rfl,d,e,q⟩:=h;cases b;obtain⟨t,rfl⟩:=c;obtain⟨f,r,pl,m⟩:=I.tuple d;obtain⟨j,h1,h2,n,o,A⟩:=oP e;obtain⟨w,g,a⟩:=r.get h2;have l:=r.length;have B:=i4;have fin:EP X pins σ Q w s:=⟨z,H,I,a,q⟩;exact subscriptTail_builtinR pl.typeIs slot_tuple_getitem.lookup
  (getItem_tuple pl (by lia) (by lia) (by rw[F6,<-l];exact h1) (by simpa using g) ⟨rfl,fin⟩) hs
theorem yN:jt X Dv:=by
 intro value slice pins s σ H x y v u Q I a b h hs;obtain⟨z,i,c,rfl,rfl,n,d,q⟩:=h;obtain⟨t,rfl⟩:=a;obtain⟨o,rfl⟩:=b;obtain⟨j,h1,h2,p,e,f⟩:=oP d;have g:z.cps.toList.length=z.length:=by simp[Str.length]
 rw[g]at h1 e f;have r:=i4;exact tail_any (typeIs_str s z t) slot_str_getitem.lookup (getItem_str (by have l:decide (i < -(2 ^ 63:Int))=false:=GY (by lia);have m:decide (i ≥ 2 ^ 63)=false:=GY (by lia);rw[l,m,JR]) (by rw[h1];simpa using h2) ⟨.str ⟨#[c]⟩,H,I.tok _,⟨_,rfl⟩,q⟩) hs
def Dn(a:List Va)(n j)(u):JL (·.setIfInBounds j u) { cls:=.type "list",data:=.seq a.toArray n }={ cls:=.type "list",data:=.seq (a.set j u).toArray n }:=by simp[JL]
theorem Inv.lst{pins:List (Vb×Obj)}{σ:St}{H:Hp}{s:Vc}{p:Vb}{xs:List V}(I:Inv X pins σ H s)(h:H p=Vn (.lst xs)):
  ∃(a:List Va) (n:Nat),Vals xs a/\s.heap.get? p=Vn { cls:=.type "list",data:=.seq a.toArray n }/\xs.length<=sizeLine:=by
 obtain⟨z,a,n,r,e⟩:=I.hok p _ h;exact⟨a,n,r,e,z⟩
def Inv.lstUpd{ys:List V}{a its':List Va}{n c:Nat}{f:Obj->Obj}(I:Inv X pins σ H s)(h:H p=Vn (.lst xs))
  (ho:s.heap.get? p=Vn { cls:=.type "list",data:=.seq a.toArray n }) (d:f { cls:=.type "list",data:=.seq a.toArray n }={ cls:=.type "list",data:=.seq its'.toArray c }) (r:Vals ys its') (g:ys.length<=sizeLine) (t) :
  Inv X pins σ (upd H p (.lst ys)) { s with heap:=s.heap.update p f,toks:=t }:=by
 have e:(s.heap.update p f).get? p=Vn { cls:=.type "list",data:=.seq its'.toArray c }:=by rw[IA f ho (by rw[d]<;>rfl),d]
 refine I.write (by rw[h];trivial) (.inl rfl) (λb u hb q=>(Hq _ _ (HQ hb)).trans q) ⟨_,e⟩ ?_;exact⟨g,its',c,r,e⟩
def vY:V->V->V->Hp->(Hp->Prop)->Prop:=λo i v H Q=>∃p xs k j,o=.ref p/\i=.int k/\H p=Vn (.lst xs)/\fo xs.length k=Vn j/\Q (upd H p (.lst (xs.set j v)))
theorem set_list:ue X vY:=by
 intro pins s σ H o i v A B u Q I m w x h;obtain⟨p,xs,k,j,rfl,rfl,d,y,q⟩:=h;cases m;obtain⟨t,rfl⟩:=w;obtain⟨a,n,r,ho,z⟩:=I.lst d;obtain⟨h1,h2,e,f⟩:=yh y;have b:=r.length;have C:=i4;have g:Inv X pins σ (upd H p (.lst (xs.set j v))) { s with heap:=s.heap.update p (JL (·.setIfInBounds j u)) }:=
  I.lstUpd d ho (Dn a n j u) (r.set x j) (by rw[KR];exact z) s.toks
 by_cases l:0<=k
 .have c:k.toNat=j:=by rw[seqIndex_of l f]at h1;exact GK h1
  exact PySem.W.ki_setAt ho l (by lia) (by rw[F6,<-b];exact f) (by rw[c];exact⟨_,g,q⟩)
 .have c:(k+(a.toArray.size:Int)).toNat=j:=by rw[seqIndex_neg (by lia) e]at h1;rw[F6,<-b];exact GK h1
  exact PySem.W.ki_setBack ho (by lia) (by rw[F6,<-b];exact e) (by lia) (by rw[c];exact⟨_,g,q⟩)
theorem FA(lo hi)(n):(sliceBounds lo hi Vo n).1=((HT.cB n 0 lo:Nat):Int)/\(sliceBounds lo hi Vo n).2.1=((HT.cB n n hi:Nat):Int)/\(sliceBounds lo hi Vo n).2.2=1:=by
 refine⟨?_,?_,rfl⟩
 .cases lo with
  | none=>simp[sliceBounds,HT.cB]
  | some i=>
   simp only[sliceBounds,HT.cB,Me,show (1:Int)>0 by decide,if_true];by_cases h:i<0
   .simp only[h,if_true]<;>lia
   .simp only[h,if_false]<;>lia
 .cases hi with
  | none=>simp[sliceBounds,HT.cB]
  | some i=>
   simp only[sliceBounds,HT.cB,Me,show (1:Int)>0 by decide,if_true];by_cases h:i<0
   .simp only[h,if_true]<;>lia
   .simp only[h,if_false]<;>lia
def AA(a:List Va)(lo hi):slicePick a.toArray lo hi Vo=((a.drop (HT.cB a.length 0 lo)).take (HT.cB a.length a.length hi-HT.cB a.length 0 lo)).toArray:=by obtain⟨h1,h2,b⟩:=FA lo hi a.toArray.size;unfold slicePick;rw[h1,h2,b];simp only[sliceRange_one,pick_run,F6]<;>rfl
def pO(K:FX):V->Option Int->Option Int->Hp->VK->Prop:=λx lo hi H Q=>∃a xs,x=.ref a/\af K H a xs/\∀p,H p=Vo->Q (.ref p) (upd H p (.lst (c6 xs lo hi)))
theorem Cp:oy X (pO X.K):=by intro pins s σ H x v i j lo hi sl Q I d hs pl pu h;obtain⟨a,xs,rfl,e,q⟩:=h;cases d;obtain⟨f,r,c,g⟩:=I.list e;have hlen:=r.length;refine⟨"list",_,slot_list_getitem.lookup,c.isList.typeIs,?_⟩;refine wpAny_getItem_list_slice c.isList hs pl pu .none (by simp) ?_ (by rw[F6]<;>lia);rw[AA,<-hlen];refine⟨.ref s.heap.objs.size,_,I.laid (λb l q=>FY _ q) (Gn _) ?_,rfl,q _ (I.hok.fresh (Gn _))⟩;exact⟨GC (CI xs lo hi) g,_,0,(r.drop (HT.cB xs.length 0 lo)).take (HT.cB xs.length xs.length hi-HT.cB xs.length 0 lo),FZ _ rfl⟩
def eT:V->Bool
 | .non=>true
 | .bl _=>true
 | .int _=>true
 | .str _=>true
 | _=>false
def iK:V->V->Bool
 | .non,.non=>true
 | .bl a,.bl b=>a == b
 | .bl a,.int b=>(if a then 1 else 0) == b
 | .int a,.bl b=>a == (if b then 1 else 0)
 | .int a,.int b=>a == b
 | .str a,.str b=>a == b
 | _,_=>false
def zC{v:Va}(e:RelV y u)(c:RelV x v)(g:eT y=true)(f:eT x=true):SeqAt.EqAt A s u v (iK y x):=by
 cases y with
 | non=>
  cases e;cases x with
  | non=>cases c;exact SeqAt.EqAt.same _
  | bl b=>cases c;exact SeqAt.EqAt.none_bool b
  | int b=>obtain⟨t,rfl⟩:=c;exact SeqAt.EqAt.none_int b t
  | str b=>obtain⟨t,rfl⟩:=c;exact SeqAt.EqAt.none_str b t
  | _=>exact absurd (f) Gi
 | bl a=>
  cases e;cases x with
  | non=>cases c;exact SeqAt.EqAt.bool_none a
  | bl b=>cases c;exact SeqAt.EqAt.bool_bool a b
  | int b=>obtain⟨t,rfl⟩:=c;exact SeqAt.EqAt.bool_int a b t
  | str b=>obtain⟨t,rfl⟩:=c;exact SeqAt.EqAt.bool_str a b t
  | _=>exact absurd (f) Gi
 | int a=>
  obtain⟨d,rfl⟩:=e;cases x with
  | non=>cases c;exact SeqAt.EqAt.int_none a d
  | bl b=>cases c;exact SeqAt.EqAt.int_bool a d b
  | int b=>obtain⟨t,rfl⟩:=c;exact SeqAt.EqAt.int_int a d b t
  | str b=>obtain⟨t,rfl⟩:=c;exact MH a d b t
  | _=>exact absurd (show false=true from f) Gi
 | str a=>
  obtain⟨d,rfl⟩:=e;cases x with
  | non=>cases c;exact SeqAt.EqAt.str_none a d
  | bl b=>cases c;exact SeqAt.EqAt.str_bool a d b
  | int b=>obtain⟨t,rfl⟩:=c;exact MI a d b t
  | str b=>obtain⟨t,rfl⟩:=c;exact SeqAt.EqAt.str_str a d b t
  | _=>exact absurd (show false=true from f) Gi
 | _=>exact absurd (show false=true from g) Gi
def gY(x:V)(u:Va):Bool:=match u with
 | .none=>iK .non x
 | .bool b=>iK (.bl b) x
 | .int i _=>iK (.int i) x
 | .str z _=>iK (.str z) x
 | _=>false
def uK(r:RelV y u)(f:eT y=true):gY x u=iK y x:=by
 cases y with
 | non=>cases r;rfl
 | bl b=>cases r;rfl
 | int i=>obtain⟨t,rfl⟩:=r;rfl
 | str z=>obtain⟨t,rfl⟩:=r;rfl
 | _=>exact absurd (f) Gi
theorem n8{x:V}:∀{xs:List V} {us:List Va},Vals xs us->xs.all eT=true->us.any (gY x)=xs.any λy=>iK y x
 | _,_,.nil,_=>rfl
 | y::xs,u::us,.cons r t,f=>by rw[List.all_cons,GI]at f;rw[JS,JS,uK r f.1,n8 t f.2]
theorem oH{A:Vi}{s:Vc}{x:V}{v:Va}(b:RelV x v)(c:eT x=true):∀{xs:List V} {us:List Va},Vals xs us->xs.all eT=true->∀u∈us,SeqAt.EqAt A s u v (gY x u)
 | _,_,.nil,_=>λu a=>by cases a
 | y::xs,u::us,.cons r t,f=>λu' a=>by
  rw[List.all_cons,GI]at f;rcases Gh.mp a with rfl|a
  .rw[uK r f.1];exact zC r b f.1 c
  .exact oH b c t f.2 u' a
def jw(x:V)(xs:List V):Bool:=xs.any λy=>iK y x
def m3(K:FX)(neg:Bool):R2:=λx y H Q=>∃p xs,y=.ref p/\(af K H p xs\/ax K H p xs)/\eT x=true/\xs.all eT=true/\Q (.bl (if neg then !jw x xs else jw x xs)) H
def ER:bS X (compareOp .In) (m3 X.K false):=by
 intro pins s σ H x y v u Q I d f h;obtain⟨p,xs,rfl,b,e,fs,q⟩:=h;cases f;rcases b with b|b
 .obtain⟨a,r,pl,g⟩:=I.list b;refine SeqAt.in_listAt (gY x) pl.isList (λw c=>oH d e r fs w (by simpa using c)) ⟨.bl _,H,I,rfl,?_⟩;rw[show a.toArray.any (gY x)=a.any (gY x) by simp,n8 r fs];exact q
 .obtain⟨a,r,pl,g⟩:=I.tuple b;refine SeqAt.in_tupleAt (gY x) pl (λw c=>oH d e r fs w (by simpa using c)) ⟨.bl _,H,I,rfl,?_⟩;rw[show a.toArray.any (gY x)=a.any (gY x) by simp,n8 r fs];exact q
theorem Ds:cP X (.builtin "len") (λxs H Q=>∃p ys,xs=[.ref p]/\(af X.K H p ys\/ax X.K H p ys)/\Q (.int ys.length) H):=by
 intro pins s σ H xs us Q I r h;obtain⟨p,ys,rfl,a,q⟩:=h;obtain⟨u,rfl,d⟩:=vals1 r;cases d;have f:=i4;rcases a with a|a
 .obtain⟨b,c,pl,e⟩:=I.list a;have hlen:=c.length;exact Calls.call_len_list pl.isList (by simp only[F6]<;>lia) ⟨.int ys.length,H,I.tok _,⟨s.toks+1,by rw[F6,hlen]⟩,q⟩
 .obtain⟨b,c,pl,e⟩:=I.tuple a;have hlen:=c.length;exact len_tuple pl (by simp only[F6]<;>lia) ⟨.int ys.length,H,I.tok _,⟨s.toks+1,by rw[F6,hlen]⟩,q⟩
theorem Ep:cP X (.builtin "len") (λxs H Q=>∃z,xs=[.str z]/\z.length<=sizeLine/\Q (.int z.length) H):=by intro pins s σ H xs us Q I r h;obtain⟨z,rfl,a,q⟩:=h;obtain⟨u,rfl,t,rfl⟩:=vals1 r;have b:=i4;exact len_str (by lia) ⟨.int z.length,H,I.tok _,⟨_,rfl⟩,q⟩
theorem DI:cP X (.type "tuple") (λxs H Q=>∃p ys,xs=[.ref p]/\((af X.K H p ys/\∀l,H l=Vo->Q (.ref l) (upd H l (.tup ys)))\/(ax X.K H p ys/\Q (.ref p) H))):=by
 intro pins s σ H xs us Q I r h;obtain⟨p,ys,rfl,h⟩:=h;obtain⟨u,rfl,i⟩:=vals1 r;cases i;rcases h with⟨c,q⟩|⟨c,q⟩
 .obtain⟨a,d,pl,f⟩:=I.list c;have hlen:=d.length;refine call_tuple_list pl.isList (λh' kp=>?_) (by simp only[F6]<;>lia);have g:=I.kept (t':=s.toks) kp;have j:Inv X pins σ (upd H h'.objs.size (.tup ys)) { s with heap:=h'.push { cls:=.type "tuple",data:=.seq a.toArray } }:=
   g.laid (λb o e=>FY _ e) (Gn _) (show bI X.prog X.w _ _ _ (.tup ys)from⟨f,a,d,IsTup.new _ _⟩)
  exact⟨.ref h'.objs.size,_,j,rfl,q _ (g.hok.fresh (Gn _))⟩
 .obtain⟨a,d,pl,f⟩:=I.tuple c;exact call_tuple_same pl ⟨.ref p,H,I,rfl,q⟩
def iC(K:FX)(T:String)(x:V)(H:Hp):Prop:=match x with
 | .str _=>T = "str"
 | .int _=>T = "int"
 | .ref p=>(T = "list"/\∃xs,af K H p xs)\/(T = "tuple"/\∃o,K.lookup p=Vn o/\o.cls=.type "tuple"/\o.dict=Vo) ∨
   (T = "dict"/\((∃kvs,H p=Vn (.dK kvs))\/∃kvs,H p=Vn (.dT kvs)))\/(T = "set"/\∃S n,H p=Vn (.set S n))
 | _=>False
def tW{v:Va}(I:Inv X pins σ H s)(r:RelV x v)(ty:iC X.K T x H):
  s.TypeIs v T/\∀a,v=.ref a->∃f,s.heap.get? a=Vn f/\f.dict=Vo:=by
 cases x with
 | str z=>
  obtain⟨t,rfl⟩:=r;cases(ty);exact⟨typeIs_str s z t,λ_ e=>nomatch e⟩
 | int i=>
  obtain⟨t,rfl⟩:=r;cases(ty);exact⟨typeIs_int s i t,λ_ e=>nomatch e⟩
 | ref p=>
  cases r;rcases ty with⟨rfl,xs,g⟩|⟨rfl,o,b,h,hd⟩|⟨rfl,b⟩|⟨rfl,S,n,b⟩
  .obtain⟨j,_,pl,_⟩:=I.list g;refine⟨pl.isList.typeIs,λa e=>?_⟩;cases e;obtain⟨o,n,e,c,hd,_⟩:=pl;exact⟨o,e,hd⟩
  .refine⟨⟨o,I.kIn p o b,h⟩,λa e=>?_⟩;cases e;exact⟨o,I.kIn _ o b,hd⟩
  .have z:∃o,s.heap.get? p=Vn o/\o.ExactDict:=by
    rcases b with⟨kvs,b⟩|⟨kvs,b⟩
    .obtain⟨_,_,_,_,o,_,_,e,ex,_⟩:=I.hok p _ b;exact⟨o,e,ex⟩
    .obtain⟨_,_,_,_,o,_,_,e,ex,_⟩:=I.hok p _ b;exact⟨o,e,ex⟩
   obtain⟨o,e,ex⟩:=z;refine⟨⟨o,e,ex.1⟩,λa d=>?_⟩;cases d;exact⟨o,e,ex.2.1⟩
  .obtain⟨o,_,_,_,e,ex,_⟩:=I.hok p _ b;refine⟨⟨o,e,ex.1⟩,λa d=>?_⟩;cases d;exact⟨o,e,ex.2.1⟩
 | _=>exact HY ty
def nL(K:FX)(T:String)(r:V->List V->Hp->VK->Prop)(to:TE):TE:=λσ H Q=>to σ H λx H1=>iC K T x H1/\r x [] H1 Q
def nX(K:FX)(T:String)(r:V->List V->Hp->VK->Prop)(to:TE)(t:TA):TE:=λσ H Q=>to σ H λx H1=>iC K T x H1/\t σ H1 λxs H2=>r x xs H2 Q
variable {o e:Vk} {es:List Vk} {to:TE} {t:TA} {name:Vm} {apos cpos:Pos} {T id:String} {r:V->List V->Hp->VK->Prop}
def Fy(e:PlainAttrs T)(slot:Slot T name id)(c:typeOf (.builtin id)=pure (.type "method_descriptor"))(f:jV X id r)(ho:PE X o to)
  (a:attributeBase o name X.env (eval o X.env)=eval o X.env:=by rfl) (b:(apos.endLine == cpos.line)=true:=by rfl):PE X (.Call (.Attribute o name apos) [] [] cpos) (nL X.K T r to):=by
 intro pins s σ H Q I h;refine wpAny_Call_method0_late a b (aJ (ho pins s σ H _ I h) λv s1 ⟨x,H1,d,r1,ty,g⟩=>?_);obtain⟨h1,h2⟩:=tW d r1 ty;exact⟨T,id,e,slot,c,h1,h2,LJ rfl (PySem.evalArgs_none (f pins s1 σ H1 x [] v [] Q d r1 .nil g))⟩
def zE(i:PlainAttrs T)(slot:Slot T name id)(f:typeOf (.builtin id)=pure (.type "method_descriptor"))(j:jV X id r)(ho:PE X o to)(ha:PA X (e::es) t)
  (b:attributeBase o name X.env (eval o X.env)=eval o X.env:=by rfl)
  (d:((backTo cpos (starEach (e::es) X.env)).all (λx=>!x.1) && (backToKw cpos (keywordEach [] X.env)).all (λx=>x.1.isSome)
   && decide ((e::es).length+([]:List Keyword).length+(if([]:List Keyword).isEmpty then 0 else 1)<30))=true:=by rfl)
  (c:(apos.endLine == cpos.line)=true:=by rfl) (hs:starEach (e::es) X.env=(false,eval e X.env)::starEach es X.env:=by rfl) (a:(backTo cpos (starEach es X.env)).any (·.1)=false:=by rfl) :
  PE X (.Call (.Attribute o name apos) (e::es) [] cpos) (nX X.K T r to t):=by
 intro pins s σ H Q I h;refine wpAny_Call_method_late b d c rfl (aJ (ho pins s σ H _ I h) λv s1 ⟨x,H1,g,r1,ty,l⟩=>?_);obtain⟨h1,h2⟩:=tW g r1 ty;refine⟨T,id,i,slot,f,h1,h2,?_⟩;have hA:=ha cpos pins s1 σ H1 _ g l;rw[hs]at hA ⊢;refine LJ (by show(false || (backTo cpos (starEach es X.env)).any (·.1))=false;rw[a]<;>rfl) (Calls.evalArgs_plain ?_);exact aJ hA λus s2 ⟨vs,H2,m,n,p⟩=>j pins s2 σ H2 x vs v us Q m r1 n p
end
def nV(X:Cx)(id:String)(r:V->List V->Hp->VK->Prop):Prop:=
 ∀(pins:List (Vb×Obj)) (s:Vc) (σ:St) (H:Hp) (x:V) (xs:List V) (v:Va) (us:List Va) (Q:VK),Inv X pins σ H s->RelV x v->Vals xs us->r x xs H Q ->
  Vf (Vg X.prog X.w) X.A (call (.builtin id) (v::us)) (EP X pins σ Q) X.xe s
def Vals.one:∀{x} {us},Vals [x] us->∃u,us=[u]/\RelV x u:=vals1
def Vals.zero:∀{us},Vals [] us->us=[]
 | _,.nil=>rfl
theorem Vals.dropLast{xs:List V}{us:List Va}(h:Vals xs us):Vals xs.dropLast us.dropLast:=by
 induction h with
 | nil=>exact .nil
 | cons r t a=>
  cases t with
  | nil=>exact .nil
  | cons q b=>exact .cons r a
theorem Vals.rep{xs:List V}{us:List Va}(h:Vals xs us):∀k:Nat,Vals (GO k xs).flatten (GO k us).flatten
 | 0=>.nil
 | k+1=>by exact Vals.append h (Vals.rep h k)
theorem zK{α:Type}(l:List α):l.eraseIdx (l.length-1)=l.dropLast:=by
 induction l with
 | nil=>rfl
 | cons a r c=>
  cases r with
  | nil=>rfl
  | cons b r=>
   have e:(a::b::r).length-1=((b::r).length-1)+1:=by have h1:(a::b::r).length=r.length+2:=rfl;have h2:(b::r).length=r.length+1:=rfl;lia
   rw[e,List.eraseIdx_cons_succ,c]
   all_goals rfl
theorem foldl_rep(a:List Va):∀(k:Nat) (acc:List Va),
  Mj (λb c=>b++c) acc.toArray (GO k a.toArray)=(acc++(GO k a).flatten).toArray
 | 0,acc=>by simp
 | k+1,acc=>by
  have e:acc.toArray++a.toArray=(acc++a).toArray:=by simp
  have d:(acc++a)++(GO k a).flatten=acc++(GO (k+1) a).flatten:=by rw[Ka,List.flatten_cons,Hu]
  rw[<-d,<-foldl_rep a k (acc++a),<-e,Ka,LW]
section
variable {X:Cx} {pins:List (Vb×Obj)} {σ:St} {H:Hp} {s:Vc} {l b:Vb} {xs ys zs:List V}
def Inv.lset{a its':List Va}{f:Array Va->Array Va}(I:Inv X pins σ H s)(b:H l=Vn (.lst xs))
  (e:s.heap.get? l=Vn { cls:=.type "list",data:=.seq a.toArray n }) (c:f a.toArray=its'.toArray) (d:Vals ys its') (g:ys.length<=sizeLine) :
  Inv X pins σ (upd H l (.lst ys)) { s with heap:=s.heap.update l (JL f),toks:=t' }:=by
 have q:=Mf e f;rw[c]at q;refine I.write (by rw[b];exact trivial) (.inl rfl) (λi u hb h=>(Hq s.heap (JL f) (HQ hb)).trans h) ⟨_,q⟩ ?_;exact⟨g,its',_,d,q⟩
def Inv.lnew{a:List Va}(I:Inv X pins σ H s)(b:Vals ys a)(c:ys.length<=sizeLine):
  Inv X pins σ (upd H s.heap.objs.size (.lst ys)) { s with heap:=s.heap.push { cls:=.type "list",data:=.seq a.toArray },toks:=t' }:=
 I.laid (λ_ _ q=>FY _ q) (Gn _) ⟨c,a,0,b,FZ _ rfl⟩
theorem Inv.fresh(I:Inv X pins σ H s):H s.heap.objs.size=Vo:=I.hok.fresh (Gn _)
def Inv.lstM(I:Inv X pins σ H s)(b:H l=Vn (.lst xs)):xs.length<=sizeLine/\∃a n,Vals xs a/\xs.length=a.length/\s.heap.get? l=Vn { cls:=.type "list",data:=.seq a.toArray n }:=by obtain⟨z,a,n,r,e⟩:=I.hok l _ b;exact⟨z,a,n,r,r.length,e⟩
theorem qW(h:n<=sizeLine):Jk n=false:=by exact GY (by lia)
end
section
variable {X:Cx}
def rX:V->List V->Hp->VK->Prop:=λx vs H Q=>∃l xs y,x=.ref l/\vs=[y]/\H l=Vn (.lst xs)/\xs.length<sizeLine/\Q .non (upd H l (.lst (xs++[y])))
theorem bZ:nV X "list.append" rX:=by intro pins s σ H x vs v us Q I c d h;obtain⟨l,xs,y,rfl,rfl,b,g,q⟩:=h;cases c;obtain⟨u,rfl,f⟩:=d.one;obtain⟨z,a,n,r,i,e⟩:=I.lstM b;refine call_meets F.slot_list_append ⟨_,e,rfl⟩ F.entry_list_append (F.args_list_append_2 _ _) (MW l a.toArray n u (by rw[F6];lia)) ⟨e,?_⟩;refine⟨.non,_,I.lset b e (by simp) (r.append (.cons f .nil)) ?_,rfl,q⟩;rw[Gk,HN];lia
def CN:V->List V->Hp->VK->Prop:=λx vs H Q=>∃l b xs zs,x=.ref l/\vs=[.ref b]/\H l=Vn (.lst xs)/\H b=Vn (.lst zs)/\xs.length+zs.length<=sizeLine/\Q .non (upd H l (.lst (xs++zs)))
theorem xW:nV X "list.extend" CN:=by
 intro pins s σ H x vs v us Q I i j h;obtain⟨l,b,xs,zs,rfl,rfl,g,m,B,q⟩:=h;cases i;obtain⟨u,rfl,o⟩:=j.one;cases o;obtain⟨z,c,n,r,C,e⟩:=I.lstM g;obtain⟨E,a,p,w,y,A⟩:=I.lstM m;have f:c.toArray.size+a.toArray.size<=sizeLine:=by rw[F6,F6];lia
 have d:¬(!c.toArray.isEmpty && Jk (c.toArray.size+a.toArray.size))=true:=by rw[qW f,Kl];exact Gi
 refine call_meets F.slot_list_extend ⟨_,e,rfl⟩ F.entry_list_extend (F.args_list_extend_2 _ _)
  (AutoSeq1.list_extend_list_list_0 l c.toArray n b a.toArray p d (by rw[F6];lia) (by lia)) ⟨e,A,?_⟩
 refine⟨.non,_,I.lset g e (by simp) (r.append w) ?_,rfl,q⟩;rw[Gk];lia
def Eo:V->List V->Hp->VK->Prop:=λx vs H Q=>∃l xs y,x=.ref l/\vs=[]/\H l=Vn (.lst xs)/\xs[xs.length-1]?=Vn y/\Q y (upd H l (.lst xs.dropLast))
theorem uZ:nV X "list.pop" Eo:=by
 intro pins s σ H x vs v us Q I f g h;obtain⟨l,xs,y,rfl,rfl,d,i,q⟩:=h;cases f;have b:=g.zero;subst b;obtain⟨z,a,n,r,j,e⟩:=I.lstM d;obtain⟨u,m,o⟩:=r.get i;have c:a.toArray[a.toArray.size-1]?=some u:=by show a.toArray[a.length-1]?=some u;rw[<-IZ,<-j];exact m
 refine call_meets F.slot_list_pop ⟨_,e,rfl⟩ F.entry_list_pop (F.args_list_pop_1 _) (MeetsSeq.list_pop_last l a.toArray n u c (by rw[F6];lia)) ⟨e,?_⟩;refine⟨y,_,I.lset d e ?_ r.dropLast ?_,o,q⟩
 .rw[F6,List.eraseIdxIfInBounds_toArray,zK]
 .rw[List.length_dropLast];lia
def uR:R2:=λx y H Q=>∃l b xs zs,x=.ref l/\y=.ref b/\H l=Vn (.lst xs)/\H b=Vn (.lst zs)/\xs.length+zs.length<=sizeLine/\∀p,H p=Vo->Q (.ref p) (upd H p (.lst (xs++zs)))
theorem j2:bS X (binaryOp .Add) uR:=by
 intro pins s σ H x y v u Q I d f h;obtain⟨l,b,xs,zs,rfl,rfl,g,i,w,q⟩:=h;cases d;cases f;obtain⟨z,c,n,r,A,e⟩:=I.lstM g;obtain⟨B,a,C,j,m,o⟩:=I.lstM i;refine PySem.P.add_list e o ?_ (by rw[F6,F6];lia);have p:c.toArray++a.toArray=(c++a).toArray:=by simp
 rw[p];exact⟨.ref _,_,I.lnew (r.append j) (by rw[Gk];lia),rfl,q _ I.fresh⟩
def vZ:R2:=λx y H Q=>∃l k xs,x=.ref l/\y=.int k/\H l=Vn (.lst xs)/\-(2 ^ 63)<=k/\k<2 ^ 63/\xs.length*k.toNat<=sizeLine ∧
 ∀p,H p=Vo->Q (.ref p) (upd H p (.lst (GO k.toNat xs).flatten))
def len_rep{α:Type}(xs:List α)(k):(GO k xs).flatten.length=k*xs.length:=by
 induction k with
 | zero=>simp
 | succ k a=>rw[Ka,List.flatten_cons,Gk,a,JB,Nat.add_comm]
theorem ml:bS X (binaryOp .Mult) vZ:=by
 intro pins s σ H x y v u Q I o p h;obtain⟨l,k,xs,rfl,rfl,w,h1,h2,j,q⟩:=h;cases o;obtain⟨t,rfl⟩:=p;obtain⟨z,b,n,r,A,e⟩:=I.lstM w;have hlen:b.toArray.size*k.toNat<=sizeLine:=by rw[F6,<-A];exact j
 have d:¬b.toArray.size*k.toNat>(2 ^ 63-1) / 8:=by
  have:(sizeLine:Nat)<=(2 ^ 63-1) / 8:=by decide
  lia
 have f:¬(!Builtin.List.listFitsIndex k)=true:=by rw[fitsIndex_both h1 h2];exact Gi
 have c:¬Jk (b.toArray.size*k.toNat)=true:=by rw[qW hlen];exact Gi
 have hnew:Mj (λg i=>g++i) #[] (GO (if b.toArray.isEmpty=true then 0 else k.toNat) b.toArray)=(GO k.toNat b).flatten.toArray:=by
  have B:∀m:Nat,Mj (λg i=>g++i) #[] (GO m b.toArray)=(GO m b).flatten.toArray:=λm=>by have:=foldl_rep b m [];exact this
  rw[B];cases b with
  | nil=>simp
  | cons a C=>rw[G0 (by simp)]
 refine wpAny_binaryOp_repeat_ref (by decide) ⟨_,e,rfl⟩ (λs'=>typeIs_int s' k t) noFill_list_mul F.fills_int_mul F.slot_int_rmul repeat_list F.slot_int_index.lookup
  (call_meets F.slot_int_rmul (typeIs_int s k t) F.entry_int_rmul (F.args_int_rmul_2 _ _) (int___rmul___int_list k t l b.toArray n)
   ⟨e,rfl,⟨_,e,rfl⟩,call_meets F.slot_list_mul ⟨_,e,rfl⟩ F.entry_list_mul (F.args_list_mul_2 _ _) (AutoListH.list___mul___list_int_3 l b.toArray n k t f d c) ⟨e,?_⟩⟩)
 rw[hnew];exact⟨.ref _,_,I.lnew (r.rep k.toNat) (by rw[len_rep,Hx];exact j),rfl,q _ I.fresh⟩
end
end L2
namespace Att
open PySem PySem.W PySem.Calls PyProof.Rows
def Ak{P:Params}:∀ns vs,WellAll P h vs (ns.map WData.int)->IntsAre vs ns:=by
 intro ns;induction ns with
 | nil=>
  intro vs w;cases w;exact .nil
 | cons n ns c=>
  intro vs w;cases w with
  | cons a b=>
   cases a;exact .cons _ _ (c _ b)
theorem zd{l:OpenLaw}(j:l.most=Vn n){P:Params}
  (b:l.row.toRowW.claim.pre args=true) (f:WellAll P h vals args) :
  ∃a vs ns,vals=[Value.ref a]/\args=[WData.list (ns.map WData.int)]/\h.get? a=Vn { cls:=.type "list",data:=.seq vs.toArray }/\IntsAre vs ns/\ns.length<=n:=by
 have g:WShape.hasAll [] args [.list .int]=true:=(pre_splitW b).1;have i:l.pre.holds [] { args:=args }=true:=(pre_splitW b).2;obtain⟨d,r,rfl,h1,h2⟩:=hasAllW_cons g;obtain rfl:=hasAllW_nil h2;obtain⟨xs,rfl,m⟩:=hasW_list h1;obtain⟨ns,rfl⟩:=items_int m;have hlen:ns.length<=n:=by
  have c:(WTm.not (.lt (.lit (.int (n:Int))) (.len (.arg 0)))).holds [] { args:=[.list (ns.map .int)] }=true:=by have c:=(holds_andW i).1;rw[j]at c;exact c
  have e:=condW_of c (w_not (w_lt w_lit (w_len_list (w_arg rfl))));refine J5 λq=>?_
  first
   | (rw[GZ o]at e;exact absurd e (by decide))
   | (simp at e;lia)
 cases f with
 | cons p s=>
  cases s;cases p with
  | list ho hall=>exact⟨_,_,ns,rfl,rfl,ho,Ak ns _ hall,hlen⟩
def EF(l:OpenLaw)(args):l.row.toRowW.claim.post args (.bool true) args=true:=
 postW_of
  (by first|rfl|decide|simp [WShape.has,WShape.arms,WShape.armsAll])
  (show(WTm.eq .res (.lit (.bool true))).value [] { args:=args,res:=Vn (.bool true),after:=args }=Vn (.bool (true == true))from w_eq_bool (w_res rfl) w_lit) rfl
def BA{l:OpenLaw}{p:(Vm->Option Va)->Vh->Prop}{s:Ve->Vh->Prop}{d:DefRec}
  (x:l.most=Vn n) (h:d.params.defaults=[])
  (call:∀w s₀ b mg mb c o pm cd doc a vs ns,
   Ground q loose [] p w s₀ mg mb b.heap->s w b.heap ->
   b.heap.get? c=Vn o->o.data=.func (docDef d.name d.params d.body d.scope pm cd doc)->b.heap.CodeRec cd d.name->mg d.name=Vn (.ref c) ->
   b.heap.get? a=Vn { cls:=.type "list",data:=.seq vs.toArray }->IntsAre vs ns->ns.length<=n->b.gens = #[] ->
   codeAny (Vg l.prog w) callerA (.call (.ref c) ⟨[.ref a],[]⟩) (λr s'=>r=.ok (.ret (.bool true))/\OldK b.heap s'.heap/\s'.os=b.os/\AllBare s'.gens) b) :
  WalkO q loose p s l.row.toRowW d [] (λf vs=>Mk f vs):=by
 intro w s₀ b mg mb G Y c o pm cd doc y kV ho hd i u j z args vals as e v A m B;obtain rfl:y=.none:=Dflts.none u h;obtain rfl:kV=.none:=Dflts.noKw u;obtain⟨a,vs,ns,rfl,rfl,g,hints,hlen⟩:=zd x e m;refine enter_call (codeAny_mono (call w s₀ b mg mb c o pm cd doc a vs ns G Y ho (fd_plain hd) i j g hints hlen z) λr s' C=>?_);obtain⟨rfl,h2,E,F⟩:=C;exact⟨.inl ⟨.bool true,.bool true,[],rfl,λ_=>rfl,.bool true,EF l _,λ_=>⟨List.Pairwise.nil,λ_ H=>(nomatch H)⟩⟩,h2,E,F⟩
end Att
namespace L2
open PySem PySem.Spec PyProof.Rows
theorem tT:∀{vs:List Va} {ns:List Int},IntsAre vs ns->Vals (ns.map V.int) vs
 | _,_,.nil=>.nil
 | _,_,.cons n t h=>.cons ⟨t,rfl⟩ (tT h)
def iF(s:Stmt):Arguments:=match s with
 | .FunctionDef _ a _ _ _ _ _ _ _ _=>a
 | _=>{ posonlyargs:=[],args:=[],vararg:=Vo,kwonlyargs:=[],kw_defaults:=[],kwarg:=Vo,defaults:=[] }
def eY(s:Stmt):List Stmt:=match s with
 | .FunctionDef _ _ b _ _ _ _ _ _ _=>b
 | _=>[]
def cJ(s:Stmt):Scope:=match s with
 | .FunctionDef _ _ _ _ _ _ sc _ _ _=>sc
 | _=>{ kind:=.function,names:=[],isGenerator:=false,isCoroutine:=false }
abbrev cQ:ip:=λ_ _ _ _ _ _=>False
abbrev E0:XK:=λ_ _ _=>False
def Cz:Passes cQ X E0:=λ_ _ _ _ _ _ _ h=>h.elim
structure Fun(K:FX)(x qual:Vm)(st:Stmt)(f:Vb)(fd:Vl):Prop where
 ex:∃(oc:Va) (od:Option Vb) (kV doc pm:Va) (an:Option Vb) (cdv ct:Va) (osl:Array (Option Va)),
  fd=Iq x qual (iF st) (eY st) (cJ st) .none kV doc pm an cdv ct/\K.lookup f=Vn ⟨oc,od,.func fd,osl⟩/\Jr K cdv qual=true
 kp:Ja K (.ref f)=true
section
variable {P:Vd} {w:Ve} {K:FX} {mg:Vm->Option Va} {base:Vh}
def Fun.ok{st:Stmt}{f:Vb}(F:Fun K x qual st f fd)(S:FnScope N ps (cJ st))(len:∀vs H Q E,sp vs H Q E->vs.length=ps.length)
  (a:∀cdv A outer s H vs Q E,Room k (A.deeper (envOfC qual (cJ st) s.heap.objs.size f cdv))->sp vs H Q E ->
   ∃t,cM (eP cQ P w K mg base N qual (cJ st) f cdv A outer s H E).nox (eY st) t/\t { nx:=λ_ H'=>Q .non H',rt:=Q } (start N vs) H):FnOk P w K mg base cQ (k+1) f fd ps sp:=by
 obtain⟨oc,od,kV,doc,pm,an,cdv,ct,osl,rfl,c,b⟩:=F.ex;refine wF c b S len λA outer s H vs Q E d hsp=>?_;obtain⟨t,h,q⟩:=a cdv A outer s H vs Q E d hsp;exact⟨t,h.nox,q⟩
def Fun.binds{st:Stmt}{f:Vb}(F:Fun K x qual st f fd)
  (h:∀kV doc pm an cdv ct us,us.length=ps.length->bindArgs (Iq x qual (iF st) (eY st) (cJ st) .none kV doc pm an cdv ct) ⟨us,[]⟩=pure (ps.zip us)):Binds K fd ps []:=by
 obtain⟨oc,od,kV,doc,pm,an,cdv,ct,osl,rfl,b,a⟩:=F.ex;exact .all (h kV doc pm an cdv ct)
def rH{st:Stmt}{f:Vb}{od an:Option Vb}{kV doc cdv ct:Va}(l:K.lookup f=Vn ⟨oc,od,.func (Iq x qual (iF st) (eY st) (cJ st) .none kV doc pm an cdv ct),osl⟩)
  (c:Jr K cdv qual=true) (k:Ja K (.ref f)=true):Fun K x qual st f (Iq x qual (iF st) (eY st) (cJ st) .none kV doc pm an cdv ct):=⟨⟨oc,od,kV,doc,pm,an,cdv,ct,osl,rfl,l,c⟩,k⟩
end
def bB(a:Room k A):A.units+1<cLine:=IE (Nat.add_le_add_left (by decide:1<=64) _) a.units
section
variable {X:Cx}
def pv(i:Nat){x:Vm}{pos:Pos}(b:X.N[i]?=Vn x:=by rfl)(c:lF X.env.scope x:=by first|exact Or.inl rfl|exact Or.inr (Or.inl rfl)|exact Or.inr (Or.inr rfl))(hd:(x == ("__debug__":Vm))=false:=by decide)
  (a:(x == ("__classdict__":Vm))=false:=by decide):PE X (.Name x pos) (ko i):=pQ b c hd a
end
def aC{A B:Prop}(h:B):if false=true then A else B:=by exact h
def aI{A B:Prop}(h:A):if true=true then A else B:=by exact h
def gZ{c A B:Prop}[Decidable c](h1:c->A)(h2:¬c->B):if c then A else B:=by
 by_cases h:c
 .rw[G5 h];exact h1 h
 .rw[G0 h];exact h2 h
structure Blk where
 s:Vc
 H:Hp
 fp:List Vb
 C:Vb
def dW(names:List (Vm×NameKind))(cells:List (Vm×Vb)):List (Vm×Vb):=
 names.foldl (λacc p=>if p.2 == .free then(p.1,(cells.lookup p.1).getD 0)::acc else acc) []
def BE(sc out:Scope):Bool:=sc.names.all λp=>p.2 != .cell && (p.2 != .local || sc.names.lookup p.1 == Vn .local) && (p.2 != .free || out.names.lookup p.1 == Vn .cell || out.names.lookup p.1 == Vn .free)
def lH(sc:Scope)(N:List Vm)(js:List Nat):Bool:=js.all λj=>decide (j<N.length) && (sc.names.lookup (N.getD j "") == Vn .free)
def dv(n:Nat)(js:List Nat)(σ:St):St:=GO n Vo++js.map λj=>(σ[j]?).join
theorem ly(cells:List (Vm×Vb)):∀(names:List (Vm×NameKind)) (acc:List (Vm×Vb)) (x:Vm) (c:Vb),
  (names.foldl (λacc p=>if p.2 == .free then(p.1,(cells.lookup p.1).getD 0)::acc else acc) acc).lookup x=Vn c ->
  ((x,NameKind.free)∈names/\c=(cells.lookup x).getD 0)\/acc.lookup x=Vn c
 | [],acc,x,c,h=>.inr h
 | (n,k)::r,acc,x,c,h=>by
  rcases ly cells r _ x c h with⟨h1,h2⟩|h1
  .exact .inl ⟨F4 _ h1,h2⟩
  .cases a:(k == NameKind.free)with
   | false=>
    simp only[a]at h1;exact .inr h1
   | true=>
    simp only[a,if_true]at h1;rw[GS]at h1;cases b:(x == n)with
    | false=>rw[b]at h1;exact .inr h1
    | true=>
     rw[b]at h1;have d:x=n:=by simpa using b
     have e:k=.free:=by simpa using a
     subst d e;exact .inl ⟨F7,(GK h1).symm⟩
theorem yn(cells:List (Vm×Vb)):∀(names:List (Vm×NameKind)) (acc:List (Vm×Vb)) (x:Vm),
  ((x,NameKind.free)∈names\/(acc.lookup x).isSome=true)->((names.foldl (λacc p=>if p.2 == .free then(p.1,(cells.lookup p.1).getD 0)::acc else acc) acc).lookup x).isSome=true
 | [],acc,x,h=>by
  rcases h with h|h
  .simp at h
  .exact h
 | (n,k)::r,acc,x,h=>by
  apply yn cells r;rcases h with h|h
  .rcases Gh.mp h with e|h
   .right;cases e;simp[GS]
   .exact .inl h
  .right;cases a:(k == NameKind.free)with
   | false=>simpa[a]using h
   | true=>
    simp only[a,if_true,GS];cases b:(x == n)with
    | true=>rfl
    | false=>exact h
def pj(h:∀p∈sc.names,p.2=.free->∃c,env.cells.lookup p.1=Vn c):closureFor sc env=pure (dW sc.names env.cells):=by
 have go:∀(names:List (Vm×NameKind)) acc,(∀p∈names,p.2=NameKind.free->∃c,env.cells.lookup p.1=Vn c) ->
   (forIn names acc λ p r=>(match p with|(name,kind)=>if(kind == NameKind.free)=true then do let c <-cellOf env name;pure (ForInStep.yield ((name,c)::r))else pure (ForInStep.yield r):Sem _)) =
   pure (names.foldl (λacc p=>if p.2 == .free then(p.1,(env.cells.lookup p.1).getD 0)::acc else acc) acc):=by
  intro names;induction names with
  | nil=>intro acc _;rfl
  | cons p r g=>
   intro acc a;obtain⟨n,k⟩:=p;rw[Jn,LW];cases b:(k == NameKind.free)with
   | false=>
    simp only[b,GP,if_false];exact g acc λq d=>a q (F4 _ d)
   | true=>
    obtain⟨c,i⟩:=a (n,k) F7 (by simpa using b);have e:cellOf env n=pure c:=by unfold cellOf;rw[i]
    simp only[b,if_true,e];have f:env.cells.lookup n=Vn c:=i;rw[f];exact g _ λq d=>a q (F4 _ d)
 unfold closureFor dW;have:=go sc.names [] h;simp only[this];rfl
def jY(X:Cx)(ifs:List Vk)(t:TT):Prop:=
 ∀(pins:List (Vb×Obj)) (s:Vc) (σ:St) (H:Hp) (Q:Bool->Hp->Prop),Inv X pins σ H s->t σ H Q ->
  Vf (Vg X.prog X.w) X.A (forIn ifs true λc r=>if r=true then do let ok <-isTrue c X.env (eval c X.env);pure (ForInStep.yield ok)else pure (ForInStep.yield r)) (TP X pins σ Q) X.xe s
def wO:TT:=λ_ H Q=>Q true H
def dn:jY X [] wO:=λ_ _ _ H _ I h=>wpAny_tests_nil ⟨H,I,h⟩
def eJ{c:Vk}(h:PT X c t):jY X [c] t:=λpins s σ H Q I a=>wpAny_tests_one (h pins s σ H Q I a)
def FO{R:Result->Vc->Prop}{elt a iter:Vk}{ps:Pos}(d:Nat->Vc->Prop)
  (step:∀k t,d k t->Vf (Vg prog w) A (pyNext b) (λgot g=>
   match got with
   | none=>R (.ok .next) g
   | some u=>Vf (Vg prog w) A (letOwnedTupleGo a b u) (λ_ l=>Vf (Vg prog w) A (assign a ce u) (λ_ n=>
     Vf (Vg prog w) A (forIn ifs true λc r=>if r=true then do let ok <-isTrue c ce (eval c ce);pure (ForInStep.yield ok)else pure (ForInStep.yield r)) (λyes i=>
      if yes=true then Vf (Vg prog w) A (eval elt ce) (λval o=>Vf (Vg prog w) A (call (.builtin "list.append") [acc,val]) (λ_ p=>∃m,m<k/\d m p) (λ_ _=>False) o) (λ_ _=>False) i
      else ∃m,m<k/\d m i) (λ_ _=>False) n) (λ_ _=>False) l) (λ_ _=>False) g) (λ_ _=>False) t)
  (k0) (start:d k0 j):codeAny (Vg prog w) A (.compLoop (.ListComp elt [⟨a,iter,ifs,0⟩] sc ps) 0 b acc ce) R j:=by
 refine codeAny_loop rfl d (λk t s=>?turn) k0 start
 case turn=>
  have nox:∀{α:Type} {m:Sem α} {Q:α->Vc->Prop} {E:Va->Vc->Prop} {z:Vc},Vf (Vg prog w) A m Q (λ_ _=>False) z->Vf (Vg prog w) A m Q E z:=λh=>wpAny_mono h (λ_ _ q=>q) λ_ _ f=>f.elim;apply wpAny_noted;refine FV (wpAny_standAt (FV (nox (wpAny_mono (step k t s) (λgot g h1=>?_) λ_ _ f=>f))));cases got with
  | none=>exact FW h1
  | some u=>
   refine FV (nox (wpAny_mono h1 (λ_ l h2=>?_) λ_ _ f=>f));refine FV (nox (wpAny_mono h2 (λ_ n v=>?_) λ_ _ f=>f));refine FV (nox (wpAny_mono v (λyes i e=>?_) λ_ _ f=>f));cases yes with
   | false=>
    exact FW ⟨rfl,e⟩
   | true=>
    refine FV (FV (nox (wpAny_mono e (λval o y=>?_) λ_ _ f=>f)));exact FV (nox (wpAny_mono y (λ_ p B=>FW (FW ⟨rfl,B⟩)) λ_ _ f=>f))
section
variable {X:Cx} {pins:List (Vb×Obj)} {σ:St} {H:Hp} {s:Vc}
def fD(a:List Va)(n:Nat):Obj:={ cls:=.type "list",data:=.seq a.toArray n }
def FR(h:BE sc out=true){p:Vm×NameKind}(a:p∈sc.names)(b:p.2=.free):out.names.lookup p.1=Vn .cell\/out.names.lookup p.1=Vn .free:=by have:=GF.mp h p a;simp only[b,GI,LX,beq_iff_eq,bne_iff_ne,ne_eq,not_true,false_or]at this;exact this.2
theorem lg{sc:Scope}{env:Env}{x:Vm}:∀{names:List (Vm×NameKind)} {k:NameKind},(names.map λ(p:Vm×NameKind)=>match p with|(n,k)=>if(k == NameKind.free && env.scope.kind == .function && env.kindOf n == Vn .cell)then(n,NameKind.cell)else(n,k)).lookup x=Vn k ->
  ∃c,names.lookup x=Vn c/\(c=k\/(c=.free/\k=.cell))
 | [],_,h=>by simp at h
 | (n,q)::r,k,h=>by
  rw[Hr]at h;rw[GS];cases b:(x == n)with
  | true=>
   refine⟨q,rfl,?_⟩;by_cases a:(q == NameKind.free && env.scope.kind == .function && env.kindOf n == Vn .cell)=true
   .simp only[a,if_true,GS,b]at h;right;simp only[GI,beq_iff_eq]at a;exact⟨a.1.1,(GK h).symm⟩
   .left;have h2:KG x ((n,q)::(r.map λ(p:Vm×NameKind)=>match p with|(n,k)=>if(k == NameKind.free && env.scope.kind == .function && env.kindOf n == Vn .cell)then(n,NameKind.cell)else(n,k)))=Vn k:=by have d:=h;dsimp only at d;rw[G0 a]at d;exact d
    rw[GS,b]at h2;exact GK h2
  | false=>
   have:KG x (r.map λ p=>match p with|(n,k)=>if(k == NameKind.free && env.scope.kind == .function && env.kindOf n == Vn .cell)then(n,NameKind.cell)else(n,k))=Vn k:=by
    by_cases a:(q == NameKind.free && env.scope.kind == .function && env.kindOf n == Vn .cell)=true
    .simpa only[a,if_true,GS,b]using h
    .dsimp only at h;rw[G0 a,GS,b]at h;exact h
   exact lg (sc:=sc) this
def jl{names:List (Vm×NameKind)}(h:names.lookup x=Vn k):(x,k)∈names:=Hl h
def xE(h:(x,NameKind.free)∈sc.names):∃c,(dW sc.names cells).lookup x=Vn c:=
 HV.mp (yn cells sc.names [] x (.inl h))
def Inv.stk_lt(I:Inv X pins σ H s)(hb:b∈dH X.stack):b<s.heap.objs.size:=by
 rcases Gh.mp (I.stkSub b hb)with e|h
 .rw[e];exact I.lt
 .obtain⟨_,o,ho,_⟩:=I.ok.funs.mem h;exact GA (F0 ho) I.sz
def Inv.cell_lt(I:Inv X pins σ H s)(h:X.env.cells.lookup x=Vn c):c<s.heap.objs.size:=by obtain⟨v,q⟩:=I.cell x c h;exact q.lt
def Inv.pin_lt(I:Inv X pins σ H s){p:Vb×Obj}(h:p∈X.pn++pins):p.1<s.heap.objs.size:=F0 (I.pin p h).1
theorem qJ(h:(dv n js σ)[i]?=Vn (Vn v)):∃k j,i=n+k/\js[k]?=Vn j/\σ[j]?=Vn (Vn v):=by
 unfold dv at h;by_cases hi:i<n
 .rw[Gu (by simpa using hi),K9]at h;split at h<;>cases h
 .rw[Gs (by simpa using J5 hi),La,F3]at h;cases e:js[i-n]? with
  | none=>rw[e]at h;cases h
  | some j=>
   rw[e]at h;refine⟨i-n,j,by lia,e,?_⟩;have h':(σ[j]?).join=Vn v:=by simpa using h
   cases q:σ[j]? with
   | none=>rw[q]at h';cases h'
   | some o=>
    rw[q]at h';have:o=Vn v:=h';rw[this]
def hJ(J:It)(n:Nat)(js:List Nat)(g:TG)(tc:TT)(te:TE)(σ:St)(H:Hp)(Q:VK):Prop:=
 ∃W:Nat->Nat->List V->Hp->Prop,(∃m,W 0 m [] H)/\∀i m ys H',W i m ys H' ->
  (J.stop i H'/\∀p,H' p=Vo->Q (.ref p) (upd H' p (.lst ys))) ∨
  (J.go i H'/\ys.length<sizeLine/\∃N:List V->Hp->Prop,(∀a H2,N a H2->∃d,d<m/\W (i+1) d a H2)/\∀x H2,J.yld i H' x H2->g x (dv n js σ) H2 λc f=>tc c f λb e=>
   if b=true then te c e λv h=>N (ys++[v]) h else N ys e)
def oE(n:Nat)(js:List Nat)(a:TI)(g:TG)(tc:TT)(te:TE):TE:=λσ H Q=>a σ H λJ H1=>hJ J n js g tc te σ H1 Q
structure TurnAt(X:Cx)(tg:Vk)(J:It)(fp:List Vb)(it:Vb)(tn:Nat->Vh->Prop):Prop where
 obj:∀i h,tn i h->∀b∈fp,∃o,h.get? b=Vn o/\∀v,o.data≠.cell v
 keep:∀i h h',tn i h->(∀b∈fp,∀o,h.get? b=Vn o->h'.get? b=Vn o)->tn i h'
 item:∀(i:Nat) (pins:List (Vb×Obj)) (s:Vc) (σ:St) (H:Hp) (E:Va->Vc->Prop),Inv X pins σ H s->(∀b∈fp,cC X pins H b)->tn i s.heap->J.go i H ->
  Vf (Vg X.prog X.w) X.A (pyNext (.ref it)) (λr s1=>∃u,r=Vn u ∧
   Vf (Vg X.prog X.w) X.A (letOwnedTupleGo tg (.ref it) u) (λ_ s2=>∃x H',Inv X pins σ H' s2/\RelV x u/\J.yld i H x H'/\tn (i+1) s2.heap/\∀b∈fp,H' b=Vo) E s1) E s
 done:∀(i:Nat) (pins:List (Vb×Obj)) (s:Vc) (σ:St) (H:Hp) (E:Va->Vc->Prop),Inv X pins σ H s->(∀b∈fp,cC X pins H b)->tn i s.heap->J.stop i H ->
  Vf (Vg X.prog X.w) X.A (pyNext (.ref it)) (λr s1=>r=Vo/\Inv X pins σ H s1) E s
 self:∀(A:Vi) (i:Nat) (s:Vc) (Q:Va->Vc->Prop) (E:Va->Vc->Prop),tn i s.heap->Q (.ref it) s->Vf (Vg X.prog X.w) A (pyIter (.ref it)) Q E s
def Turn.at_(T:Turn Y.prog Y.w Y.K tg J fp it tn)(a:Y.calm=true):TurnAt Y tg J fp it tn:=⟨T.obj,T.keep,T.item Y rfl rfl rfl a,T.done Y rfl rfl rfl a,T.self⟩
end
theorem dP{K:FX}{Q:VK}(Pv:Nat->List V->Hp->Prop)(u:xs.length<=sizeLine)(h:Pv 0 [] H)(j:∀i ys H,i<=xs.length->Pv i ys H->af K H a xs/\ys.length<=i)
  (hs:∀i x ys H,xs[i]?=Vn x->Pv i ys H->g x (dv n js σ) H λc l=>tc c l λb f=>if b=true then te c f λv o=>Pv (i+1) (ys++[v]) o else Pv (i+1) ys f)
  (hd:∀ys H p,Pv xs.length ys H->H p=Vo->Q (.ref p) (upd H p (.lst ys))):hJ (cW K a) n js g tc te σ H Q:=by
 refine⟨λi m ys H=>m=xs.length-i/\i<=xs.length/\Pv i ys H,⟨xs.length,by simp,HM _,h⟩,?_⟩;rintro i m ys H ⟨rfl,hi,p⟩;have q:=j i ys H hi p;by_cases hlt:i<xs.length
 .refine .inr ⟨⟨xs,xs[i],q.1,by simp[hlt]⟩,by have:=q.2;lia,Pv (i+1),λr H' d=>⟨xs.length-(i+1),by lia,rfl,hlt,d⟩,λx H' y=>?_⟩;obtain⟨e,y⟩:=y;subst e;exact hs i x ys _ (y xs q.1) p
 .have e:i=xs.length:=by lia
  subst e;exact .inl ⟨⟨xs,q.1,Gn _⟩,λd s=>hd ys H d p s⟩
theorem xp{K:FX}{Q:VK}(Pv:Nat->List V->Hp->Prop)(u:xs.length<=sizeLine)(h:Pv 0 [] H)(j:∀i ys H,i<=xs.length->Pv i ys H->ax K H a xs/\ys.length<=i)
  (hs:∀i x ys H,xs[i]?=Vn x->Pv i ys H->g x (dv n js σ) H λc l=>tc c l λb f=>if b=true then te c f λv o=>Pv (i+1) (ys++[v]) o else Pv (i+1) ys f)
  (hd:∀ys H p,Pv xs.length ys H->H p=Vo->Q (.ref p) (upd H p (.lst ys))):hJ (dA K a) n js g tc te σ H Q:=by
 refine⟨λi m ys H=>m=xs.length-i/\i<=xs.length/\Pv i ys H,⟨xs.length,by simp,HM _,h⟩,?_⟩;rintro i m ys H ⟨rfl,hi,p⟩;have q:=j i ys H hi p;by_cases hlt:i<xs.length
 .refine .inr ⟨⟨xs,xs[i],q.1,by simp[hlt]⟩,by have:=q.2;lia,Pv (i+1),λr H' d=>⟨xs.length-(i+1),by lia,rfl,hlt,d⟩,λx H' y=>?_⟩;obtain⟨e,y⟩:=y;subst e;exact hs i x ys _ (y xs q.1) p
 .have e:i=xs.length:=by lia
  subst e;exact .inl ⟨⟨xs,q.1,Gn _⟩,λd s=>hd ys H d p s⟩
theorem f7{N:Nat}{Q:VK}(Pv:Nat->List V->Hp->Prop)(s:N<=sizeLine)(f:Pv 0 [] H)(h:∀i ys H,i<=N->Pv i ys H->ys.length<=i)
  (hs:∀i ys H,i<N->Pv i ys H->g (.int (lo+i)) (dv n js σ) H λa j=>tc a j λb d=>if b=true then te a d λv l=>Pv (i+1) (ys++[v]) l else Pv (i+1) ys d)
  (hd:∀ys H p,Pv N ys H->H p=Vo->Q (.ref p) (upd H p (.lst ys))):hJ (eV lo N) n js g tc te σ H Q:=by
 refine⟨λi m ys H=>m=N-i/\i<=N/\Pv i ys H,⟨N,by simp,HM _,f⟩,?_⟩;rintro i m ys H ⟨rfl,hi,p⟩;have q:=h i ys H hi p;by_cases hlt:i<N
 .refine .inr ⟨hlt,by lia,Pv (i+1),λo H' c=>⟨N-(i+1),by lia,rfl,hlt,c⟩,λx H' y=>?_⟩;obtain⟨e,y⟩:=y;subst e y;exact hs i ys _ hlt p
 .have e:i=N:=by lia
  subst e;exact .inl ⟨Gn _,λc r=>hd ys H c p r⟩
structure Cal(P:Vd)(w:Ve)(K:FX)(mg:Vm->Option Va)(base:Vh)(x:Vm)(k:Nat)(ps:List Vm)(sp:Sp):Prop where
 ex:∃(f:Vb) (fd:Vl),mg x=Vn (.ref f)/\Ja K (.ref f)=true/\Binds K fd ps []/\FnOk P w K mg base cQ k f fd ps sp
structure Dfn(K:FX)(mg:Vm->Option Va)(x:Vm)(st:Stmt)(ps:List Vm):Prop where
 ex:∃(f:Vb) (fd:Vl),mg x=Vn (.ref f)/\Fun K x x st f fd/\Binds K fd ps []
section
variable {P:Vd} {w:Ve} {K:FX} {mg:Vm->Option Va} {base:Vh}
theorem Dfn.ok{x:Vm}{st:Stmt}{N ps:List Vm}{k:Nat}{sp:Sp}(D:Dfn K mg x st ps)(S:FnScope N ps (cJ st))(len:∀vs H Q E,sp vs H Q E->vs.length=ps.length)
  (a:∀(X:Cx) (d:∃f cdv A outer s H E,X=(eP cQ P w K mg base N x (cJ st) f cdv A outer s H E).nox/\Room k X.A) (H:Hp) (vs:List V) (Q:VK) (E:XK),sp vs H Q E ->
   ∃t,cM X (eY st) t/\t { nx:=λ_ H'=>Q .non H',rt:=Q } (start N vs) H):Cal P w K mg base x (k+1) ps sp:=by
 obtain⟨f,fd,b,F,hb⟩:=D.ex;exact⟨f,fd,b,F.kp,hb,F.ok S len λcdv A outer s H vs Q E c h=>a _ ⟨f,cdv,A,outer,s,H,E,rfl,c⟩ H vs Q E h⟩
end
section
variable {X:Cx}
def aF{x:Vm}{k j:Nat}{e:Vk}{es:List Vk}{t:TA}{p pos:Pos}(C:Cal X.prog X.w X.K X.mg X.base x j ps sp)(d:Room k X.A)(ha:PA X (e::es) t)(a:j<=k:=by decide)(g:Gl X x:=by rfl)(b:(x == ("__debug__":Vm))=false:=by decide)
  (h:starEach (e::es) X.env=(false,eval e X.env)::starEach es X.env:=by rfl) (c:(backTo pos (starEach es X.env)).any (·.1)=false:=by rfl) :
  PE X (.Call (.Name x p) (e::es) [] pos) (lR sp [] E0 t):=by
 obtain⟨f,fd,i,l,hb,F⟩:=C.ex;exact zi F (d.mono a) g i l hb .nil Cz ha b h c
theorem nF:bS X (binaryOp .FloorDiv) (rI (λ_ j=>0<j/\j<2 ^ 64) λi j=>.int (i / j)):=mG λi j _ _ _ _ _ b q=>by
 refine floordiv_int (by omega) (by rw[Int.fdiv_eq_ediv_of_nonneg i (by omega)];exact q) (.inl (PyProof.noPylong_of_log2 ?_));have c:j.natAbs≠0:=by omega
 have a:j.natAbs<2 ^ 64:=by omega
 have:=(Nat.log2_lt c).mpr a;lia
def iT(H:Hp):V->String->Prop
 | .non,n=>n = "NoneType"
 | .bl _,n=>n = "bool"
 | .int _,n=>n = "int"
 | .str _,n=>n = "str"
 | .ref a,n=>(n = "list"/\∃xs,H a=Vn (.lst xs))\/(n = "tuple"/\∃xs,H a=Vn (.tup xs))
 | _,_=>False
def iT.ty{K:FX}{n:String}(h:iT H x n):TyOf K H x (.type n):=by
 cases x with
 | non=>cases(h);exact .non
 | bl b=>cases(h);exact .bl b
 | int i=>cases(h);exact .int i
 | str z=>cases(h);exact .str z
 | ref a=>
  rcases h with⟨rfl,xs,e⟩|⟨rfl,xs,e⟩
  .exact .lst e
  .exact .tup e
 | _=>exact HY h
def i7(a b c d e:Bool):String->Option Bool
 | "tuple"=>Vn a|"int"=>Vn b|"bool"=>Vn c|"list"=>Vn d|"str"=>Vn e|_=>Vo
def jr:String->String->Option Bool
 | "NoneType"=>i7 false false false false false
 | "bool"=>i7 false true true false false
 | "int"=>i7 false true false false false
 | "str"=>i7 false false false false true
 | "list"=>i7 false false false true false
 | "tuple"=>i7 true false false false false
 | _=>λ_=>Vo
def EN{K:FX}{n:String}(h:jr n T=Vn b):PySem.W.kitOne K (.type n) (.type T)=Vn b:=by
 unfold jr at h;split at h<;>first
  | (unfold i7 at h;split at h<;>first|(cases h;kernel_rfl)|cases h)
  | cases h
def vC:List V->Hp->VK->Prop:=λxs H Q=>∃x n T b,xs=[x,.ty T]/\iT H x n/\jr n T=Vn b/\Q (.bl b) H
def hZ:cP X (.builtin "isinstance") vC:=by intro pins s σ H xs us Q I r h;obtain⟨x,n,T,b,rfl,a,hb,q⟩:=h;obtain⟨u,c,rfl,r1,d⟩:=vals2 r;cases(d);exact AI I r1 a.ty (EN hb) λtk=>⟨.bl b,H,I.tok tk,rfl,q⟩
def iN(lo c:Int)(n:Nat):It:=⟨λi _=>i<n,λi H x H'=>H'=H/\x=.int (lo+i*c),λi _=>n<=i⟩
theorem Bm{K:FX}(it)(lo c)(n):Turn P w K tg (iN lo c n) [it] it (λi h=>IsRangeIter h it (lo+(i:Nat)*c) ((n:Int)-(i:Nat)) c) where
 mem:=by simp
 obj:=λi h st b hb=>by
  have e:b=it:=by simpa using hb
  subst e;exact⟨_,st,λv z=>by have y:=z;cases y⟩
 keep:=λi h h' st k=>k it (by simp) _ st
 item:=by intro X f g j l i pins s σ H E I d st m;subst f g j;obtain⟨p,q,A,r,u,x⟩:=d it (by simp);have W:=Walks.range (prog:=X.prog) (w:=X.w) (I.ok.hd l) it lo c n;refine W.item i s _ _ m st λv h' tk B a C=>?_;obtain⟨t,rfl⟩:=B;have F:Inv X pins σ H { s with heap:=h',toks:=tk }:=I.turned (λb o hb e=>C b o (by simpa using hb) e) p q r u x;exact⟨_,rfl,ka a rfl rfl (by decide) ⟨.int (lo+i*c),H,F,⟨t,rfl⟩,⟨rfl,rfl⟩,a,λb hb=>(d b hb).1⟩⟩
 done:=by intro X f g j l i pins s σ H E I d st m;obtain⟨p,q,A,r,u,x⟩:=d it (by simp);exact wpAny_pyNext_range_end (I.ok.hd l) st (by have:n<=i:=m;lia) λh' G=>⟨rfl,I.turned (λb o hb e=>G b o hb e) p q r u x⟩
 self:=λ_ _ _ _ _ st h=>wpAny_pyIter_rangeiter st h
def jL(i j c:Int):Prop:=(-(2 ^ 40)<=i/\i<2 ^ 40)/\(-(2 ^ 40)<=j/\j<2 ^ 40)/\(-(2 ^ 29)<c/\c<2 ^ 29)/\c≠0
def fL(i j c:Int):Nat:=if 0<c then(if i<j then((j-i-1) / c+1).toNat else 0)else(if j<i then((i-j-1) / (-c)+1).toNat else 0)
theorem Du(i j c)(a:c≠0):Ht i j c=(fL i j c:Nat):=by
 unfold Ht fL;by_cases h:0<c
 .rw[G5 h,G5 h];by_cases h2:i<j
  .rw[G5 h2,G5 h2];have:0<=(j-i-1) / c:=Iy (by lia) (by lia);omega
  .rw[G0 h2,G0 h2];rfl
 .rw[G0 h,G0 h];by_cases h2:j<i
  .rw[G5 (show i>j from h2),G5 h2];have:0<=(i-j-1) / (-c):=Iy (by lia) (by lia);omega
  .rw[G0 (show ¬i>j from h2),G0 h2];rfl
theorem D4{i j c:Int}(h:jL i j c):L8 i j c=true:=by
 obtain⟨⟨h1,h2⟩,⟨e,g⟩,⟨l,m⟩,n⟩:=h;have hb:Ht i j c<=2 ^ 42/\0<=Ht i j c:=by
  unfold Ht;by_cases a:c>0
  .by_cases h':i<j
   .have b:(j-i-1) / c<=j-i-1:=Int.ediv_le_self _ (by lia);have d:0<=(j-i-1) / c:=Iy (by lia) (by lia);lia
   .omega
  .by_cases h':i>j
   .have b:(i-j-1) / (-c)<=i-j-1:=Int.ediv_le_self _ (by lia);have d:0<=(i-j-1) / (-c):=Iy (by lia) (by lia);lia
   .omega
 unfold L8;generalize Ht i j c=z at hb ⊢;have f:∀x:Int,-(2 ^ 62)<=x->x<2 ^ 62->Kd x=true:=λx h1 h2=>by unfold Kd;rw[GZ (show -(2 ^ 63)<=x by lia),GZ (show x<2 ^ 63 by lia)];rfl
 rw[f i (by lia) (by lia),f j (by lia) (by lia),f c (by lia) (by lia),f z (by lia) (by lia)];by_cases a:c>0
 .rw[G5 a,f (j+(c-1)) (by lia) (by lia),Bool.or_true];rfl
 .rw[G0 a,f (j+(c+1)) (by lia) (by lia),Bool.or_true];rfl
def vE(ta:TA):TI:=λσ H R=>ta σ H λvs H1=>∃i j c:Int,vs=[.int i,.int j,.int c]/\jL i j c/\R (iN i c (fL i j c)) H1
def zM{tg a b c:Vk}{ta:TA}{p pos:Pos}(v:Gl X "range")(w:X.mg "range" = Vo)(ha:PA X [a,b,c] ta)(hs:starEach [a,b,c] X.env=[(false,eval a X.env),(false,eval b X.env),(false,eval c X.env)]:=by rfl)
  (f:starEach [b,c] X.env=[(false,eval b X.env),(false,eval c X.env)]:=by rfl) :
  PI X tg (.Call (.Name "range" p) [a,b,c] [] pos) (vE ta):=by
 intro pins s σ H R I h;refine Call_ (fu I v w boot_range (Hg (aJ (ha pos pins s σ H _ I h) λus s1 ⟨vs,H1,x,r1,y⟩=>?_) (by rw[hs,f]) (by rw[f];rfl)));obtain⟨i,j,c,e,d,q⟩:=y;subst e;cases r1 with
 | cons r g=>
  cases g with
  | cons z g=>
   cases g with
   | cons l g=>
    cases g;obtain⟨t,rfl⟩:=r;obtain⟨t',rfl⟩:=z;obtain⟨m,rfl⟩:=l;have u:c≠0:=d.2.2.2;have A:c.natAbs<1073741824:=by have:=d.2.2.1;omega
    refine call_range_3 u ?_ (.inl (PyProof.noPylong_small A));refine wpAny_pyIter_range (IsRange.new ..) (D4 d) ?_;have n:Inv X pins σ H1 { s1 with heap:=s1.heap.push { cls:=.type "range",data:=.fields #[.int i t,.int j t',.int c m] },toks:=s1.toks }:=x.kept λb o e=>FY _ e;refine⟨_,[_],_,_,H1,rfl,n.kept λb o e=>FY _ e,Bm _ i c (fL i j c),?_,λb hb=>?_,q⟩
    .rw[show i+((0:Nat):Int)*c=i by simp,show ((fL i j c:Nat):Int)-((0:Nat):Int)=Ht i j c by rw[Du i j c u];simp];exact FZ _ rfl
    .have e:=Gb.mp hb;subst e;exact n.fpOk (Gn _) (n.hok.fresh (Gn _))
theorem Dg{c:Int}{tb:TS}{D:Ends}(Pv:Nat->St->Hp->Prop)(f:Pv 0 σ H)
  (hs:∀i σ H,i<n->Pv i σ H->g (.int (lo+i*c)) σ H λa H2=>tb { D with nx:=Pv (i+1),ct:=Pv (i+1),bk:=D.nx } a H2) (hd:∀σ H,Pv n σ H->D.nx σ H) :
  ∃W:Nat->Nat->St->Hp->Prop,(∃m,W 0 m σ H)/\∀i m σ H,W i m σ H ->
   ((iN lo c n).stop i H/\D.nx σ H)\/((iN lo c n).go i H/\∃N,(∀b H',N b H'->∃d,d<m/\W (i+1) d b H')/\∀x H',(iN lo c n).yld i H x H'->g x σ H' λa H2=>tb { D with nx:=N,ct:=N,bk:=D.nx } a H2):=by
 refine⟨λi m σ H=>m=n-i/\i<=n/\Pv i σ H,⟨n,by simp,HM _,f⟩,?_⟩;rintro i m σ H ⟨rfl,hi,p⟩;by_cases hlt:i<n
 .refine .inr ⟨hlt,Pv (i+1),λb H' h=>⟨n-(i+1),by lia,rfl,hlt,h⟩,λx H' y=>?_⟩;obtain⟨e,y⟩:=y;subst e y;exact hs i σ _ hlt p
 .have e:i=n:=by lia
  subst e;exact .inl ⟨Gn _,hd σ H p⟩
def tM(K:FX):List V->Hp->VK->Prop:=λxs H Q=>∃(p:Vb) (ns:List Int),xs=[.ref p]/\af K H p (ns.map V.int)/\0<ns.length/\∀M,M∈ns->(∀a,a∈ns->a<=M)->Q (.int M) H
def zH(j:X.calm=true):cP X (.builtin "max") (tM X.K):=by
 intro pins s σ H xs us Q I r h;obtain⟨p,ns,rfl,l,y,q⟩:=h;obtain⟨u,rfl,m⟩:=vals1 r;cases m;obtain⟨c,n,pl,d⟩:=I.list l;have i1:IntsAre c ns:=intsAre_of n;obtain⟨a,g⟩:=i1.allInts.items;have e:ns=a.toList.map (·.1):=(i1.numsOf.symm.trans (by rw[<-g])).trans (nums_intItems a);have f:a.toList.length=a.size:=F5;have ln:ns.length=a.size:=by rw[e,F1,f]
 have o:s.heap.IsList p (intItems a):=g ▸ pl.isList;refine max_intList (I.ok.hd j) o (by omega) λbest h' tk b kept=>?_;obtain⟨tok,v⟩:=intItems_at b;subst v;have am:=argBest_gt (numAt a) (a.size-1);refine⟨.int _,H,I.kept kept,⟨tok,rfl⟩,q _ ?_ λz d=>?_⟩
 .rw[e];rw[numAt_eq];exact getD_mem (by rw[F1,f];omega)
 .rw[e]at d;obtain⟨k,i,w⟩:=mem_getD d;subst w;have x:k<a.size:=by rw[F1,f]at i;exact i
  have:=am.2 k (by omega);rw[numAt_eq]at this;exact this
def lD(K:FX):List V->Hp->VK->Prop:=λxs H Q=>∃p ys,xs=[.ref p]/\(af K H p ys\/ax K H p ys)/\Q (.int ys.length) H
def zg:cP X (.builtin "len") (lD X.K):=Ds
def qA(K:FX):List V->Hp->VK->Prop:=λxs H Q=>∃p ys,xs=[.ref p]/\((af K H p ys/\∀l,H l=Vo->Q (.ref l) (upd H l (.tup ys)))\/(ax K H p ys/\Q (.ref p) H))
def DO:cP X (.type "tuple") (qA X.K):=DI
def wR:List V->Hp->VK->Prop:=λxs H Q=>∃i j,xs=[.int i,.int j]/\Q (.int (if j>i then j else i)) H
def yt(a:X.calm=true):cP X (.builtin "max") wR:=BJ a
end
def Ext(H H':Hp):Prop:=∀b o,H b=Vn o->H' b=Vn o
def Ext.rfl'(H):Ext H H:=λ_ _ h=>h
def Ext.trans(a:Ext H H1)(b:Ext H1 H2):Ext H H2:=λx o h=>b x o (a x o h)
theorem Ext.none{H H':Hp}(e:Ext H H'){l:Vb}(h:H' l=Option.none):H l=Option.none:=by
 cases q:H l with
 | none=>rfl
 | some o=>rw[e l o q]at h;cases h
section
variable {X:Cx} (K:FX)
def aQ(h:X.K=K:=by rfl):jt X (ny K):=by subst h;exact A7
def aD(h:X.K=K:=by rfl):jt X (oG K):=by subst h;exact Ek
def gW(h:X.K=K:=by rfl):oy X (pO K):=by subst h;exact Cp
def j5(h:X.K=K:=by rfl):bS X (compareOp .In) (m3 K false):=by subst h;exact ER
def cL(h:X.K=K:=by rfl):cP X (.builtin "len") (lD K):=by subst h;exact zg
def mz(h:X.K=K:=by rfl):cP X (.type "tuple") (qA K):=by subst h;exact DO
def qx(a:X.calm=true)(h:X.K=K:=by rfl):cP X (.builtin "max") (tM K):=by subst h;exact zH a
def bW{l:Vk}(a:PE X l tl)(h:X.K=K:=by rfl):PI X tg l (nB K tl):=by subst h;exact zj a
def jH{l:Vk}(a:PE X l tl)(h:X.K=K:=by rfl):PI X tg l (pA K tl):=by subst h;exact Ei a
def ee{es:List Vk}{k:Nat}{t:eW}{pos:Pos}(b:X.calm=true)(c:jk X es t)(h:X.K=K:=by rfl)
  (d:(assignEach es X.env).length=n:=by rfl) (a:(assignEach es X.env).findIdx? (·.1)=Vo:=by rfl):PG X (.Tuple es k pos) (pF K n t):=by subst h;exact AJ b c d a
def bP{o e:Vk}{es:List Vk}{t:TA}{name:Vm}{apos cpos:Pos}{id:String}(g:PlainAttrs T)(slot:Slot T name id)(f:typeOf (.builtin id)=pure (.type "method_descriptor"))(i:jV X id r)(ho:PE X o to)(ha:PA X (e::es) t)(h:X.K=K:=by rfl)
  (b:attributeBase o name X.env (eval o X.env)=eval o X.env:=by rfl)
  (d:((backTo cpos (starEach (e::es) X.env)).all (λx=>!x.1) && (backToKw cpos (keywordEach [] X.env)).all (λx=>x.1.isSome)
   && decide ((e::es).length+([]:List Keyword).length+(if([]:List Keyword).isEmpty then 0 else 1)<30))=true:=by rfl)
  (c:(apos.endLine == cpos.line)=true:=by rfl) (hs:starEach (e::es) X.env=(false,eval e X.env)::starEach es X.env:=by rfl) (a:(backTo cpos (starEach es X.env)).any (·.1)=false:=by rfl) :
  PE X (.Call (.Attribute o name apos) (e::es) [] cpos) (nX K T r to t):=by subst h;exact zE g slot f i ho ha b d c hs a
def uI(K:FX)(ta:TE):TT:=λσ H Q=>ta σ H λx H'=>∃k,l7 K x H' k/\Q k H'
def mN{a:Vk}{ta:TE}(ha:PE X a ta)(b:∀whole,isTrue a X.env whole=(do let v <-whole;standAt a.pos;holding [v] (truthy v)))(h:X.K=K:=by rfl):PT X a (uI K ta):=by subst h;exact Bz ha b
end
def rf(ns:List Int):TA:=λ_ H Q=>Q (ns.map V.int) H
inductive IntsE:List Vk->List Int->Prop
 | n:IntsE [] []
 | c {i j pos es ns}:IntsE es ns->IntsE (.Constant (.int i) j pos::es) (i::ns)
def j9(h:IntsE es ns):PA X es (rf ns):=by
 induction h with
 | n=>exact aa
 | @c i j pos es ns _ a=>
  intro p pins s σ H Q I b;exact ao ae a rfl p pins s σ H Q I b
def rd_ints{R:List V->Hp->Prop}(h:R (ns.map V.int) H):rf ns σ H R:=h
def ni(c:TT)(t u:TS):TS:=λD σ H=>∃R:St->Hp->Prop,(c σ H λb H1=>if b=true then t { D with nx:=R } σ H1 else u { D with nx:=R } σ H1)/\∀a H',R a H'->D.nx a H'
def cK{c:Vk}{a b:List Stmt}{t u:TS}(e:PT X c tc)(ha:cM X a t)(hb:cM X b u):PS X (.If c a b pos) (ni tc t u):=by
 intro pins s σ H D I h;obtain⟨R,h,g⟩:=h;refine aJ (bH e ha hb pins s σ H { D with nx:=R } I h) λf s1 q=>?_;cases f with
 | next=>
  obtain⟨d,H',i,q⟩:=q;exact⟨d,H',i,g d H' q⟩
 | ret v=>exact q
 | brk=>exact q
 | cont=>exact q
def yY(K:FX):V->Hp->(It->Hp->Prop)->Prop:=λx H R=>∃a,x=.ref a/\(∃xs,af K H a xs)/\R (cW K a) H
def sY(K:FX):V->Hp->(It->Hp->Prop)->Prop:=λx H R=>∃a,x=.ref a/\(∃xs,ax K H a xs)/\R (dA K a) H
def uh:List V->Hp->(It->Hp->Prop)->Prop:=λvs H R=>∃j:Int,vs=[.int j]/\-(2 ^ 62)<=j/\j<2 ^ 62/\R (eV 0 j.toNat) H
def rQ:List V->Hp->(It->Hp->Prop)->Prop:=λvs H R=>∃i j:Int,vs=[.int i,.int j]/\(-(2 ^ 62)<=i/\i<2 ^ 62/\-(2 ^ 62)<=j/\j<2 ^ 62)/\R (eV i (j-i).toNat) H
def xk:List V->Hp->(It->Hp->Prop)->Prop:=λvs H R=>∃i j c:Int,vs=[.int i,.int j,.int c]/\jL i j c/\R (iN i c (fL i j c)) H
def iL(J:It)(g:TG)(tb:TS)(D:Ends)(σ:St)(H:Hp):Prop:=∃W:Nat->Nat->St->Hp->Prop,(∃m,W 0 m σ H)/\∀i m σ H,W i m σ H ->
 (J.stop i H/\D.nx σ H)\/(J.go i H/\∃N:St->Hp->Prop,(∀a H',N a H'->∃c,c<m/\W (i+1) c a H')/\∀x H',J.yld i H x H'->g x σ H' λb H2=>tb { D with nx:=N,ct:=N,bk:=D.nx } b H2)
def forL{K:FX}(Pv:Nat->St->Hp->Prop)(c:Pv 0 σ H)(d:∀i σ H,i<=xs.length->Pv i σ H->af K H a xs)
  (hs:∀i x σ H,xs[i]?=Vn x->Pv i σ H->g x σ H λb H2=>tb ⟨Pv (i+1),D.rt,D.nx,Pv (i+1)⟩ b H2) (hd:∀σ H,Pv xs.length σ H->D.nx σ H):iL (cW K a) g tb D σ H:=Ai Pv c d hs hd
def mE{K:FX}(Pv:Nat->St->Hp->Prop)(c:Pv 0 σ H)(d:∀i σ H,i<=xs.length->Pv i σ H->ax K H a xs)
  (hs:∀i x σ H,xs[i]?=Vn x->Pv i σ H->g x σ H λb H2=>tb ⟨Pv (i+1),D.rt,D.nx,Pv (i+1)⟩ b H2) (hd:∀σ H,Pv xs.length σ H->D.nx σ H):iL (dA K a) g tb D σ H:=Fl Pv c d hs hd
def forR(Pv:Nat->St->Hp->Prop)(b:Pv 0 σ H)
  (hs:∀i σ H,i<n->Pv i σ H->g (.int (lo+i)) σ H λa H2=>tb ⟨Pv (i+1),D.rt,D.nx,Pv (i+1)⟩ a H2) (hd:∀σ H,Pv n σ H->D.nx σ H):iL (eV lo n) g tb D σ H:=zl Pv b hs hd
def ED{c:Int}(Pv:Nat->St->Hp->Prop)(b:Pv 0 σ H)
  (hs:∀i σ H,i<n->Pv i σ H->g (.int (lo+i*c)) σ H λa H2=>tb ⟨Pv (i+1),D.rt,D.nx,Pv (i+1)⟩ a H2) (hd:∀σ H,Pv n σ H->D.nx σ H):iL (iN lo c n) g tb D σ H:=Dg Pv b hs hd
def gD(H:Hp)(o:HO)(R:VK):Prop:=∀p,H p=Vo->R (.ref p) (upd H p o)
section
variable {K:FX} {D:Ends} {σ:St} {H:Hp} {Q:VK} {ta tb tc te:TE} {t u:TS} {c c':TT}
def rd_seq(h:t ⟨u D,D.rt,D.bk,D.ct⟩ σ H):sM t u D σ H:=h
def rd_next(h:D.nx σ H):vt D σ H:=h
def rd_ret(h:te σ H D.rt):sR te D σ H:=h
def rd_asg(h:te σ H λx H1=>g x σ H1 D.nx):lS te g D σ H:=h
def rd_drop(h:te σ H λ_ H1=>D.nx σ H1):qO te D σ H:=h
def rd_ifS(h:c σ H λb H1=>if b=true then t D σ H1 else u D σ H1):vv c t u D σ H:=h
def gL(R)(h:c σ H λb H1=>if b=true then t ⟨R,D.rt,D.bk,D.ct⟩ σ H1 else u ⟨R,D.rt,D.bk,D.ct⟩ σ H1)(k:∀a H',R a H'->D.nx a H'):ni c t u D σ H:=⟨R,h,k⟩
def cE(h:c σ H λb H1=>if b=true then t D σ H1 else u D σ H1):ni c t u D σ H:=⟨D.nx,h,λ_ _ h=>h⟩
def rd_name{R:St->Hp->Prop}(h:R (σ.set i (Vn v)) H):jR i v σ H R:=h
def rd_var(e:σ[i]?=Vn (Vn v))(h:Q v H):ko i σ H Q:=⟨v,e,h⟩
def rd_c(h:Q v H):tC v σ H Q:=h
def rd_op{r:R2}(h:ta σ H λx H1=>tb σ H1 λy H2=>r x y H2 Q):jC r ta tb σ H Q:=h
def rd_un{r:V->Hp->VK->Prop}(h:ta σ H λx H1=>r x H1 Q):vz r ta σ H Q:=h
def rd_CB{r:List V->Hp->VK->Prop}{a:TA}(h:a σ H λvs H1=>r vs H1 Q):l5 r a σ H Q:=h
def rd_cons{a:TA}{R:List V->Hp->Prop}(h:ta σ H λx H1=>a σ H1 λxs H2=>R (x::xs) H2):mO ta a σ H R:=h
def rd_nil{R:List V->Hp->Prop}(h:R [] H):pT σ H R:=h
def rd_test{R:Bool->Hp->Prop}(h:te σ H λx H'=>∃k,x=.bl k/\R k H'):yO te σ H R:=h
def rd_B{R:Bool->Hp->Prop}(h:te σ H λx H'=>∃k,x=.bl k/\R k H'):tB te σ H R:=h
def rd_exb{R:Bool->Prop}(h:R b):∃k,V.bl b=V.bl k/\R k:=⟨b,rfl,h⟩
def rd_not{R:Bool->Hp->Prop}(h:c σ H λb H1=>R (!b) H1):xY c σ H R:=h
def rd_and{R:Bool->Hp->Prop}(h:c σ H λb H1=>if b=true then c' σ H1 R else R false H1):uG c c' σ H R:=h
def rd_or{R:Bool->Hp->Prop}(h:c σ H λb H1=>if b=true then R true H1 else c' σ H1 R):w9 c c' σ H R:=h
def rd_andV(h:ta σ H λx H1=>∃k,x=.bl k/\if k=true then tb σ H1 Q else Q (.bl false) H1):uM ta tb σ H Q:=h
def rd_orV(h:ta σ H λx H1=>∃k,x=.bl k/\if k=true then Q (.bl true) H1 else tb σ H1 Q):qS ta tb σ H Q:=h
def rd_notV(h:ta σ H λx H1=>∃k,x=.bl k/\Q (.bl (!k)) H1):rF ta σ H Q:=h
def rd_yes{R:Bool->Hp->Prop}(h:R true H):wO σ H R:=h
def rd_I0{g:Int->Int->V}(h:Q (g i j) H):iq g (.int i) (.int j) H Q:=⟨i,j,rfl,rfl,h⟩
def rd_I{g:Int->Int->V}(a:C i j)(h:Q (g i j) H):rI C g (.int i) (.int j) H Q:=⟨i,j,rfl,rfl,a,h⟩
def rd_U{g:Int->V}(h:Q (g i) H):rU g (.int i) H Q:=⟨i,rfl,h⟩
def rd_EqI(h:Q (.bl (decide (i=j))) H):mR (.int i) (.int j) H Q:=⟨rfl,by
 simp
 exact h⟩
def rd_NeI(h:Q (.bl (!decide (i=j))) H):mj (.int i) (.int j) H Q:=⟨rfl,by
 simp
 exact h⟩
def rd_EqB(h:Q (.bl (i == j)) H):mR (.bl i) (.bl j) H Q:=⟨rfl,by rw[mQ];exact h⟩
def rd_NeB(h:Q (.bl (!(i == j))) H):mj (.bl i) (.bl j) H Q:=⟨rfl,by rw[mQ];exact h⟩
def aR(e:af K H p xs)(a:bT xs i=Vn v)(h:Q v H):ny K (.ref p) (.int i) H Q:=⟨p,xs,i,v,rfl,rfl,e,a,h⟩
def aB(e:ax K H p xs)(a:bT xs i=Vn v)(h:Q v H):oG K (.ref p) (.int i) H Q:=⟨p,xs,i,v,rfl,rfl,e,a,h⟩
def dM(e:af K H p xs)(h:Q (.int xs.length) H):lD K [.ref p] H Q:=⟨p,xs,rfl,.inl e,h⟩
def jK(e:ax K H p xs)(h:Q (.int xs.length) H):lD K [.ref p] H Q:=⟨p,xs,rfl,.inr e,h⟩
def lU(e:af K H p xs)(h:gD H (.tup xs) Q):qA K [.ref p] H Q:=⟨p,xs,rfl,.inl ⟨e,h⟩⟩
def ic{n:String}(a:iT H x n)(hb:jr n T=Vn b)(h:Q (.bl b) H):vC [x,.ty T] H Q:=⟨x,n,T,b,rfl,a,hb,h⟩
def rd_max2(h:Q (.int (if j>i then j else i)) H):wR [.int i,.int j] H Q:=⟨i,j,rfl,h⟩
def rd_call{a:TA}{E:XK}(h:a σ H λvs H1=>sp (vs++[]) H1 Q E):lR sp [] E a σ H Q:=h
def rd_BM{a:TA}(h:te σ H λx H1=>iC K T x H1/\a σ H1 λxs H2=>r x xs H2 Q):nX K T r te a σ H Q:=h
def rd_tup{a:TA}(h:a σ H λxs H1=>xs.length<=sizeLine/\gD H1 (.tup xs) Q):nZ a σ H Q:=h
def rd_lst{a:TA}(h:a σ H λxs H1=>xs.length<=sizeLine/\gD H1 (.lst xs) Q):vk a σ H Q:=h
def rd_sl{r:V->Option Int->Option Int->Hp->VK->Prop}{tl th:TO}(h:te σ H λx H1=>tl σ H1 λl H2=>th σ H2 λv a=>r x l v a Q):sI r te tl th σ H Q:=h
def rd_noPart{R:Option Int->Hp->Prop}(h:R Vo H):qL σ H R:=h
def rd_part{R:Option Int->Hp->Prop}(h:te σ H λx H1=>∃i,x=.int i/\R (Vn i) H1):ui te σ H R:=h
def rd_exi{R:Int->Prop}(h:R i):∃k,V.int i=V.int k/\R k:=⟨i,rfl,h⟩
def rd_chain{r a:R2}(h:ta σ H λx H1=>tb σ H1 λy H2=>r x y H2 λz b=>∃k,z=.bl k/\(if k=true then tc σ b λc d=>a y c d Q else Q (.bl false) b)):xM r a ta tb tc σ H Q:=h
def rd_comp{a:TI}(h:a σ H λJ H1=>hJ J n js g c te σ H1 Q):oE n js a g c te σ H Q:=h
def rd_iL(h:te σ H λx H1=>yY K x H1 R):nB K te σ H R:=h
def rd_iT(h:te σ H λx H1=>sY K x H1 R):pA K te σ H R:=h
def bX(e:af K H p xs)(h:R (cW K p) H):yY K (.ref p) H R:=⟨p,rfl,⟨xs,e⟩,h⟩
def jA(e:ax K H p xs)(h:R (dA K p) H):sY K (.ref p) H R:=⟨p,rfl,⟨xs,e⟩,h⟩
def rd_i1{a:TA}(h:a σ H λvs H1=>uh vs H1 R):yj a σ H R:=h
def cU(h1:-(2 ^ 62)<=j/\j<2 ^ 62)(h:R (eV 0 j.toNat) H):uh [.int j] H R:=⟨j,rfl,h1.1,h1.2,h⟩
def rd_i2{a:TA}(h:a σ H λvs H1=>rQ vs H1 R):uc a σ H R:=h
def Bs(h1:-(2 ^ 62)<=i/\i<2 ^ 62/\-(2 ^ 62)<=j/\j<2 ^ 62)(h:R (eV i (j-i).toNat) H):rQ [.int i,.int j] H R:=⟨i,j,rfl,h1,h⟩
def rd_i3{a:TA}(h:a σ H λvs H1=>xk vs H1 R):vE a σ H R:=h
def AV{i j c:Int}(h1:jL i j c)(h:R (iN i c (fL i j c)) H):xk [.int i,.int j,.int c] H R:=⟨i,j,c,rfl,h1,h⟩
def rd_for{a:TI}(h:a σ H λJ H1=>iL J g t D σ H1):tQ a g t D σ H:=h
def bV(e:H l=Vn (.lst xs))(a:xs.length<sizeLine)(h:Q .non (upd H l (.lst (xs++[y])))):rX (.ref l) [y] H Q:=⟨l,xs,y,rfl,rfl,e,a,h⟩
def cH(e:af K H p xs):iC K "list" (.ref p) H:=.inl ⟨rfl,xs,e⟩
def rd_sub{a:TE}{w:mD}{R:St->Hp->Prop}(h:to σ H λo H1=>a σ H1 λi H2=>w o i v H2 λb=>R σ b):yc to a w v σ H R:=h
def iI{R:Hp->Prop}(e:H p=Vn (.lst xs))(a:fo xs.length k=Vn j)(h:R (upd H p (.lst (xs.set j v)))):vY (.ref p) (.int k) v H R:=⟨p,xs,k,j,rfl,rfl,e,a,h⟩
def dZ{g:eW}{R:St->Hp->Prop}(e:ax K H a xs)(b:xs.length=n)(h:g xs σ H R):pF K n g (.ref a) σ H R:=⟨a,xs,rfl,e,b,h⟩
def rd_gcons{r:List V}{R:St->Hp->Prop}(h:g v σ H λa H'=>b r a H' R):xo g b (v::r) σ H R:=⟨v,r,rfl,h⟩
def rd_gnil{R:St->Hp->Prop}(h:R σ H):uN [] σ H R:=⟨rfl,h⟩
def ke(a:H l=Vn (.lst xs))(c:H b=Vn (.lst zs))(d:xs.length+zs.length<=sizeLine)(h:gD H (.lst (xs++zs)) Q):uR (.ref l) (.ref b) H Q:=⟨l,b,xs,zs,rfl,rfl,a,c,d,h⟩
theorem mT(e:H l=Vn (.lst xs))(b:0<=k/\k<10 ^ 6)(a:xs.length*k.toNat<=sizeLine)(h:gD H (.lst (GO k.toNat xs).flatten) Q):vZ (.ref l) (.int k) H Q:=
 ⟨l,k,xs,rfl,rfl,e,by lia,by lia,a,h⟩
def gN{lo hi:Option Int}(e:af K H a xs)(h:gD H (.lst (c6 xs lo hi)) Q):pO K (.ref a) lo hi H Q:=⟨a,xs,rfl,e,h⟩
def kJ(e:af K H p xs\/ax K H p xs)(f:eT x=true)(fs:xs.all eT=true)(h:Q (.bl (if neg then !jw x xs else jw x xs)) H):m3 K neg x (.ref p) H Q:=⟨p,xs,rfl,e,f,fs,h⟩
def rd_tTru{R:Bool->Hp->Prop}(h:te σ H λx H'=>∃k,l7 K x H' k/\R k H'):uI K te σ H R:=h
def cA{o:HO}{R:VK}(h:∀p H',Ext H H'->H' p=Vn o->H p=Vo->R (.ref p) H'):gD H o R:=λp a=>
 h p _ (λb u e=>by rw[aA (cx e a)];exact e) aE a
def bh{o:HO}(a:H p=Vo):Ext H (upd H p o):=λb u e=>by rw[aA (cx e a)];exact e
def af.ext(e:Ext H H')(h:af K H p xs):af K H' p xs:=by
 rcases h with(h|⟨o,h⟩)|h
 .exact .inl (.inl (e _ _ h))
 .exact .inl (.inr ⟨o,e _ _ h⟩)
 .exact .inr h
end
def eO{xs:List α}{v:α}(a:0<=i)(h:xs[i.toNat]?=Vn v):bT xs i=Vn v:=by
 have:=cO h
 rwa [Gg a]at this
def iB{i:Int}(a:0<=i)(h:i<n):fo n i=Vn i.toNat:=by unfold fo;rw[G5 a,G5 h]
def fM:V->PyData->Prop
 | .non,.none=>True
 | .bl b,.bool c=>b=c
 | .int i,.int j=>i=j
 | .str x,.str y=>x=y/\(PyData.str y).canLay0=true
 | _,_=>False
def bo(H:Hp):Nat->V->PyData->Prop
 | 0,x,d=>fM x d
 | n+1,x,d=>fM x d\/∃a xs ds,x=.ref a/\((H a=Vn (.tup xs)/\d=.tuple ds)\/(H a=Vn (.lst xs)/\d=.list ds))/\Paired (bo H n) xs ds
section
variable {X:Cx} {pins:List (Vb×Obj)} {σ:St} {H:Hp} {s:Vc}
def fM.reads{d:PyData}(h:fM x d)(r:RelV x u):∃as,Reads s.heap u d as:=by
 cases x with
 | non=>cases d<;>first|exact HY h|(cases r;exact⟨_,.none⟩)
 | bl b=>cases d<;>first|exact HY h|(cases(h);cases r;exact⟨_,.bool _⟩)
 | int i=>cases d<;>first|exact HY h|(cases(h);obtain⟨t,rfl⟩:=r;exact⟨_,.int _ t⟩)
 | str z=>cases d<;>first|exact HY h|(cases(h).1;obtain⟨t,rfl⟩:=r;exact⟨_,.str _ t⟩)
 | _=>cases d<;>exact HY h
def fM.lay{d:PyData}(h:fM x d):d.canLay0=true/\d.depth=0:=by cases x<;>cases d<;>first|exact HY h|exact ⟨rfl,rfl⟩|exact ⟨h.2,rfl⟩
theorem qk{R:V->PyData->Prop}(a:∀{x:V} {d:PyData} {u:Va},R x d->RelV x u->∃as,Reads s.heap u d as):∀{xs:List V} {ds:List PyData} {us:List Va},Paired R xs ds->Vals xs us->∃as,ReadsAll s.heap us ds as
 | _,_,_,.nil,.nil=>⟨_,.nil⟩
 | _,_,_,.cons h t,.cons r rt=>by obtain⟨as,ha⟩:=a h r;obtain⟨bs,hb⟩:=qk a t rt;exact⟨_,.cons ha hb⟩
theorem bo.reads(I:Inv X pins σ H s):∀(n:Nat) {x:V} {d:PyData} {u:Va},bo H n x d->RelV x u->∃as,Reads s.heap u d as
 | 0,_,_,_,h,r=>fM.reads h r
 | n+1,x,d,u,h,r=>by
  rcases h with h|⟨a,xs,ds,rfl,g,f⟩
  .exact fM.reads h r
  .cases r;rcases g with⟨e,rfl⟩|⟨e,rfl⟩
   .obtain⟨b,c,⟨o,ho,i,k,hd⟩,_⟩:=I.tuple (ax.of e);obtain⟨as,ha⟩:=qk (λ{x d u}=>bo.reads I n) f c;exact⟨_,.tuple ho i hd (by simpa using ha)⟩
   .obtain⟨b,k,c,ho,_⟩:=I.lst e;obtain⟨as,ha⟩:=qk (λ{x d u}=>bo.reads I n) f c;exact⟨_,.list ho rfl rfl (by simpa using ha)⟩
theorem jW{R:V->PyData->Prop}{m:Nat}(a:∀{x:V} {d:PyData},R x d->d.canLay0=true/\d.depth<=m):∀{xs:List V} {ds:List PyData},Paired R xs ds->MX ds=true/\PyData.depthAll ds<=m
 | _,_,.nil=>⟨rfl,HM _⟩
 | _,_,.cons h t=>by
  obtain⟨h1,h2⟩:=a h;obtain⟨b,c⟩:=jW a t;refine⟨?_,?_⟩
  .simp only[MX,h1,b,Bool.and_self]
  .exact Nat.max_le.mpr ⟨h2,c⟩
theorem bo.lay:∀(n:Nat) {x:V} {d:PyData},bo H n x d->d.canLay0=true/\d.depth<=n
 | 0,_,_,h=>⟨(fM.lay h).1,LK (fM.lay h).2⟩
 | n+1,x,d,h=>by
  rcases h with h|⟨a,xs,ds,rfl,b,c⟩
  .exact⟨(fM.lay h).1,by rw[(fM.lay h).2];exact HM _⟩
  .obtain⟨h1,h2⟩:=jW (λ{x d}=>bo.lay n) c;rcases b with⟨e,rfl⟩|⟨e,rfl⟩
   .exact⟨h1,Jf h2⟩
   .exact⟨h1,Jf h2⟩
def xg(neg:Bool):R2:=λx y H Q=>∃n m d e,bo H n x d/\bo H m y e/\n<=50/\Q (.bl (if neg then !IB d e else IB d e)) H
theorem zt(b:Room k X.A):bS X (compareOp .Eq) (xg false):=by intro pins s σ H x y v u Q I c f h;obtain⟨n,m,d,e,h1,h2,g,q⟩:=h;obtain⟨as,i⟩:=bo.reads I n h1 c;obtain⟨bs,j⟩:=bo.reads I m h2 f;have a:=bo.lay n h1;have l:=bo.lay m h2;have o:=b.units;exact SeqAt.compareEq_reads i j a.1 l.1 (by lia) ⟨.bl _,H,I,rfl,q⟩
theorem qR(b:Room k X.A):bS X (compareOp .NotEq) (xg true):=by intro pins s σ H x y v u Q I c f h;obtain⟨n,m,d,e,h1,h2,g,q⟩:=h;obtain⟨as,i⟩:=bo.reads I n h1 c;obtain⟨bs,j⟩:=bo.reads I m h2 f;have a:=bo.lay n h1;have l:=bo.lay m h2;have o:=b.units;exact SeqAt.compareNe_reads i j a.1 l.1 (by lia) ⟨.bl _,H,I,rfl,q⟩
end
def Ey(K:FX):List V->Hp->VK->Prop:=λxs H Q=>∃(p:Vb) (bs:List Bool),xs=[.ref p]/\af K H p (bs.map V.bl)/\Q (.bl (bs.all id)) H
theorem qg:∀{bs:List Bool} {us:List Va},Vals (bs.map V.bl) us->us=bs.map Value.bool
 | [],_,r=>by cases r;rfl
 | b::bs,_,r=>by
  cases r with
  | cons r t=>cases r;rw[qg t];rfl
def all_range(bs:List Bool):((GX bs.length).all λi=>bs.getD i false)=bs.all id:=by
 rw[GH,GF,GF];constructor
 .intro h b hb;obtain⟨i,hi,e⟩:=KI.mp hb;have:=h i (HK.mpr hi);rw[Hb,F2 hi]at this;rw[<-e];exact this
 .intro h i hi;have a:=HK.mp hi;rw[Hb,F2 a];exact h _ (Gv a)
def Av(K:FX)(w:X.calm=true)(x:X.K=K:=by rfl):cP X (.builtin "all") (Ey K):=by
 subst x;intro pins s σ H xs us Q I r h;obtain⟨p,bs,rfl,y,q⟩:=h;obtain⟨u,rfl,z⟩:=vals1 r;cases z;obtain⟨d,j,pl,R⟩:=I.list y;have B:=qg j;have hne:p≠s.heap.objs.size:=Gm (by obtain⟨o,n,e,_⟩:=pl;exact F0 e);refine call_all_walk (wpAny_pyIter_list pl.isList ?_);have C:Inv X pins σ H { s with heap:=s.heap.push { cls:=.type "list_iterator",data:=.fields #[.ref p,.int 0 0] } }:=I.kept (t':=s.toks) λb o e=>FY _ e;have E:=I.fpOk (H':=H) (Gn s.heap.objs.size) I.fresh;refine⟨s.heap.objs.size,_,_,_,_,_,(λi=>bs.getD i false),rfl,Ml (A:=X.A.in1) (I.ok.hd w) _ p hne d.toArray,⟨⟨_,FZ _ rfl,rfl,rfl⟩,?_⟩,?_,λh' tk F=>?_⟩
 .exact pl.isList.push _
 .intro i v s' G S l J;rw[B]at l;have a:(bs.map Value.bool)[i]?=Vn v:=by simpa using l
  rw[F3]at a;cases f:bs[i]? with
  | none=>rw[f]at a;cases a
  | some b=>
   rw[f]at a;cases a;have g:bs.getD i false=b:=by rw[Hb,f];rfl
   have c:G (bs.getD i false) s':=J;rw[g]at c;exact wpAny_truthy_bool c
 .obtain⟨L,M,T,N,O,P⟩:=E;have m:=j.length;rw[F1]at m;refine⟨.bl (bs.all id),H,C.turned (λb o hb e=>F b o (by simpa using hb) e) L M N O P,?_,q⟩;show Value.bool _=Value.bool _;rw[F6,<-m,all_range]
def vB(c:TT)(tb:TS):TS:=λD σ H=>∃(W:Nat->St->Hp->Prop) (R:St->Hp->Prop),(∃m,W m σ H)/\(∀m σ H,W m σ H ->
 c σ H λb H1=>if b=true then ∃N:St->Hp->Prop,(∀a H',N a H'->∃d,d<m/\W d a H')/\tb ⟨N,D.rt,R,N⟩ σ H1 else R σ H1)/\∀σ H,R σ H->D.nx σ H
def fE{c:Vk}{body:List Stmt}(b:PassesOwn (Vg X.prog X.w) X.A X.env X.xe)(d:PT X c tc)(hb:cM X body tb):PS X (.While c body [] pos) (vB tc tb):=by
 intro pins s σ H D I h;obtain⟨W,R,e,hs,g⟩:=h;refine aJ (By b d hb pins s σ H { D with nx:=R } I ⟨W,e,hs⟩) λf s1 q=>?_;cases f with
 | next=>
  obtain⟨a,H',i,q⟩:=q;exact⟨a,H',i,g a H' q⟩
 | ret v=>exact q
 | brk=>exact q
 | cont=>exact q
section
variable {D:Ends} {σ:St} {H:Hp} {Q:VK} {te:TE} {t:TS} {c:TT}
def fF(W:Nat->St->Hp->Prop)(R)(m)(e:W m σ H)(hs:∀m σ H,W m σ H->c σ H λb H1=>if b=true then ∃N,(∀a H',N a H'->∃d,d<m/\W d a H')/\t ⟨N,D.rt,R,N⟩ σ H1 else R σ H1)(k:∀σ H,R σ H->D.nx σ H):vB c t D σ H:=⟨W,R,⟨m,e⟩,hs,k⟩
def rd_aug{a:kB}(e:σ[i]?=Vn (Vn x))(h:te σ H λy H1=>a x y H1 λz H2=>D.nx (σ.set i (Vn z)) H2):uU i te a D σ H:=⟨x,e,h⟩
def rd_ipI{f:Int->Int->Int}(h:Q (.int (f i j)) H):pB f (.int i) (.int j) H Q:=⟨i,j,rfl,rfl,h⟩
end
section
variable {prog:Vd} {w:Ve} {A:Vi} {E:Va->Vc->Prop} {s:Vc}
def yw(b:s.heap.IsTupleIter it t i)(gt:s.heap.IsTuple t ys)(c:ys[i]?=Vn x)
  (q:∀h',h'.IsTupleIter it t (i+1)->Ip it s.heap h'->Q x { s with heap:=h' }):Vf (Vg prog w) A (Hn (.ref it)) Q E s:=by
 obtain⟨u,a,d,gd⟩:=id b;obtain⟨v,e,_,k,f⟩:=gt;refine FV (GW b.typeIs Ir (wpAny_call_entry Ir b.typeIs Ke ?_ (KS _)));show Vf _ _ (field (Value.ref it) 0 >>= _) _ _ s;refine FV (wpAny_field a gd rfl ?_);refine FV (wpAny_field a gd rfl ?_);refine FV (wpAny_seqItems e f ?_);simp only[Gf,c];refine FV (wpAny_setField a gd (by simp) (FW ⟨x,rfl,FW (q _ ?_ (Im ..))⟩));exact⟨_,IA _ a (Lb (Jo gd _)),(Obj.cls_mapFields ..).trans d,by rw[Jo gd];simp[rawInt]⟩
def mV(hA:A.handled=Vo)(b:s.heap.IsTupleIter it t i)(gt:s.heap.IsTuple t ys)(d:ys[i]?=Vo)
  (q:∀h' e,Jb it s.heap h'->(∃o,h'.get? e=Vn o/\o.cls=.type "StopIteration")->E (.ref e) { s with heap:=h' }):Vf (Vg prog w) A (Hn (.ref it)) Q E s:=by
 obtain⟨u,c,h,gd⟩:=id b;obtain⟨v,f,_,k,g⟩:=gt;refine FV (GW b.typeIs Ir (wpAny_call_entry Ir b.typeIs Ke ?_ (KS _)));show Vf _ _ (field (Value.ref it) 0 >>= _) _ _ s;refine FV (wpAny_field c gd rfl ?_);refine FV (wpAny_field c gd rfl ?_);refine FV (wpAny_seqItems f g ?_);simp only[Gf,d];refine FV (wpAny_rule (FV (wpAny_setField c gd (by simp) ?_)));refine FV ?_;refine FV (wpAny_newObj_type ?_);refine FV (wpAny_of_eq (by first|rfl|(unfold firstArgMember;rfl)) ?_);refine wpAny_newObj_type ?_;refine FV (wpAny_handled ?_)
 first|rw [hA]|rw [hA]
 refine FV (FW (wpAny_throw ?_));exact q _ _ (((Im ..).extBut.push _).push _) ⟨_,FZ _ rfl,rfl⟩
end
structure Sub(P:Vd)(w:Ve)(K:FX)(J:It)(it:Vb)(tn:Nat->Vh->Prop):Prop where
 obj:∀i h,tn i h->∃o,h.get? it=Vn o/\∀v,o.data≠.cell v
 keep:∀i h h',tn i h->(∀o,h.get? it=Vn o->h'.get? it=Vn o)->tn i h'
 item:∀(X:Cx),X.prog=P->X.w=w->X.K=K->∀(A:Vi) (i:Nat) (pins:List (Vb×Obj)) (s:Vc) (σ:St) (H:Hp) (Q:Va->Vc->Prop) (E:Va->Vc->Prop),Inv X pins σ H s->cC X pins H it->tn i s.heap->J.go i H ->
  (∀x u h',Inv X pins σ H { s with heap:=h' }->RelV x u->J.yld i H x H->tn (i+1) h'->Ip it s.heap h'->Q u { s with heap:=h' })->Vf (Vg P w) A (Hn (.ref it)) Q E s
 done:∀(X:Cx),X.prog=P->X.w=w->X.K=K->∀(A:Vi),A.handled=Vo->∀(i:Nat) (pins:List (Vb×Obj)) (s:Vc) (σ:St) (H:Hp) (Q:Va->Vc->Prop) (E:Va->Vc->Prop),Inv X pins σ H s->cC X pins H it->tn i s.heap->J.stop i H ->
  (∀h' e,Jb it s.heap h'->(∃o,h'.get? e=Vn o/\o.cls=.type "StopIteration")->E (.ref e) { s with heap:=h' })->Vf (Vg P w) A (Hn (.ref it)) Q E s
theorem rD{K:FX}(a it):Sub P w K (cW K a) it (λi h=>h.IsListIter it a i) where
 obj:=λi h st=>by obtain⟨o,e,c,d⟩:=st;exact⟨o,e,λv z=>by rw[d]at z;cases z⟩
 keep:=λi h h' st k=>st.at k
 item:=by intro X g j l A i pins s σ H Q E I B st m F;subst g j l;obtain⟨xs,x,f,n⟩:=m;obtain⟨q,r,p,G⟩:=I.list f;obtain⟨u,J,L⟩:=r.get n;obtain⟨M,N,W,O,R,S⟩:=B;exact wpAny_nextOf_list_item st p.isList (by simpa using J) λh' y C=>F x u h' (I.turned (λb o hb e=>(C.2 b hb).trans e) M N O R S) L ⟨rfl,λys T=>by rw[I.list_inj T f];exact n⟩ y C
 done:=by intro X g j l A hA i pins s σ H Q E I B st m U;subst g j l;obtain⟨xs,f,n⟩:=m;obtain⟨q,r,p,G⟩:=I.list f;have Y:=r.length;exact wpAny_nextOf_list_end hA st p.isList (by simp;lia) U
theorem tZ{K:FX}(a it):Sub P w K (dA K a) it (λi h=>h.IsTupleIter it a i) where
 obj:=λi h st=>by obtain⟨o,e,c,d⟩:=st;exact⟨o,e,λv z=>by rw[d]at z;cases z⟩
 keep:=λi h h' st k=>st.at k
 item:=by intro X j l m A i pins s σ H Q E I B st n F;subst j l m;obtain⟨xs,x,g,q⟩:=n;obtain⟨f,r,p,G⟩:=I.tuple g;obtain⟨u,J,L⟩:=r.get q;obtain⟨M,N,W,O,R,S⟩:=B;exact yw st (p) (by simpa using J) λh' y C=>F x u h' (I.turned (λb o hb e=>(C.2 b hb).trans e) M N O R S) L ⟨rfl,λys T=>by rw[I.tuple_inj T g];exact q⟩ y C
 done:=by intro X j l m A hA i pins s σ H Q E I B st n U;subst j l m;obtain⟨xs,g,q⟩:=n;obtain⟨f,r,p,G⟩:=I.tuple g;have Y:=r.length;exact mV hA st (p) (by simp;lia) U
def ja(a b:It):It:=⟨λi H=>a.go i H/\b.go i H,λi H x H'=>∃p u v,x=.ref p/\H p=Vo/\H'=upd H p (.tup [u,v])/\a.yld i H u H/\b.yld i H v H,λi H=>a.stop i H\/(a.go i H/\b.stop i H)⟩
structure Apart(z TI TO i1 i2:Vb):Prop where
 a:TI≠z
 b:TO≠z
 c:i1≠z
 d:i2≠z
 e:TI≠TO
 f:TI≠i1
 g:TI≠i2
 h:TO≠i1
 i:TO≠i2
 j:i1≠i2
section
variable {X:Cx} {pins:List (Vb×Obj)} {σ:St} {H:Hp} {s:Vc}
def Inv.same(I:Inv X pins σ H { s with heap:=k })(f:cC X pins H it)(b:Jb it k h'):Inv X pins σ H { s with heap:=h' }:=by obtain⟨a,d,j,g,h,i⟩:=f;exact Inv.turned (s:={ s with heap:=k }) I (λc o hb e=>b c o hb e) a d g h i
def zL{z TI TO:Vb}{S T:Nat->Vh->Prop}{a b:Va}(G:Sub X.prog X.w X.K J1 i1 S)(U:Sub X.prog X.w X.K J2 i2 T)(N:Apart z TI TO i1 i2)
  (I:Inv X pins σ H s) (W:∀b∈[z,TI,TO,i1,i2],cC X pins H b) (L:IsZip s.heap z TI TO .none) (gI:IsPair s.heap TI (.ref i1) (.ref i2)) (gO:IsPair s.heap TO a b) (g1:S i s.heap) (g2:T i s.heap) (a0:J1.go i H) (go2:J2.go i H)
  (q:∀x y h',Inv X pins σ (upd H s.heap.objs.size (.tup [x,y])) { s with heap:=h' }->J1.yld i H x H->J2.yld i H y H->IsZip h' z TI TO (rawInt s.heap.objs.size)->IsPair h' TI (.ref i1) (.ref i2)->(∃a b,IsPair h' TO a b)->S (i+1) h'->T (i+1) h'->Q (.ref s.heap.objs.size) { s with heap:=h' }) :
  Vf (Vg X.prog X.w) A (Builtin.«zip.__next__» ⟨[.ref z],[]⟩) (λfin s'=>∃v,fin=.done (.ret v)/\Q v s') E s:=by
 have fz:=W z (by simp);have fO:=W TO (by simp);have f1:=W i1 (by simp);have f2:=W i2 (by simp);show Vf _ _ (field (Value.ref z) 2 >>= _) _ _ _;refine FV (wpAny_field L rfl rfl ?_);refine FV (wpAny_field L rfl rfl ?_);refine FV (wpAny_seqItems gI rfl ?_);show Vf _ _ (IL (Value.ref z) >>= _) _ _ _;refine FV ?_;unfold IL;refine FV (wpAny_field L rfl (x:=Value.none) rfl (FW ?_));simp only[if_true];refine FV (wpAny_rule ?_);refine FV (wpAny_field L rfl (x:=Value.ref TO) rfl ?_);refine FV (wpAny_setField_rec L (by simp) λk1 r n=>?_)
 replace r:IsZip k1 z TI TO .ellipsis:=r
 have s1:=n.1
 replace n:=n.extBut
 have I1:Inv X pins σ H { s with heap:=k1 }:=Inv.same (show Inv X pins σ H { s with heap:=s.heap }from I) fz n;refine FV ?_;simp only[List.zipIdx_cons,List.zipIdx_nil,Jn,List.forIn_nil];refine FV (FV (wpAny_onRaise ?_));show Vf _ _ (Hn (Value.ref i1) >>= _) _ _ _;refine FV (G.item X rfl rfl rfl _ i pins _ σ H _ _ I1 f1 (G.keep i _ _ g1 λo e=>n _ _ N.c e) a0 λx J k2 I2 rx yx a1 u=>FW ?_)
 replace I2:Inv X pins σ H { s with heap:=k2 }:=I2
 have s2:=u.1
 replace u:=u.extBut
 have M:IsPair k2 TO a b:=u _ _ N.h (n _ _ N.b gO);refine FV (wpAny_seqItems M rfl ?_);refine FV (wpAny_updateSeq_pair M λk3 B b3=>?_)
 replace B:IsPair k3 TO J b:=B
 have s3:=b3.1
 replace b3:=b3.extBut
 have I3:Inv X pins σ H { s with heap:=k3 }:=Inv.same I2 fO b3;refine FV (wpAny_letGo (FW ?_));refine FV (FV (wpAny_onRaise ?_));show Vf _ _ (Hn (Value.ref i2) >>= _) _ _ _;refine FV (U.item X rfl rfl rfl _ i pins _ σ H _ _ I3 f2 (U.keep i _ _ g2 λo e=>b3 _ _ (HQ N.i) (u _ _ (HQ N.j) (n _ _ N.d e))) go2 λy Y k4 I4 ry yy a2 C=>FW ?_)
 replace I4:Inv X pins σ H { s with heap:=k4 }:=I4
 have s4:=C.1
 replace C:=C.extBut
 have O:IsPair k4 TO J b:=C _ _ N.i B;refine FV (wpAny_seqItems O rfl ?_);refine FV (wpAny_updateSeq_pair O λk5 l p=>?_)
 replace l:IsPair k5 TO J Y:=l
 have s5:=p.1
 replace p:=p.extBut
 have I5:Inv X pins σ H { s with heap:=k5 }:=Inv.same I4 fO p;refine FV (wpAny_letGo (FW (FW ?_)));refine FV (wpAny_seqItems l rfl ?_);refine FV (wpAny_newTuple ?_);have sz:k5.objs.size=s.heap.objs.size:=by rw[s5,s4,s3,s2,s1]
 have P:IsZip k5 z TI TO .ellipsis:=p _ _ (HQ N.b) (C _ _ (HQ N.d) (b3 _ _ (HQ N.b) (u _ _ (HQ N.c) r)));have a3:IsPair k5 TI (.ref i1) (.ref i2):=p _ _ N.e (C _ _ N.g (b3 _ _ N.e (u _ _ N.f (n _ _ N.a gI))));have a4:S (i+1) k5:=G.keep _ _ _ (G.keep _ _ _ (G.keep _ _ _ a1 λo e=>b3 _ _ (HQ N.h) e) λo e=>C _ _ N.j e) λo e=>p _ _ (HQ N.h) e;have a5:T (i+1) k5:=U.keep _ _ _ a2 λo e=>p _ _ (HQ N.i) e;have lz:z<k5.objs.size:=F0 P;have I6:Inv X pins σ (upd H k5.objs.size (.tup [x,y])) { s with heap:=k5.push { cls:=.type "tuple",data:=.seq #[J,Y] } }:=
  I5.laid (t':=s.toks) (o:=.tup [x,y]) (λb ob e=>FY _ e) (Gn _) ⟨by show 2<=sizeLine;decide,[J,Y],.cons rx (.cons ry .nil),IsTup.new _ _⟩
 have R:cC X pins (upd H k5.objs.size (.tup [x,y])) z:=by obtain⟨c0,c1,c2,c3,c4,c5⟩:=fz;exact⟨by rw[aA (Gm lz)];exact c0,c1,c2,c3,c4,c5⟩
 show Vf _ _ (Ji (Value.ref z) (Value.ref k5.objs.size) >>= _) _ _ _;refine FV ?_;unfold Ji;have a6:IsZip (k5.push { cls:=.type "tuple",data:=.seq #[J,Y] }) z TI TO .ellipsis:=FY _ P;refine FV (wpAny_setField_rec a6 (by simp) λk7 F Z=>?_)
 replace F:IsZip k7 z TI TO (rawInt k5.objs.size):=F
 replace Z:=Z.extBut
 have I7:Inv X pins σ (upd H k5.objs.size (.tup [x,y])) { s with heap:=k7 }:=Inv.same I6 R Z;refine wpAny_setField_rec F (by simp) λk8 m b8=>?_
 replace m:IsZip k8 z TI TO (rawInt k5.objs.size):=m
 replace b8:=b8.extBut
 have I8:Inv X pins σ (upd H k5.objs.size (.tup [x,y])) { s with heap:=k8 }:=Inv.same I7 R b8;have up:∀b o,b≠z->k5.get? b=Vn o->k8.get? b=Vn o:=λb o ne e=>b8 _ _ ne (Z _ _ ne (FY _ e));rw[sz]at I8 m;refine FW ⟨_,rfl,?_⟩;show Q (.ref k5.objs.size) _;rw[sz];exact q x y k8 I8 yx yy m (up _ _ N.a a3) ⟨_,_,up _ _ N.b l⟩ (G.keep _ _ _ a4 λo e=>up _ o N.c e) (U.keep _ _ _ a5 λo e=>up _ o N.d e)
def Af{F P:It}{z TI TO:Vb}{G R:Nat->Vh->Prop}{a b:Va}{Q:Fin->Vc->Prop}(hA:A.handled=Vo)(J:Sub X.prog X.w X.K F i1 G)(S:Sub X.prog X.w X.K P i2 R)(N:Apart z TI TO i1 i2)
  (I:Inv X pins σ H s) (C:∀b∈[z,TI,TO,i1,i2],cC X pins H b) (p:IsZip s.heap z TI TO .none) (gI:IsPair s.heap TI (.ref i1) (.ref i2)) (gO:IsPair s.heap TO a b) (g1:G i s.heap) (g2:R i s.heap) (st:F.stop i H\/(F.go i H/\P.stop i H))
  (q:∀h' e,Inv X pins σ H { s with heap:=h' }->(∃o,h'.get? e=Vn o/\o.cls=.type "StopIteration")->E (.ref e) { s with heap:=h' }) :
  Vf (Vg X.prog X.w) A (Builtin.«zip.__next__» ⟨[.ref z],[]⟩) Q E s:=by
 have fz:=C z (by simp);have fO:=C TO (by simp);have L:=C i1 (by simp);have T:=C i2 (by simp);show Vf _ _ (field (Value.ref z) 2 >>= _) _ _ _;refine FV (wpAny_field p rfl rfl ?_);refine FV (wpAny_field p rfl rfl ?_);refine FV (wpAny_seqItems gI rfl ?_);show Vf _ _ (IL (Value.ref z) >>= _) _ _ _;refine FV ?_;unfold IL;refine FV (wpAny_field p rfl (x:=Value.none) rfl (FW ?_));simp only[if_true];refine FV (wpAny_rule ?_);refine FV (wpAny_field p rfl (x:=Value.ref TO) rfl ?_);refine FV (wpAny_setField_rec p (by simp) λk1 l n=>?_)
 replace l:IsZip k1 z TI TO .ellipsis:=l
 replace n:=n.extBut
 have M:Inv X pins σ H { s with heap:=k1 }:=Inv.same (show Inv X pins σ H { s with heap:=s.heap }from I) fz n;refine FV ?_;simp only[List.zipIdx_cons,List.zipIdx_nil,Jn,List.forIn_nil];refine FV (FV (wpAny_onRaise ?_));show Vf _ _ (Hn (Value.ref i1) >>= _) _ _ _;have r:G i k1:=J.keep i _ _ g1 λo e=>n _ _ N.c e;rcases st with st|⟨go,st⟩
 .refine FV (J.done X rfl rfl rfl _ hA i pins _ σ H _ _ M L r st λk2 e m O=>?_);obtain⟨oe,f,g⟩:=O;have u:IsZip k2 z TI TO .ellipsis:=m _ _ (HQ N.c) l;have v:Inv X pins σ H { s with heap:=k2 }:=Inv.same M L m;have ne:e≠z:=λx=>by subst x;rw[u]at f;cases f;simp at g
  exact wpAny_setField_rec u (by simp) λk3 _ b3=>q k3 e (Inv.same v fz b3.extBut) ⟨oe,b3.extBut _ _ ne f,g⟩
 .refine FV (J.item X rfl rfl rfl _ i pins _ σ H _ _ M L r go λx ux k2 v rx yx a0 m=>FW ?_)
  replace v:Inv X pins σ H { s with heap:=k2 }:=v
  replace m:=m.extBut
  have y:IsPair k2 TO a b:=m _ _ N.h (n _ _ N.b gO);refine FV (wpAny_seqItems y rfl ?_);refine FV (wpAny_updateSeq_pair y λk3 a1 b3=>?_)
  replace b3:=b3.extBut
  have U:Inv X pins σ H { s with heap:=k3 }:=Inv.same v fO b3;refine FV (wpAny_letGo (FW ?_));refine FV (FV (wpAny_onRaise ?_));show Vf _ _ (Hn (Value.ref i2) >>= _) _ _ _;refine FV (S.done X rfl rfl rfl _ hA i pins _ σ H _ _ U T (S.keep i _ _ g2 λo e=>b3 _ _ (HQ N.i) (m _ _ (HQ N.j) (n _ _ N.d e))) st λW e Y O=>?_);obtain⟨oe,f,g⟩:=O;have B:IsZip W z TI TO .ellipsis:=Y _ _ (HQ N.d) (b3 _ _ (HQ N.b) (m _ _ (HQ N.c) l));have I4:Inv X pins σ H { s with heap:=W }:=Inv.same U T Y;have ne:e≠z:=λx=>by subst x;rw[B]at f;cases f;simp at g
  exact wpAny_setField_rec B (by simp) λk5 _ Z=>q k5 e (Inv.same I4 fz Z.extBut) ⟨oe,Z.extBut _ _ ne f,g⟩
end
def y9{K:FX}{ps:Pos}{z TI TO:Vb}(p:Sub P w K S i1 W)(q:Sub P w K U i2 Y)(N:Apart z TI TO i1 i2):
  Turn P w K (.Tuple elts kk ps) (ja S U) [z,TI,TO,i1,i2] z (λi h=>IsZip h z TI TO .none/\IsPair h TI (.ref i1) (.ref i2)/\(∃a b,IsPair h TO a b)/\W i h/\Y i h) where
 mem:=by simp
 obj:=λi h st b hb=>by
  obtain⟨f,g,⟨a,c,j⟩,l,m⟩:=st;simp only[Gh,GD,or_false]at hb;rcases hb with rfl|rfl|rfl|rfl|rfl
  .exact⟨_,f,λv e=>by cases(e)⟩
  .exact⟨_,g,λv e=>by cases(e)⟩
  .exact⟨_,j,λv e=>by cases(e)⟩
  .exact p.obj _ _ l
  .exact q.obj _ _ m
 keep:=λi h h' st k=>by obtain⟨f,g,⟨a,c,j⟩,l,m⟩:=st;exact⟨k z (by simp) _ f,k TI (by simp) _ g,⟨a,c,k TO (by simp) _ j⟩,p.keep _ _ _ l λo e=>k i1 (by simp) o e,q.keep _ _ _ m λo e=>k i2 (by simp) o e⟩
 item:=by
  intro X B C G Z i pins s σ H E I r st A;subst B C G;obtain⟨f,g,⟨a,c,j⟩,l,m⟩:=st;have u:s.TypeIs (.ref z) "zip":=⟨_,f,rfl⟩;refine FV (wpAny_attempt (GW u KU (wpAny_call_entry KU u F.entry_zip_next
   (zL p q N I r f g j l m A.1 A.2 λx y h' J yx yy L M n O Q=>FW ⟨_,rfl,?_⟩) (F.args_zip_next_1 _))))
  have lt:∀b∈[z,TI,TO,i1,i2],b≠s.heap.objs.size:=λb hb=>by
   simp only[Gh,GD,or_false]at hb;rcases hb with rfl|rfl|rfl|rfl|rfl
   .exact Gm (F0 f)
   .exact Gm (F0 g)
   .exact Gm (F0 j)
   .obtain⟨o,e,_⟩:=p.obj _ _ l;exact Gm (F0 e)
   .obtain⟨o,e,_⟩:=q.obj _ _ m;exact Gm (F0 e)
  have fz:cC X pins (upd H s.heap.objs.size (.tup [x,y])) z:=by obtain⟨c0,c1,c2,c3,c4,c5⟩:=r z (by simp);exact⟨by rw[aA (lt z (by simp))];exact c0,c1,c2,c3,c4,c5⟩
  obtain⟨a',c',n⟩:=n;refine wpAny_letOwnedTupleGo_zip (s:={ s with heap:=h' }) L λk gk bk=>?_;refine⟨.ref s.heap.objs.size,upd H s.heap.objs.size (.tup [x,y]),Inv.same J fz bk.extBut,rfl,⟨_,x,y,rfl,I.hok.fresh (Gn _),rfl,yx,yy⟩,
   ⟨gk,bk.extBut _ _ N.a M,⟨_,_,bk.extBut _ _ N.b n⟩,p.keep _ _ _ O λo e=>bk.extBut _ _ N.c e,q.keep _ _ _ Q λo e=>bk.extBut _ _ N.d e⟩,λb hb=>?_⟩
  rw[aA (lt b hb)];exact(r b hb).1
 done:=by
  intro X B C G Z i pins s σ H E I r st A;subst B C G;obtain⟨f,g,⟨a,c,j⟩,l,m⟩:=st;have u:s.TypeIs (.ref z) "zip":=⟨_,f,rfl⟩;unfold pyNext;refine FV (wpAny_attempt (GW (name:=GJ "__next__") u KU (wpAny_call_entry KU u F.entry_zip_next
   (Af (I.ok.hd Z) p q N I r f g j l m A λh' e J he=>?_) (F.args_zip_next_1 _))))
  obtain⟨o,ho,R⟩:=he;refine FV (wpAny_isInstance (s:={ s with heap:=h' }) (T:="StopIteration") (b:=true) ⟨o,ho,R⟩ isSubtype_stop ?_);exact FW ⟨rfl,J⟩
 self:=λ_ _ _ _ _ st h=>wpAny_pyIter_zip st.1 h
abbrev lE(h:Vh)(a:Vb):Vh:=h.push { cls:=.type "tuple_iterator",data:=.fields #[.ref a,.int 0 0] }
abbrev lG(h:Vh)(a b:Vb):Vh:=(lE h a).push { cls:=.type "tuple_iterator",data:=.fields #[.ref b,.int 0 0] }
abbrev ma(h:Vh)(a b:Vb):Vh:=(lG h a b).push { cls:=.type "tuple",data:=.seq #[.ref h.objs.size,.ref (lE h a).objs.size] }
abbrev lW(h:Vh)(a b:Vb):Vh:=(ma h a b).push { cls:=.type "tuple",data:=.seq #[.none,.none] }
abbrev jq(h:Vh)(a b:Vb):Vh:=(lW h a b).push { cls:=.type "zip",data:=.fields #[.none,.bool false,.bool false,.ref (lG h a b).objs.size,.ref (ma h a b).objs.size] }
def AX(a b)(xs ys):Meets (Builtin.«zip.__new__» ⟨[.type "zip",.ref a,.ref b],[]⟩) (λ_ R s=>s.heap.IsTuple a xs/\s.heap.IsTuple b ys/\R (.ok (.ret (.ref (lW s.heap a b).objs.size))) { s with heap:=jq s.heap a b }):=
 .of_wp λprog w A R s q=>by
  obtain⟨c,g,d,tk,os⟩:=s;obtain⟨ga,f,q⟩:=q;have e:=sub_zip;have h:MY (Lq ⟨c,g,d,tk,os⟩) a xs:=ga;have i:MY (Lq ⟨c.push { cls:=.type "tuple_iterator",data:=.fields #[.ref a,.int 0 0] },g,d,tk,os⟩) b ys:=Heap.IsTuple.push f _
  wp_walk using wpAny_pyIter_tuple h,wpAny_pyIter_tuple i
  exact⟨_,rfl,q⟩
def Eg{xs:Array Va}(ga:s.heap.IsTuple a xs)(i:s.heap.IsTuple b ys)
  (q:∀h',IsZip h' (s.heap.objs.size+4) (s.heap.objs.size+2) (s.heap.objs.size+3) .none->IsPair h' (s.heap.objs.size+2) (.ref s.heap.objs.size) (.ref (s.heap.objs.size+1))->IsPair h' (s.heap.objs.size+3) .none .none ->
   h'.IsTupleIter s.heap.objs.size a 0->h'.IsTupleIter (s.heap.objs.size+1) b 0->(∀c o,s.heap.get? c=Vn o->h'.get? c=Vn o)->Q (.ref (s.heap.objs.size+4)) { s with heap:=h' }) :
  Vf (Vg prog w) A (call (.type "zip") [.ref a,.ref b]) Q E s:=by
 refine callType_new F.called_zip (by decide) (F.typeCall_zip_2 _ _) (F.newCall_zip_2 _ _) (λj=>F.args_object_init_3 j _ _) F.entry_zip_new (AX a b xs ys) ⟨ga,i,?_⟩;have d:(lE s.heap a).objs.size=s.heap.objs.size+1:=Hh ..;have e:(lG s.heap a b).objs.size=s.heap.objs.size+2:=by rw[Hh,d]
 have f:(ma s.heap a b).objs.size=s.heap.objs.size+3:=by rw[Hh,e]
 have g:(lW s.heap a b).objs.size=s.heap.objs.size+4:=by rw[Hh,f]
 have k5:(jq s.heap a b).get? (lW s.heap a b).objs.size=Vn _:=FZ _ rfl;have h:(jq s.heap a b).get? (ma s.heap a b).objs.size=Vn _:=FY _ (FZ _ rfl);have k3:(jq s.heap a b).get? (lG s.heap a b).objs.size=Vn _:=FY _ (FY _ (FZ _ rfl));have k2:(jq s.heap a b).get? (lE s.heap a).objs.size=Vn _:=FY _ (FY _ (FY _ (FZ _ rfl)));have k1:(jq s.heap a b).get? s.heap.objs.size=Vn _:=FY _ (FY _ (FY _ (FY _ (FZ _ rfl))));show _/\_;rw[e,f,g]at k5;rw[d,e]at k3;rw[f]at h;rw[d]at k2;rw[g];exact⟨⟨_,k5,rfl⟩,q _ k5 k3 h ⟨_,k1,rfl,rfl⟩ ⟨_,k2,rfl,rfl⟩ λc o x=>FY _ (FY _ (FY _ (FY _ (FY _ x))))⟩
section
variable {K:FX} {σ:St} {H:Hp} {Q:VK}
def oq(K:FX):List V->Hp->(It->Hp->Prop)->Prop:=λvs H R=>∃a b xs ys,vs=[.ref a,.ref b]/\((ax K H a xs/\ax K H b ys/\R (ja (dA K a) (dA K b)) H)\/(af K H a xs/\af K H b ys/\R (ja (cW K a) (cW K b)) H))
def uC(K:FX)(ta:TA):TI:=λσ H R=>ta σ H λvs H1=>oq K vs H1 R
theorem we{ps:Pos}(K:FX){a b:Vk}{ta:TA}{p pos:Pos}(J:Gl X "zip")(L:X.mg "zip" = Vo)(ha:PA X [a,b] ta)(M:X.K=K:=by rfl)(hs:starEach [a,b] X.env=[(false,eval a X.env),(false,eval b X.env)]:=by rfl)(i:starEach [b] X.env=[(false,eval b X.env)]:=by rfl):
  PI X (.Tuple elts kk ps) (.Call (.Name "zip" p) [a,b] [] pos) (uC K ta):=by
 subst M;intro pins s σ H R I h;refine Call_ (fu I J L PyProof.Rows.boot_zip (Hg (aJ (ha pos pins s σ H _ I h) λus s1 ⟨vs,H1,f,r1,y⟩=>?_) (by rw[hs,i]) (by rw[i];rfl)));obtain⟨l,m,xs,ys,e,y⟩:=y;subst e;cases r1 with
 | cons r z=>
  cases z with
  | cons O z=>
   cases z;cases r;cases O;have mk:∀{B C:It} {E F:Nat->Vh->Prop},Sub X.prog X.w X.K B s1.heap.objs.size E->Sub X.prog X.w X.K C (s1.heap.objs.size+1) F->∀h',IsZip h' (s1.heap.objs.size+4) (s1.heap.objs.size+2) (s1.heap.objs.size+3) .none->IsPair h' (s1.heap.objs.size+2) (.ref s1.heap.objs.size) (.ref (s1.heap.objs.size+1)) ->
     IsPair h' (s1.heap.objs.size+3) .none .none->E 0 h'->F 0 h'->(∀c o,s1.heap.get? c=Vn o->h'.get? c=Vn o)->R (ja B C) H1->Vf (Vg X.prog X.w) X.A (pyIter (.ref (s1.heap.objs.size+4))) (oX X pins σ (.Tuple elts kk ps) R) X.xe { s1 with heap:=h' }:=by
    intro B C E F P Q h' g j n u v k q;refine wpAny_pyIter_zip g ?_;have N:Apart (s1.heap.objs.size+4) (s1.heap.objs.size+2) (s1.heap.objs.size+3) s1.heap.objs.size (s1.heap.objs.size+1):=by constructor<;>(intro h;have h':@Eq Nat _ _:=h;lia)
    refine⟨s1.heap.objs.size+4,[s1.heap.objs.size+4,s1.heap.objs.size+2,s1.heap.objs.size+3,s1.heap.objs.size,s1.heap.objs.size+1],_,_,H1,rfl,f.kept k,y9 P Q N,⟨g,j,⟨_,_,n⟩,u,v⟩,λb hb=>?_,q⟩;have le:@LE.le Nat _ s1.heap.objs.size b:=by
     simp only[Gh,GD,or_false]at hb;rcases hb with rfl|rfl|rfl|rfl|rfl
     .exact Ib _ _
     .exact Ib _ _
     .exact Ib _ _
     .exact Gn _
     .exact Ib _ _
    exact f.fpOk le (f.hok.fresh le)
   rcases y with⟨ga,G,q⟩|⟨ga,G,q⟩
   .obtain⟨x,_,p1,_⟩:=f.tuple ga;obtain⟨d,_,p2,_⟩:=f.tuple G;exact Eg (p1) (p2) λh' g j n u v k=>mk (tZ l _) (tZ m _) h' g j n u v k q
   .obtain⟨x,_,p1,_⟩:=f.list ga;obtain⟨d,_,p2,_⟩:=f.list G;exact call_zip_2 p1.isList p2.isList λh' g j n u v _ k=>mk (rD l _) (rD m _) h' g j n u v k q
def rd_zip{a:TA}(h:a σ H λvs H1=>oq K vs H1 R):uC K a σ H R:=h
def rR{ys:List V}(ha:af K H a xs)(hb:af K H b ys)(h:R (ja (cW K a) (cW K b)) H):oq K [.ref a,.ref b] H R:=⟨a,b,xs,ys,rfl,.inr ⟨ha,hb,h⟩⟩
theorem FU{ys:List V}(Pv:Nat->List V->Hp->Prop)(G:xs.length<=sizeLine)(q:Pv 0 [] H)(r:∀i zs H,Pv i zs H->ax K H a xs/\ax K H b ys/\zs.length<=i)
  (hs:∀i u v zs H p H',xs[i]?=Vn u->ys[i]?=Vn v->Pv i zs H->Ext H H'->H' p=Vn (.tup [u,v])->H p=Vo->g (.ref p) (dv n js σ) H' λc s=>tc c s λb l=>if b=true then te c l λv w=>Pv (i+1) (zs++[v]) w else Pv (i+1) zs l)
  (hd:∀zs H p,Pv (min xs.length ys.length) zs H->H p=Vo->Q (.ref p) (upd H p (.lst zs))):hJ (ja (dA K a) (dA K b)) n js g tc te σ H Q:=by
 refine⟨λi m zs H=>m=min xs.length ys.length-i/\i<=min xs.length ys.length/\Pv i zs H,⟨min xs.length ys.length,by simp,HM _,q⟩,?_⟩;rintro i m zs H ⟨rfl,hi,p⟩;obtain⟨d,f,I⟩:=r i zs H p;by_cases hlt:i<min xs.length ys.length
 .have z:i<xs.length:=by omega
  have A:i<ys.length:=by omega
  refine .inr ⟨⟨⟨xs,xs[i],d,by simp[z]⟩,⟨ys,ys[i],f,by simp[A]⟩⟩,by lia,Pv (i+1),λB H' j=>⟨min xs.length ys.length-(i+1),by omega,rfl,hlt,j⟩,λx H' y=>?_⟩;obtain⟨pp,u,v,rfl,o,rfl,C,E⟩:=y;exact hs i u v zs H pp _ (C.2 xs d) (E.2 ys f) p (bh o) aE o
 .have e:i=min xs.length ys.length:=by lia
  refine .inl ⟨?_,λj F=>hd zs H j (e ▸ p) F⟩;by_cases h:xs.length<=i
  .exact .inl ⟨xs,d,h⟩
  .exact .inr ⟨⟨xs,xs[i]'(by lia),d,F2 (by lia)⟩,⟨ys,f,by lia⟩⟩
theorem ua{ys:List V}(Pv:Nat->List V->Hp->Prop)(G:xs.length<=sizeLine)(q:Pv 0 [] H)(r:∀i zs H,Pv i zs H->af K H a xs/\af K H b ys/\zs.length<=i)
  (hs:∀i u v zs H p H',xs[i]?=Vn u->ys[i]?=Vn v->Pv i zs H->Ext H H'->H' p=Vn (.tup [u,v])->H p=Vo->g (.ref p) (dv n js σ) H' λc s=>tc c s λb l=>if b=true then te c l λv w=>Pv (i+1) (zs++[v]) w else Pv (i+1) zs l)
  (hd:∀zs H p,Pv (min xs.length ys.length) zs H->H p=Vo->Q (.ref p) (upd H p (.lst zs))):hJ (ja (cW K a) (cW K b)) n js g tc te σ H Q:=by
 refine⟨λi m zs H=>m=min xs.length ys.length-i/\i<=min xs.length ys.length/\Pv i zs H,⟨min xs.length ys.length,by simp,HM _,q⟩,?_⟩;rintro i m zs H ⟨rfl,hi,p⟩;obtain⟨d,f,I⟩:=r i zs H p;by_cases hlt:i<min xs.length ys.length
 .have z:i<xs.length:=by omega
  have A:i<ys.length:=by omega
  refine .inr ⟨⟨⟨xs,xs[i],d,by simp[z]⟩,⟨ys,ys[i],f,by simp[A]⟩⟩,by lia,Pv (i+1),λB H' j=>⟨min xs.length ys.length-(i+1),by omega,rfl,hlt,j⟩,λx H' y=>?_⟩;obtain⟨pp,u,v,rfl,o,rfl,C,E⟩:=y;exact hs i u v zs H pp _ (C.2 xs d) (E.2 ys f) p (bh o) aE o
 .have e:i=min xs.length ys.length:=by lia
  refine .inl ⟨?_,λj F=>hd zs H j (e ▸ p) F⟩;by_cases h:xs.length<=i
  .exact .inl ⟨xs,d,h⟩
  .exact .inr ⟨⟨xs,xs[i]'(by lia),d,F2 (by lia)⟩,⟨ys,f,by lia⟩⟩
end
mutual
inductive LitE:Vk->TE->Prop
 | non {j pos}:LitE (.Constant .none j pos) (tC .non)
 | bl {b j pos}:LitE (.Constant (.bool b) j pos) (tC (.bl b))
 | int {i j pos}:LitE (.Constant (.int i) j pos) (tC (.int i))
 | str {x j pos}:LitE (.Constant (.str x) j pos) (tC (.str x))
 | tup {es ta k pos}:LitsE es ta->LitE (.Tuple es k pos) (nZ ta)
inductive LitsE:List Vk->TA->Prop
 | nil:LitsE [] pT
 | cons {e te es ta}:LitE e te->LitsE es ta->LitsE (e::es) (mO te ta)
end
def LitE.star(h:LitE e te)(es)(env):starEach (e::es) env=(false,eval e env)::starEach es env:=by cases h<;>rfl
def dI(c:Vb)(q:Vm):HO:=.ext λh=>h.CodeRec (.ref c) q
def gG(f c:Vb)(q:Vm)(params:Arguments)(body:Vk)(scope:Scope):HO:=.ext λh=>∃pm ctv,h.get? f=Vn (Ik "<lambda>" q params body scope [] pm c ctv)
def wz(r:h.CodeRec (.ref c) q):bI P w H h c (dI c q):=by
 refine⟨r,?_,λh1 h2 r1 k=>?_⟩
 .obtain⟨c',o,vs,t,e,g,_⟩:=r;cases e;exact⟨o,g⟩
 .obtain⟨c',o,vs,t,e,g,d⟩:=r1;cases e;exact⟨c,o,vs,t,rfl,k o g,d⟩
def xm{f:Vb}(r:h.get? f=Vn (Ik "<lambda>" q params body scope [] pm c ctv)):bI P w H h f (gG f c q params body scope):=
 ⟨⟨pm,ctv,r⟩,⟨_,r⟩,λh1 h2 ⟨a,b,g⟩ k=>⟨a,b,k _ g⟩⟩
section
variable {X:Cx} {pins:List (Vb×Obj)} {σ:St} {H:Hp} {s:Vc}
def Inv.lam{P f:Vb}{ps more:Array Va}(I:Inv X pins σ H s)(h:H P=Vn (.tbl ps))(b:Jb P s.heap h')(j:s.heap.objs.size<=c)(i:c<f)(w:h'.get? P=Vn { cls:=.none,data:=.fields (ps++more) })
  (B:h'.CodeRec (.ref c) q) (C:h'.get? f=Vn (Ik "<lambda>" q params body scope [] pm c ctv)) :
  Inv X pins σ (upd (upd (upd H P (.tbl (ps++more))) c (dI c q)) f (gG f c q params body scope)) { s with heap:=h',toks:=tk }:=by
 have x:@LE.le Nat _ s.heap.objs.size f:=GC j (Io i);have l:H c=Vo:=I.hok.fresh j;have m:H f=Vo:=I.hok.fresh x;have E:c≠P:=λz=>by rw[z,h]at l;cases l
 have F:f≠P:=λz=>by rw[z,h]at m;cases m
 have old:∀b o,H b=Vn o->b≠P->upd (upd (upd H P (.tbl (ps++more))) c (dI c q)) f (gG f c q params body scope) b=Vn o:=λb o e n=>by rw[aA (cx e m),aA (cx e l),aA n];exact e
 have p:∀b,H b=Vo->b≠P:=λb e z=>by rw[z,h]at e;cases e
 refine I.un ⟨λa o e n _ _=>b a o (p a n) e,λa o e n _ _=>⟨o.slots,b a o (p a n) e⟩,λa o e n _=>?_,λa o e _=>?_,λa xs e=>old a _ e (λz=>by rw[z,h]at e;cases e),λa o u e=>old a _ e (λz=>by rw[z,h]at e;cases e),λa qs e=>?_⟩ λa u e=>?_
 .have lt:@LT.lt Nat _ a s.heap.objs.size:=F0 e;rw[aA (Gm (GA lt x)),aA (Gm (GA lt j)),aA (p a n)];exact n
 .by_cases z:a=P
  .rw[z];exact⟨_,w⟩
  .exact⟨o,b a o z e⟩
 .by_cases z:a=P
  .subst z;rw[h]at e;cases e;exact⟨more,by rw[aA (HQ F),aA (HQ E),aE]⟩
  .exact⟨#[],by rw[old a _ e z];simp⟩
 .by_cases z:a=f
  .subst z;rw[aE]at e;cases e;exact xm C
  .rw[aA z]at e;by_cases A:a=c
   .subst A;rw[aE]at e;cases e;exact wz B
   .rw[aA A]at e;by_cases r:a=P
    .subst r;rw[aE]at e;cases e;exact w
    .rw[aA r]at e;refine(I.hok a u e).stay (λd v hd g=>b d v ?_ g) (λd hd=>old d _ hd (λy=>by rw[y,h]at hd;cases hd)) λd xs hd=>old d _ hd (λy=>by rw[y,h]at hd;cases hd);rcases hd with rfl|hd
     .exact r
     .exact λy=>by rw[y,h]at hd;cases hd
end
def pX(P:Vb)(pos:Pos)(q:Vm)(params:Arguments)(body:Vk)(scope:Scope)(H:Hp)(Q:VK):Prop:=
 (H P=Vn (.tbl #[])/\∀f c,H c=Vo->H f=Vo->c≠P->f≠P->f≠c->Q (.ref f) (upd (upd (upd H P (.tbl #[rawInt pos.line,rawInt pos.col,.ref c])) c (dI c q)) f (gG f c q params body scope))) ∨
 ∃c,H P=Vn (.tbl #[rawInt pos.line,rawInt pos.col,.ref c])/\H c=Vn (dI c q)/\∀f,H f=Vo->Q (.ref f) (upd H f (gG f c q params body scope))
def uw(P:Vb)(pos:Pos)(q:Vm)(params:Arguments)(body:Vk)(scope:Scope):TE:=λ_ H Q=>pX P pos q params body scope H Q
def Fi{P:Vb}(a:X.env.code=.ref c)(g:X.env.globals=Vj)(C:JG X.base c P)(B:X.base.BuiltinsAt X.mg P)(m:Vj≠P)(d:∀x∈scope.names,x.2≠.free)
  (p:params.defaults=[]) (u:params.kw_defaults=[]):PE X (.Lambda params body scope pos) (uw P pos (X.env.qual ++ "<lambda>") params body scope):=by
 intro pins s σ H Q I h;rw[arm_eval_Lambda,L9,u,p];refine FV (FW (FV (wpAny_holding (FW ?_))));have hcl:closureFor scope X.env=pure []:=by
  simp only[closureFor];rw[forIn_yield_id [] (λx i c=>by
   obtain⟨n,kind⟩:=x;have:(kind == NameKind.free)=false:=by simpa using d _ i
   simp only[this,GP,if_false])]
  rfl
 have w:JG s.heap c P:=C.keeps λb o e=>(I.bs b o e).1;have y:s.heap.Ns Vj X.mg:=by obtain⟨o,es,ep,e,r⟩:=I.ok.mod.glob;exact⟨o,es,ep,(I.bs _ _ e).1,r⟩
 have hb:s.heap.BuiltinsAt X.mg P:=by obtain⟨bm,o,E,F,G,L,M,N⟩:=B;exact⟨bm,o,E,F,G,L,(I.bs _ _ M).1,N⟩
 rcases h with⟨j,q⟩|⟨c',j,O,q⟩
 .have l:s.heap.get? P=Vn (JH #[]):=I.hok P _ j;refine K2 hcl g y a w l trivial rfl m hb λc' ctv h' tk i hge hlt hrec v=>?_;have R:H c'=Vo:=I.hok.fresh hge;have z:@LE.le Nat _ s.heap.objs.size h'.objs.size:=GC hge (Io hlt);have S:H h'.objs.size=Vo:=I.hok.fresh z;have A:@LT.lt Nat _ P s.heap.objs.size:=F0 l;have J:=Inv.lam (tk:=tk) (f:=h'.objs.size) (h':=h'.push (Ik "<lambda>" (X.env.qual ++ "<lambda>") params body scope [] ((X.mg "__name__").getD .none) c' ctv)) (more:=#[rawInt pos.line,rawInt pos.col,.ref c']) I j (λb o n e=>FY _ (i b o n e)) hge hlt (FY _ v) (hrec.push _) (FZ _ rfl);exact⟨.ref h'.objs.size,_,J,rfl,q _ c' R S (IC (GA A hge)) (IC (GA A z)) (IC hlt)⟩
 .have l:s.heap.get? P=Vn (JH #[rawInt pos.line,rawInt pos.col,.ref c']):=I.hok P _ j;refine Kf (cv:=.ref c') hcl g y a w l trivial (by simp[codeAmong,rawInt]) hb λctv h' tk i hge=>?_;exact⟨.ref h'.objs.size,_,I.laid (λb o e=>FY _ (i b o e)) hge (xm (FZ _ rfl)),rfl,q _ (I.hok.fresh hge)⟩
inductive LamB:Vk->(Bool->Bool->Bool)->Prop
 | and {p1 p2 p3}:LamB (.BoolOp .And [.Name "p" p1,.Name "q" p2] p3) λx y=>x && y
 | or {p1 p2 p3}:LamB (.BoolOp .Or [.Name "p" p1,.Name "q" p2] p3) λx y=>x || y
 | less {p1 p2 p3 p4}:LamB (.BoolOp .And [.Name "p" p1,.UnaryOp .Not (.Name "q" p2) p3] p4) λx y=>x && !y
 | ne {p1 p2 p3}:LamB (.Compare (.Name "p" p1) [.NotEq] [.Name "q" p2] p3) λx y=>!(x == y)
structure LamS(params:Arguments)(scope:Scope):Prop where
 sc:FnScope (["p","q"]:List Vm) (["p","q"]:List Vm) scope
 vp:scope.names.lookup ("p":Vm)=Vn .local
 vq:scope.names.lookup ("q":Vm)=Vn .local
 bind:∀(q:Vm) (body:Vk) (pm cv ctv u v:Va),bindArgs (Lr "<lambda>" q params body scope [] pm cv ctv) ⟨[u,v],[]⟩=pure [(("p":Vm),u),(("q":Vm),v)]
def hV(H:Hp)(f:Vb)(g:Bool->Bool->Bool):Prop:=∃c q params body scope,H f=Vn (gG f c q params body scope)/\H c=Vn (dI c q)/\LamB body g/\LamS params scope
def ET{g:Bool->Bool->Bool}(d:Y.N=(["p","q"]:List Vm))(vp:Y.env.scope.names.lookup ("p":Vm)=Vn .local)(vq:Y.env.scope.names.lookup ("q":Vm)=Vn .local)(b:LamB body g)(x y):
  ∃te,PE Y body te/\∀H Q,Q (.bl (g x y)) H->te [Vn (.bl x),Vn (.bl y)] H Q:=by
 have e:Y.N[0]?=Vn ("p":Vm):=by rw[d];rfl
 have f:Y.N[1]?=Vn ("q":Vm):=by rw[d];rfl
 have a:∀{p:Pos},PE Y (.Name "p" p) (ko 0):=λ{p}=>pQ e (.inl vp);have c:∀{p:Pos},PE Y (.Name "q" p) (ko 1):=λ{p}=>pQ f (.inl vq);cases b with
 | and=>
  refine⟨_,fm a (eL c),λH Q q=>?_⟩;refine rd_andV (rd_var rfl (rd_exb ?_));cases x with
  | true=>exact aI (rd_var rfl q)
  | false=>exact aC q
 | or=>
  refine⟨_,pN a (eL c),λH Q q=>?_⟩;refine rd_orV (rd_var rfl (rd_exb ?_));cases x with
  | true=>exact aI q
  | false=>exact aC (rd_var rfl q)
 | less=>
  refine⟨_,fm a (eL (xD c)),λH Q q=>?_⟩;refine rd_andV (rd_var rfl (rd_exb ?_));cases x with
  | true=>exact aI (rd_notV (rd_var rfl (rd_exb q)))
  | false=>exact aC q
 | ne=>
  refine⟨_,fU gH a c (aT _),λH Q q=>?_⟩;exact rd_op (rd_var rfl (rd_var rfl (rd_NeB q)))
section
variable {X:Cx} {pins:List (Vb×Obj)} {σ:St} {H:Hp} {s:Vc}
def EL{f:Vb}{g:Bool->Bool->Bool}{Q:VK}(I:Inv X pins σ H s)(h:hV H f g)(j:Room (k+1) X.A)(q:Q (.bl (g x y)) H):Vf (Vg X.prog X.w) X.A (call (.ref f) [.bool x,.bool y]) (EP X pins σ Q) X.xe s:=by
 obtain⟨c,l,params,body,scope,n,p,B,S⟩:=h;obtain⟨⟨pm,ctv,C⟩,_⟩:=I.hok f _ n;obtain⟨E,_⟩:=I.hok c _ p;have i:=I.env0;have lim:s.heap.NoLimit:=i.mod.nolimit.keeps λb o e=>(i.bs b o e).1;have r:Vals [V.bl x,V.bl y] [Value.bool x,Value.bool y]:=.cons rfl (.cons rfl .nil);have run:codeAny (Vg X.prog X.w) X.A (.call (.ref f) ⟨[.bool x,.bool y],[]⟩) (CR cQ X.stack X.prog X.w H s Q E0) s:=by
  refine Ls j.depth C rfl S.sc.co S.sc.gen rfl E ?_;rw[S.bind];refine FW ?_;refine wpAny_newFunctionEnv_cells S.sc.kind (λz m=>?_) λenv F s1 z=>?_
  .simp only[Gh,GD,or_false]at m;rcases m with rfl|rfl
   .exact .inl S.vp
   .exact .inl S.vq
  subst F;refine⟨lim.keeps z.toInCall.keep,Lu ?_⟩;have J:Inv (eP cQ X.prog X.w X.K X.mg X.base ["p","q"] l scope f (.ref c) X.A X.stack s H E0) [] (start ["p","q"] [V.bl x,V.bl y]) H s1:=u5 S.sc j.hd i rfl r z;obtain⟨te,G,a⟩:=ET (Y:=eP cQ X.prog X.w X.K X.mg X.base ["p","q"] l scope f (.ref c) X.A X.stack s H E0) rfl S.vp S.vq B x y;refine wpAny_mono (G [] s1 (start ["p","q"] [V.bl x,V.bl y]) H _ J (a H Q q)) (λu s' ⟨v,H',d,L,M⟩=>?_) λe s' hs=>hs;exact⟨v,H',d.os,d.bare,d.base,d.hok,L,M⟩
 refine wpAny_call (codeAny_mono run λr s' a=>?_);cases r with
 | error e=>exact HY a
 | ok N=>
  cases N with
  | ret u=>exact I.after a
  | next=>exact HY a
  | brk=>exact HY a
  | cont=>exact HY a
end
def uH:V->List V->Hp->VK->Prop:=λa vs H Q=>∃f g x y,a=.ref f/\vs=[.bl x,.bl y]/\hV H f g/\Q (.bl (g x y)) H
def sU(b:TE)(ta:TA):TE:=λσ H Q=>b σ H λa H1=>(∃f g,a=.ref f/\hV H1 f g)/\ta σ H1 λvs H2=>uH a vs H2 Q
def An{k:Nat}{x:Vm}{p pos:Pos}{e:Vk}{es:List Vk}{w:TE}{ta:TA}(B:Room (k+1) X.A)(j:PE X (.Name x p) w)(ha:PA X (e::es) ta)
  (C:starEach (e::es) X.env=(false,eval e X.env)::starEach es X.env:=by rfl) (l:(backTo pos (starEach es X.env)).any (·.1)=false:=by rfl):PE X (.Call (.Name x p) (e::es) [] pos) (sU w ta):=by
 intro pins s σ H Q I h;refine wpAny_Call_Name_kw (aJ (j pins s σ H _ I h) λP s1 ⟨v,H1,y,r1,⟨f,g,ev,m⟩,E⟩=>?_);subst ev;cases r1;have fnAt:∀{σ:St} {H:Hp} {s:Vc} {g},Inv X pins σ H s->hV H f g->PySem.W.FnAt f s.heap:=λ{σ H s g} J m=>by obtain⟨c,R,params,body,scope,j,_⟩:=m;obtain⟨⟨pm,ctv,F⟩,_⟩:=J.hok f _ j;exact⟨_,_,_,_,F⟩
 refine ML (fnAt y m) (aJ (ha pos pins s1 σ H1 _ y E) λus s2 ⟨vs,H2,z,G,L⟩=>?_) C l;obtain⟨S,T,M,N,O,rfl,i,q⟩:=L;cases O;obtain⟨n,o,rfl,r,u⟩:∃n o,us=[n,o]/\RelV (.bl M) n/\RelV (.bl N) o:=by
  cases G with
  | cons a b=>
   cases b with
   | cons c d=>cases d;exact⟨_,_,rfl,a,c⟩
 cases r;cases u;exact⟨fnAt z i,EL z i B q⟩
def rd_lam{P:Vb}{Q:VK}(h:pX P pos q params body scope H Q):uw P pos q params body scope σ H Q:=h
def rd_calV{a:TE}{Q:VK}(h:a σ H λb H1=>(∃f g,b=.ref f/\hV H1 f g)/\ta σ H1 λvs H2=>uH b vs H2 Q):sU a ta σ H Q:=h
structure Tab(K:FX)(mg:Vm->Option Va)(base:Vh)(x:Vm)(c T:Vb):Prop where
 tin:Hm K x=Vn (c,T)
 hd:JG base c T
 blt:base.BuiltinsAt mg T
 gl:Vj≠T
 kin:K.In base
 ns:base.Ns Vj mg
section
variable {P:Vd} {w:Ve} {K:FX} {mg:Vm->Option Va} {base:Vh}
def Ac{T f:Vb}(a:Hm K x=Vn (c,T))(e:K.In base)(G:base.Ns Vj mg)(g:mg x=Vn (.ref f))(h:K.lookup f=Vn o)(hd:o.data=.func fd):fd.code=.ref c:=by
 unfold Hm at a;split at a
 .rename_i f' hf;have d:=Ie e G hf;rw[g]at d;cases d;split at a
  .rename_i b;rw[h]at b;cases b;cases hd;split at a
   .rename_i c2 hc;split at a
    .split at a
     .cases a;exact hc
     .cases a
    .cases a
   .cases a
  .cases a
 .cases a
def Dfn.okL{st:Stmt}{T:Vb}(D:Dfn K mg x st ps)(B:Tab K mg base x c T)(S:FnScope N ps (cJ st))(len:∀vs H Q E,sp vs H Q E->vs.length=ps.length)
  (a:∀X (j:∃f A outer s H E,X=(eP cQ P w K mg base N x (cJ st) f (.ref c) A outer s H E).nox/\Room k X.A) H vs Q E,sp vs H Q E ->
   ∃t,cM X (eY st) t/\t { nx:=λ_ H'=>Q .non H',rt:=Q } (start N vs) H):Cal P w K mg base x (k+1) ps sp:=by
 obtain⟨f,fd,d,F,hb⟩:=D.ex;refine⟨f,fd,d,F.kp,hb,?_⟩;obtain⟨oc,od,kV,doc,pm,an,cdv,ct,osl,rfl,g,b⟩:=F.ex;have e:cdv=.ref c:=Ac B.tin B.kin B.ns d g rfl;subst e;refine wF g b S len λA outer s H vs Q E i hsp=>?_;obtain⟨t,h,q⟩:=a _ ⟨f,A,outer,s,H,E,rfl,i⟩ H vs Q E hsp;exact⟨t,h.nox,q⟩
end
def vV(tabs:List (Vb×Vb))(H:Hp):Prop:=∀q∈tabs,H q.2=Vn (.tbl #[])
def EM{K:FX}{R:Vb}{c:Vc}
  (S:K.In c.heap) (hK:Lv K=true) (l:PySem.W.TabsAt tabs c.heap) (p:c.heap.Ns Vj mg) (hb:c.heap.Ns builtinsNs mb) (T:∀x:Vm,x≠"__name__"->mb x=bootBuiltins x) (J:c.heap.NoLimit)
  (U:∃bm y,mg "__builtins__" = Vn (.ref bm)/\bm≠builtinsNs/\c.heap.get? bm=Vn y/\y.cls=.type "module"/\y.dict=Vn builtinsNs/\y.data=.plain) (hg:c.gens = #[])
  (ha:c.heap.get? a=Vn { cls:=.type "list",data:=.seq vs.toArray }) (hi:IntsAre vs ns) (Z:ns.length<=sizeLine) (hr:Room k callerA)
  (F:∀base,K.In base->base.Ns Vj mg->(∀q∈tabs,JG base q.1 q.2/\base.BuiltinsAt mg q.2/\Vj≠q.2)->FnOk P w K mg base cQ k R fd [x] sp) (hbind:∀s u,BindsTo s fd ⟨[u],[]⟩ [(x,u)])
  (hsp:∀H,vV tabs H->af K H a (ns.map V.int)->sp [.ref a] H (λv _=>v=.bl true) λ_ _ _=>False) :
  codeAny (Vg P w) callerA (.call (.ref R) ⟨[.ref a],[]⟩) (λr s'=>r=.ok (.ret (.bool true))/\OldK c.heap s'.heap/\s'.os=c.os/\AllBare s'.gens) c:=by
 have rv:=tT hi;have L:=hi.length;have na:∀q∈tabs,a≠q.2:=λq f z=>by have:=(l q f).2;rw[<-z,ha]at this;cases this
 have noT:∀{b:Vb} {o:Obj},c.heap.get? b=Vn o->o≠JH #[]->b∉tabs.map (·.2):=λ{b o} e n i=>by obtain⟨q,f,rfl⟩:=G6.mp i;have:=(l q f).2;rw[e]at this;exact n (GK this)
 have core:∀H,vV tabs H->af K H a (ns.map V.int)->bE P w H c.heap->(∀b,H b≠Vo->b=a\/b∈tabs.map (·.2))->(H a≠Vo->K.lookup a=Vo/\∃o xs,H a=Vn (.frz o (.lst xs))) ->
   codeAny (Vg P w) callerA (.call (.ref R) ⟨[.ref a],[]⟩) (λr s'=>r=.ok (.ret (.bool true))/\OldK c.heap s'.heap/\s'.os=c.os/\AllBare s'.gens) c:=by
  intro H hO hS hok hA hKa;have free:∀{b:Vb} {o:Obj},c.heap.get? b=Vn o->o≠JH #[]->b≠a->H b=Vo:=λ{b o} e n nb=>by
   cases q:H b with
   | none=>rfl
   | some u=>
    rcases hA b (by rw[q];simp)with z|z
    .exact absurd z nb
    .exact absurd z (noT e n)
  have nsK:∀{b:Vb} {m:Vm->Option Va},c.heap.Ns b m->(gm c.heap H).Ns b m:=λ{b m} ⟨o,es,ep,e,d,r⟩=>⟨o,es,ep,mM e (free e (λz=>by rw[z]at d;cases d) λz=>by rw[z,ha]at e;cases e;cases(show Data.seq vs.toArray _=Data.dict es ep from d)),d,r⟩;have M:K.In (gm c.heap H):=λb o e=>mM (S b o e) (by
   by_cases z:b=a
   .subst z;cases q:H b with
    | none=>rfl
    | some u=>
     have:=(hKa (by rw[q];simp)).1;rw[this]at e;cases e
   .refine free (S b o e) (λE=>?_) z;have h2:=GF.mp hK (b,o) (PySem.W.mem_of_lookupK e);subst E;exact absurd (show false=true from h2) Gi)
  have hM:Mod K mg (gm c.heap H):=⟨M,nsK p,⟨mb,nsK hb,T⟩,let ⟨mc,h1,h2⟩:=J;⟨mc,nsK h1,h2⟩⟩;have e0:Env0 P w K mg (gm c.heap H) callerA [] c H:=⟨rfl,hM,λb o e=>Bi e,LK (Au _ _),trivial,λb hb=>absurd (show b∈([]:List Vb)from hb) (by simp),hok,.of_eq hg⟩;have G:∀q∈tabs,JG (gm c.heap H) q.1 q.2/\(gm c.heap H).BuiltinsAt mg q.2/\Vj≠q.2:=λq f=>by
   refine⟨?_,?_,?_⟩
   .obtain⟨o,us,file,tf,flags,tg,X,text,tt,e,O,r⟩:=(l q f).1;exact⟨o,us,file,tf,flags,tg,X,text,tt,mM e (free e (λz=>by rw[z]at O;cases O) λz=>by rw[z,ha]at e;cases e;simp at O),O,r⟩
   .obtain⟨bm,y,a1,a2,I,N,a5⟩:=U;refine⟨bm,y,a1,a2,λz=>?_,λz=>?_,mM I (free I (λz=>by rw[z]at N;cases N) λz=>by rw[z,ha]at I;cases I;simp at N),N,a5⟩
    .obtain⟨o,es,ep,e,d,_⟩:=p;rw[<-z,I]at e;cases e;rw[a5.2]at d;cases d
    .have:=(l q f).2;rw[<-z,I]at this;cases this;cases N
   .intro z;obtain⟨o,es,ep,e,d,_⟩:=p;have:=(l q f).2;rw[<-z,e]at this;cases this;cases d
  refine codeAny_mono ((F _ M (nsK p) G).run callerA [] c H ⟨[.ref a],[]⟩ [.ref a] [.ref a] _ _ hr e0 (hbind c (.ref a)) (.cons rfl .nil) (hsp H hO hS)) λr s' h=>?_;cases r with
  | error e=>exact HY h
  | ok fl=>
   cases fl with
   | next=>exact HY h
   | brk=>exact HY h
   | cont=>exact HY h
   | ret u=>
    obtain⟨v,H',os,bare,un,hok',r',q⟩:=h;have q':v=.bl true:=q;subst q';obtain rfl:u=Value.bool true:=r';have keep:∀b o,c.heap.get? b=Vn o->b∉tabs.map (·.2)->s'.heap.get? b=Vn o:=λb o e nt=>by
     cases q:H b with
     | none=>exact un.keep b o e q (by intro z;exact absurd (show b∈([]:List Vb)from z) (by simp)) (by simp)
     | some u=>
      rcases hA b (by rw[q];simp)with z|z
      .subst z;obtain⟨_,y,xs,z⟩:=hKa (by rw[q];simp);have E:=un.frzs b y _ z;obtain⟨e1,_⟩:=hok b _ z;obtain⟨Q,_⟩:=hok' b _ E;rw[e]at e1;cases e1;exact Q
      .exact absurd z nt
    have grown:∀q∈tabs,∃more,s'.heap.get? q.2=Vn (JH (#[]++more)):=λq f=>by obtain⟨more,e⟩:=un.tbls q.2 _ (hO q f);exact⟨more,hok' q.2 _ e⟩
    refine⟨rfl,⟨λb o e=>?_,λb o e=>?_⟩,os,bare⟩
    .by_cases i:b∈tabs.map (·.2)
     .obtain⟨q,f,rfl⟩:=G6.mp i;obtain⟨more,g⟩:=grown q f;have Q:=(l q f).2;rw[e]at Q;cases Q;exact .inr (.inl ⟨((l q f).1.tab (l q f).2).isCodeTable,rfl,#[],more,rfl,g⟩)
     .exact .inl (keep b o e i)
    .by_cases i:b∈tabs.map (·.2)
     .obtain⟨q,f,rfl⟩:=G6.mp i;obtain⟨more,g⟩:=grown q f;exact⟨_,g⟩
     .exact⟨o,keep b o e i⟩
 have A:∀(H:Hp) b,b∈tabs.map (·.2)->bI P w H c.heap b (.tbl #[]):=λH b i=>by obtain⟨q,f,rfl⟩:=G6.mp i;exact(l q f).2
 cases Y:K.lookup a with
 | some o=>
  have e:=S a o Y;rw[ha]at e;cases e;have at_:∀b,(if b∈tabs.map (·.2)then Vn (HO.tbl #[])else Vo)=(Vo:Option HO)\/b∈tabs.map (·.2):=λb=>by
   by_cases hb:b∈tabs.map (·.2)
   .exact .inr hb
   .exact .inl (G0 hb)
  have B:a∉tabs.map (·.2):=λi=>by obtain⟨q,f,e⟩:=G6.mp i;exact na q f e.symm
  refine core (λb=>if b∈tabs.map (·.2)then Vn (.tbl #[])else Vo) (λq f=>G5 (G6.mpr ⟨q,f,rfl⟩)) (.inr ⟨_,vs.toArray,_,Y,rfl,rfl,rfl,by rw[F6,L];exact Z,by simpa using rv⟩) (λb u z=>?_) (λb z=>?_) λz=>absurd (G0 B) z
  .by_cases hb:b∈tabs.map (·.2)
   .have C:=(G5 hb).symm.trans z;cases C;exact A _ b hb
   .have C:=(G0 hb).symm.trans z;cases C
  .rcases at_ b with h|h
   .exact absurd h z
   .exact .inr h
 | none=>
  have B:a∉tabs.map (·.2):=λi=>by obtain⟨q,f,e⟩:=G6.mp i;exact na q f e.symm
  refine core (λb=>if b=a then Vn (.frz { cls:=.type "list",data:=.seq vs.toArray } (.lst (ns.map V.int)))else if b∈tabs.map (·.2)then Vn (.tbl #[])else Vo) (λq f=>?_) (.inl (.inr ⟨{ cls:=.type "list",data:=.seq vs.toArray },G5 rfl⟩)) (λb u z=>?_) (λb z=>?_) λ_=>⟨Y,_,_,G5 rfl⟩
  .show(if q.2=a then _ else _)=_;rw[G0 (HQ (na q f)),G5 (G6.mpr ⟨q,f,rfl⟩)]
  .by_cases hb:b=a
   .have C:=(G5 hb).symm.trans z;cases C;subst hb;exact⟨ha,by rw[F1];exact Z,vs,_,rv,ha⟩
   .have C:=(G0 hb).symm.trans z;by_cases j:b∈tabs.map (·.2)
    .have E:=(G5 j).symm.trans C;cases E;exact A _ b j
    .have E:=(G0 j).symm.trans C;cases E
  .by_cases hb:b=a
   .exact .inl hb
   .by_cases j:b∈tabs.map (·.2)
    .exact .inr j
    .exact absurd ((G0 hb).trans (G0 j)) z
section
variable {prog:Vd} {w:Ve} {A:Vi} {E:Va->Vc->Prop}
theorem ya{it l:Vb}{ys:Array Va}(ne:l≠it):∀(n i:Nat) (s:Vc) (Q:List Va->Vc->Prop),s.heap.IsListIter it l i->s.heap.IsList l ys->i+n<=ys.size ->
  (∀h',h'.IsListIter it l (i+n)->Ip it s.heap h'->Q ((ys.toList.drop i).take n) { s with heap:=h' })->Vf (Vg prog w) A (draw (.ref it) n) Q E s
 | 0,i,s,Q,a,_,_,q=>by exact FW (by simpa using q s.heap a (Heap.SameBut.refl ..))
 | n+1,i,s,Q,a,gl,le,q=>by
  have lt:i<ys.size:=by lia
  refine FV (wpAny_pyNext_list_item a gl (x:=ys[i]) (by simp[lt]) λk1 c b=>?_);refine FV (wpAny_holding (ya ne n (i+1) _ _ c (gl.extBut b.extBut ne) (by lia) λk2 d f=>FW ?_));have e:ys.toList.drop i=ys[i]::ys.toList.drop (i+1):=by simp[Ho,lt]
  have:=q k2 (by rw[show i+(n+1)=i+1+n by lia];exact d) (b.trans f);rw[e,List.take_succ_cons]at this;exact this
theorem Bb{Q:List Va->Vc->Prop}(hA:A.handled=Vo)(gl:s.heap.IsList l ys)
  (q:∀h',Jb s.heap.objs.size s.heap h'->Q ys.toList { s with heap:=h' }):Vf (Vg prog w) A (unpackItems (.ref l) ys.size Vo) Q E s:=by
 have lt:l≠s.heap.objs.size:=by obtain⟨o,e,_⟩:=gl;exact Gm (F0 e)
 refine FV ?_;refine FV (wpAny_specialOf gl.typeIs slot_list_iter.lookup ?_);refine FW ?_;refine FV (wpAny_holding (wpAny_pyIter_list gl ?_));refine FV (wpAny_holding (ya lt ys.size 0 _ _ ⟨_,FZ _ rfl,rfl,rfl⟩ (gl.push _) (by lia) λk1 c a=>?_));rw[show List.take ys.size (List.drop 0 ys.toList)=ys.toList by rw[Lx];exact Js (by simp),G0 (by simp)];refine FV (wpAny_holding (wpAny_pyNext_list_end hA c ((gl.push _).extBut a.extBut lt) (by simp) λk2 d=>?_));exact FW (q k2 λb o nb e=>d b o nb (a.extBut b o nb (FY _ e)))
def AR{Q:Unit->Vc->Prop}(hA:A.handled=Vo)(gl:s.heap.IsList l ys)(b:(assignEach es env).length=ys.size)(a:(assignEach es env).findIdx? (·.1)=Vo)
  (h:∀h',Jb s.heap.objs.size s.heap h'->Vf (Vg prog w) A (assignInOrder ((assignEach es env).map (·.2)) ys.toList) Q E { s with heap:=h' }):Vf (Vg prog w) A (assign (.Tuple es k pos) env (.ref l)) Q E s:=by
 refine FV (wpAny_standAt ?_);unfold unpack;rw[b,a];exact FV (wpAny_holding (Bb hA gl h))
end
section
variable {X:Cx} {pos:Pos}
def rZ(K:FX)(n:Nat)(t:eW):TG:=λv σ H Q=>∃a xs,v=.ref a/\af K H a xs/\xs.length=n/\t xs σ H Q
def AO{es:List Vk}{k:Nat}{t:eW}(K:FX)(g:X.calm=true)(h:jk X es t)(i:X.K=K:=by rfl)
  (j:(assignEach es X.env).length=n:=by rfl) (c:(assignEach es X.env).findIdx? (·.1)=Vo:=by rfl):PG X (.Tuple es k pos) (rZ K n t):=by
 subst i;intro pins s σ H v u Q I r d;obtain⟨a,xs,l,m,p,d⟩:=d;subst l;cases r;obtain⟨q,f,w,z⟩:=I.list m;refine AR (I.ok.hd g) w.isList (by simp[j,<-p,f.length]) c λh' x=>?_;have y:Inv X pins σ H { s with heap:=h' }:=I.kept (t':=s.toks) λb o e=>x b o (Gm (F0 e)) e;exact h pins _ σ H xs _ Q y (by simpa using f) d
end
def Co{K:FX}{g:eW}{R:St->Hp->Prop}(e:af K H a xs)(b:xs.length=n)(h:g xs σ H R):rZ K n g (.ref a) σ H R:=⟨a,xs,rfl,e,b,h⟩
def rd_par(h:ta σ H λvs H1=>∃v w,vs=[v,w]/\D.nx ((σ.set i (Vn v)).set j (Vn w)) H1):rM i j ta D σ H:=h
def rd_par2{w:V}{R:V->V->Prop}(h:R v w):∃a b,[v,w]=[a,b]/\R a b:=⟨v,w,rfl,h⟩
def Et(H H':Hp):Prop:=∀b o,H b=Vn o->(∀ps,o≠.tbl ps)->H' b=Vn o
def Ext.et(e:Ext H H'):Et H H':=λb o h _=>e b o h
def Et.trans(a:Et H H1)(b:Et H1 H2):Et H H2:=λx o h n=>b x o (a x o h n) n
def hV.ext(e:Ext H H'){f:Vb}{g:Bool->Bool->Bool}(h:hV H f g):hV H' f g:=by obtain⟨c,q,params,body,scope,h1,h2,r⟩:=h;exact⟨c,q,params,body,scope,e _ _ h1,e _ _ h2,r⟩
def cV(K:FX)(x q:Vm)(line col:Nat)(H:Hp):Prop:=∀c T,Hm K x=Vn (c,T) ->
 H T=Vn (.tbl #[])\/∃c',H T=Vn (.tbl #[rawInt line,rawInt col,.ref c'])/\H c'=Vn (dI c' q)
def cV.ext{K:FX}(e:Ext H H')(h:cV K x q line col H):cV K x q line col H':=λc T a=>by
 rcases h c T a with h|⟨c',h1,h2⟩
 .exact .inl (e _ _ h)
 .exact .inr ⟨c',e _ _ h1,e _ _ h2⟩
def D0{K:FX}{Q:VK}{T:Vb}(v:cV K x q pos.line pos.col H)(e:Hm K x=Vn (c,T))
  (h:∀f c' H',Et H H'->cV K x q pos.line pos.col H'->(∀y m p k2,(∀d a,Hm K y=Vn (d,a)->a≠T)->cV K y m p k2 H->cV K y m p k2 H')->H' f=Vn (gG f c' q params body scope)->H' c'=Vn (dI c' q)->Q (.ref f) H'):pX T pos q params body scope H Q:=by
 rcases v c T e with j|⟨c',j,l⟩
 .refine .inl ⟨j,λf c' B r C E w=>?_⟩;have old:∀b o,H b=Vn o->b≠T->upd (upd (upd H T (.tbl #[rawInt pos.line,rawInt pos.col,.ref c'])) c' (dI c' q)) f (gG f c' q params body scope) b=Vn o:=λb o hb n=>by rw[aA (cx hb r),aA (cx hb B),aA n];exact hb
  refine h f c' _ (λb o hb n=>old b o hb λz=>by rw[z,j]at hb;cases hb;exact n _ rfl) (λd a i=>.inr ⟨c',?_,?_⟩) (λy m p k2 A s d a i=>?_) aE ?_
  .rw[e]at i;cases i;rw[aA (HQ E),aA (HQ C),aE]
  .rw[aA (HQ w),aE]
  .rcases s d a i with g|⟨F,G,u⟩
   .exact .inl (old _ _ g (A d a i))
   .exact .inr ⟨F,old _ _ G (A d a i),old _ _ u λz=>by rw[z,j]at u;cases u⟩
  .rw[aA (HQ w),aE]
 .refine .inr ⟨c',j,l,λf r=>?_⟩;have ex:Ext H (upd H f (gG f c' q params body scope)):=bh r;exact h f c' _ ex.et (cV.ext ex v) (λy m p k2 _ s=>s.ext ex) aE (ex _ _ l)
section
variable {κ:Type} [DecidableEq κ]
def aX(kvs:List (κ×V))(k:κ):Option V:=(kvs.find? λkv=>decide (kv.1=k)).map (·.2)
def putK(kvs:List (κ×V))(k:κ)(v:V):List (κ×V):=
 if(kvs.any λkv=>decide (kv.1=k))=true then kvs.map (λkv=>if kv.1=k then(kv.1,v)else kv)else kvs++[(k,v)]
def fj{p:κ×V}{r:List (κ×V)}{k:κ}(e:p.1=k):aX (p::r) k=Vn p.2:=by simp[aX,JP,e]
def eR{p:κ×V}{r:List (κ×V)}{k:κ}(e:¬p.1=k):aX (p::r) k=aX r k:=by simp[aX,JP,e]
theorem jE(k:κ):∀kvs:List (κ×V),(kvs.any λkv=>decide (kv.1=k))=(aX kvs k).isSome
 | []=>rfl
 | p::r=>by
  rw[JS];by_cases e:p.1=k
  .simp only[fj e,GZ e,Bool.true_or,MM]
  .rw[eR e,GY e,Bool.false_or];exact jE k r
theorem tR(k j:κ)(y:V):∀kvs:List (κ×V),aX (kvs.map λkv=>if kv.1=k then(kv.1,y)else kv) j=(aX kvs j).map λx=>if j=k then y else x
 | []=>rfl
 | p::r=>by
  have a:=tR k j y r;rw[Hr];by_cases h:p.1=k
  .rw[G5 h];by_cases e:p.1=j
   .rw[fj (p:=(p.1,y)) e,fj e,KW,G5 (e.symm.trans h)]
   .rw[eR (p:=(p.1,y)) e,eR e,a]
  .rw[G0 h];by_cases e:p.1=j
   .rw[fj e,fj e,KW,G0 (λz=>h (e.trans z))]
   .rw[eR e,eR e,a]
theorem xV(k j:κ)(y:V):∀kvs:List (κ×V),aX kvs k=Vo->aX (kvs++[(k,y)]) j=if j=k then Vn y else aX kvs j
 | [],_=>by
  by_cases e:k=j
  .rw[G5 e.symm];exact fj e
  .rw[G0 (λz=>e z.symm)];exact eR e
 | p::r,a=>by
  rw[List.cons_append];have b:¬p.1=k:=λz=>by rw[fj z]at a;cases a
  rw[eR b]at a;have c:=xV k j y r a;by_cases e:p.1=j
  .rw[fj e,fj e,G0 (λz=>b (e.trans z))]
  .rw[eR e,eR e,c]
def gw(kvs:List (κ×V))(k j:κ)(y:V):aX (putK kvs k y) j=if j=k then Vn y else aX kvs j:=by
 unfold putK;by_cases a:(kvs.any λkv=>decide (kv.1=k))=true
 .rw[G5 a,tR];rw[jE]at a;by_cases e:j=k
  .obtain⟨x,b⟩:=HV.mp a;rw[G5 e,e,b,KW,G5 rfl]
  .rw[G0 e];cases aX kvs j with
   | none=>rfl
   | some x=>rw[KW,G0 e]
 .rw[G0 a];refine xV k j y kvs ?_;rw[jE]at a;cases q:aX kvs k with
  | none=>rfl
  | some x=>rw[q]at a;exact(a rfl).elim
theorem kH(kvs:List (κ×V))(k:κ)(v:V):(putK kvs k v).length<=kvs.length+1:=by
 unfold putK;split
 .rw[F1];lia
 .rw[Gk,Gw,List.length_nil];lia
def jI{kvs:List (κ×V)}{k:κ}(v:V)(h:aX kvs k=Vo):putK kvs k v=kvs++[(k,v)]:=by unfold putK;rw[jE,h];exact G0 (by decide)
def fH.isSome_eq{o:Option V}{u:Option Va}(r:fH o u):o.isSome=u.isSome:=by
 cases o with
 | none=>cases u with
  | none=>rfl
  | some _=>exact(r).elim
 | some _=>cases u with
  | none=>exact(r).elim
  | some _=>rfl
def KV.val{kvs:List (κ×V)}{vs:List (κ×Va)}(r:KV kvs vs)(k:κ):fH (aX kvs k) (valueAt vs k):=by
 induction r with
 | nil=>exact True.intro
 | @cons p q ps qs h t a=>
  obtain⟨h1,h2⟩:=h;by_cases e:p.1=k
  .have e':=h1.symm.trans e;have b:valueAt (q::qs) k=Vn q.2:=by simp[valueAt,JP,e']
   rw[fj e,b];exact h2
  .have e':¬q.1=k:=λz=>e (h1.trans z);have b:valueAt (q::qs) k=valueAt qs k:=by simp[valueAt,JP,e']
   rw[eR e,b];exact a
theorem KV.any{kvs:List (κ×V)}{vs:List (κ×Va)}(r:KV kvs vs)(k:κ):(kvs.any λkv=>decide (kv.1=k))=vs.any λkv=>decide (kv.1=k):=by
 induction r with
 | nil=>rfl
 | cons h t a=>rw[JS,JS,a,h.1]
def KV.repl{kvs:List (κ×V)}{vs:List (κ×Va)}(r:KV kvs vs)(k:κ){y:V}(a:RelV y u):
  KV (kvs.map λkv=>if kv.1=k then(kv.1,y)else kv) (vs.map λkv=>if kv.1=k then(kv.1,u)else kv):=by
 induction r with
 | nil=>exact .nil
 | @cons p q ps qs h t b=>
  rw[Hr,Hr];refine .cons ?_ b;obtain⟨h1,h2⟩:=h;by_cases e:p.1=k
  .rw[G5 e,G5 (h1.symm.trans e)];exact⟨h1,a⟩
  .rw[G0 e,G0 (λz=>e (h1.trans z))];exact⟨h1,h2⟩
def KV.put{kvs:List (κ×V)}{vs:List (κ×Va)}(r:KV kvs vs)(k:κ){y:V}(a:RelV y u):KV (putK kvs k y) (stored vs k u):=by
 unfold putK stored;rw[r.any k];by_cases e:(vs.any λkv=>decide (kv.1=k))=true
 .rw[G5 e,G5 e];exact r.repl k a
 .rw[G0 e,G0 e];exact IT r ⟨rfl,a⟩
def KV.keys{kvs:List (κ×V)}{vs:List (κ×Va)}(r:KV kvs vs):kvs.map (·.1)=vs.map (·.1):=by
 induction r with
 | nil=>rfl
 | cons h t a=>rw[Hr,Hr,a,h.1]
theorem KV.length{kvs:List (κ×V)}{vs:List (κ×Va)}(r:KV kvs vs):kvs.length=vs.length:=G9 r
end
def iW(r:RelV (kV k) u):(cR P w).is k u=true:=by
 cases k with
 | inl i=>obtain⟨t,e⟩:=(show ∃t,u=Value.int i t from r);subst e;exact EE P w i t
 | inr x=>obtain⟨t,e⟩:=(show ∃t,u=Value.str x t from r);subst e;exact qr P w x t
theorem n6{P:Vd}{w:Ve}:∀{ks:List Key} {us:List Va},Vals (ks.map kV) us->ItemsAre (cR P w) ks us
 | [],_,r=>by cases r;exact .nil
 | k::ks,_,r=>by
  cases r with
  | cons h t=>exact .cons (iW h) (n6 t)
abbrev KT(H:Hp):List (List Key×V)->List (List Key×Vb×Va)->Prop:=Paired λp q=>p.1=q.1/\H q.2.1=Vn (.tup (p.1.map kV))/\RelV p.2 q.2.2
def KT.val{xs:List (List Key×Vb×Va)}(r:KT H kvs xs)(k):fH (aX kvs k) ((atKey xs k).map (·.2)):=by
 induction r with
 | nil=>exact True.intro
 | @cons p q ps qs h t a=>
  obtain⟨h1,_,h2⟩:=h;by_cases e:p.1=k
  .have e':=h1.symm.trans e;have b:atKey (q::qs) k=Vn q.2:=by simp[atKey,JP,e']
   rw[fj e,b];exact h2
  .have e':¬q.1=k:=λz=>e (h1.trans z);have b:atKey (q::qs) k=atKey qs k:=by simp[atKey,JP,e']
   rw[eR e,b];exact a
def KT.repl{xs:List (List Key×Vb×Va)}(r:KT H kvs xs)(k)(a:RelV y u):
  KT H (kvs.map λkv=>if kv.1=k then(kv.1,y)else kv) (xs.map (putAt k u)):=by
 induction r with
 | nil=>exact .nil
 | @cons p q ps qs h t b=>
  rw[Hr,Hr];refine .cons ?_ b;obtain⟨h1,h2,c⟩:=h;unfold putAt;by_cases e:p.1=k
  .rw[G5 e,G5 (h1.symm.trans e)];exact⟨h1,h2,a⟩
  .rw[G0 e,G0 (λz=>e (h1.trans z))];exact⟨h1,h2,c⟩
def KT.put{xs:List (List Key×Vb×Va)}(r:KT H kvs xs)(k)(hb:H b=Vn (.tup (k.map kV)))(a:RelV y u):
  KT H (putK kvs k y) (storedH xs k b u):=by
 have e:(kvs.any λkv=>decide (kv.1=k))=(atKey xs k).isSome:=by rw[jE,(r.val k).isSome_eq,Kz]
 unfold putK storedH;rw[e];by_cases q:(atKey xs k).isSome=true
 .rw[G5 q,G5 q];exact r.repl k a
 .rw[G0 q,G0 q];exact IT r ⟨rfl,hb,a⟩
def KT.keeps{xs:List (List Key×Vb×Va)}(r:KT H kvs xs)(a:∀b ys,H b=Vn (.tup ys)->H' b=Vn (.tup ys)):KT H' kvs xs:=
 Paired.mapP r λ_ _ z=>⟨z.1,a _ _ z.2.1,z.2.2⟩
section
variable {P:Vd} {w:Ve} {H:Hp} {h:Vh} {a:Vb}
def mU{u:HO}(ok:bE P w H h)(e:Rd H a u):bI P w H h a u:=e.ok ok
def j1{kvs:List (Key×V)}(ok:bE P w H h)(e:Rd H a (.dK kvs)):kvs.length<=sizeLine/\(a == sysModules)=false/\∃vs,KV kvs vs/\h.DictOf (cR P w) a vs:=
 show bI P w H h a (.dK kvs)from mU ok e
def DK{kvs:List (Key×V)}(ok:bE P w H h)(e:H a=Vn (.dK kvs)):kvs.length<=sizeLine/\(a == sysModules)=false/\∃vs,KV kvs vs/\h.DictOf (cR P w) a vs:=j1 ok (.inl e)
def ju(ok:bE P w H h)(e:H a=Vn (.tup (ks.map kV))):(tupleKind (cR P w)).is h ks a:=by obtain⟨_,b,r,o,h1,h2,n,c⟩:=(show bI P w H h a (.tup (ks.map kV))from ok a _ e);exact⟨o,b.toArray,n,h1,h2,c,by simpa using n6 r⟩
def j3(ok:bE P w H h)(e:Rd H a (.dT kvs)):kvs.length<=sizeLine/\(a == sysModules)=false ∧
  ∃xs,KT H kvs xs/\h.DictOfH (tupleKind (cR P w)) a xs:=by
 obtain⟨z,y,xs,r,o,es,ep,h1,h2,d,f,g⟩:=(show bI P w H h a (.dT kvs)from mU ok e);refine⟨z,y,xs,r,o,es,ep,h1,h2,d,f,λx b=>?_,g⟩;have all:∀{l:List (List Key×V)} {m:List (List Key×Vb×Va)},KT H l m->∀x∈m,(tupleKind (cR P w)).is h x.1 x.2.1:=by
  intro l m q;induction q with
  | nil=>intro x b;exact nomatch b
  | @cons p q ps qs c t i=>
   intro x b;rcases Gh.mp b with e|b
   .subst e;exact ju ok (by rw[<-c.1];exact c.2.1)
   .exact i x b
 exact all r x b
def sN(ok:bE P w H h)(e:H a=Vn (.dT kvs)):kvs.length<=sizeLine/\(a == sysModules)=false ∧
  ∃xs,KT H kvs xs/\h.DictOfH (tupleKind (cR P w)) a xs:=j3 ok (.inl e)
end
def bC(H:Hp)(a:Vb)(y:V)(r:Option V):Prop:=
 (∃kvs k,Rd H a (.dK kvs)/\y=kV k/\r=aX kvs k)\/∃kvs k b,Rd H a (.dT kvs)/\y=.ref b/\H b=Vn (.tup (k.map kV))/\r=aX kvs k
def dz(H:Hp)(a:Vb)(y v:V)(H':Hp):Prop:=
 (∃kvs k,H a=Vn (.dK kvs)/\y=kV k/\kvs.length<sizeLine/\H'=upd H a (.dK (putK kvs k v))) ∨
 ∃kvs k b,H a=Vn (.dT kvs)/\y=.ref b/\H b=Vn (.tup (k.map kV))/\kvs.length<sizeLine/\H'=upd H a (.dT (putK kvs k v))
theorem bC.k{H:Hp}{a:Vb}{kvs:List (Key×V)}{k:Key}(e:H a=Vn (.dK kvs)):bC H a (kV k) (aX kvs k):=.inl ⟨kvs,k,.inl e,rfl,rfl⟩
def bC.t{k:List Key}(e:H a=Vn (.dT kvs))(c:H b=Vn (.tup (k.map kV))):bC H a (.ref b) (aX kvs k):=.inr ⟨kvs,k,b,.inl e,rfl,c,rfl⟩
theorem dz.k{H:Hp}{a:Vb}{kvs:List (Key×V)}{k:Key}{v:V}(e:H a=Vn (.dK kvs))(b:kvs.length<sizeLine):dz H a (kV k) v (upd H a (.dK (putK kvs k v))):=.inl ⟨kvs,k,e,rfl,b,rfl⟩
def dz.t{k:List Key}(e:H a=Vn (.dT kvs))(c:H b=Vn (.tup (k.map kV)))(d:kvs.length<sizeLine):
  dz H a (.ref b) v (upd H a (.dT (putK kvs k v))):=.inr ⟨kvs,k,b,e,rfl,c,d,rfl⟩
section
variable {X:Cx} {pins:List (Vb×Obj)} {σ:St} {H:Hp} {s:Vc} {a:Vb} {y v:V} {u r:Va} {o:Option V} {A:Vi} {E:Va->Vc->Prop}
def Inv.big(I:Inv X pins σ H s):sysModules<s.heap.objs.size:=by have h:Vj<s.heap.objs.size:=(I.mod.glob.keeps I.bk).lt;exact MZ (by decide) h
def Aj(n:A.units+1<cLine)(I:Inv X pins σ H s)(g:bC H a y (Vn v))(m:RelV y u)(h:∀d s',Inv X pins σ H s'->RelV v d->Q d s'):
  Vf (Vg X.prog X.w) A (getItem (.ref a) u) Q E s:=by
 rcases g with⟨kvs,k,e,f,l⟩|⟨kvs,k,b,e,f,q,l⟩
 .subst f;obtain⟨z,hd,vs,rel,dd⟩:=j1 I.hok e;obtain⟨d,i,c⟩:=fH.some_of (v:=v) (o:=valueAt vs k) (by rw[l];exact rel.val k);exact wpAny_getItem_of (iW m) dd.mapOf i (h d _ (I.tok _) c)
 .subst f;cases(m);obtain⟨z,hd,xs,rel,dd⟩:=j3 I.hok e;obtain⟨d,i,c⟩:=fH.some_of (v:=v) (o:=(atKey xs k).map (·.2)) (by rw[l];exact rel.val k);obtain⟨p,r,j⟩:=Ge.mp i;refine wpAny_getItem_heap (tupleKind_room_in1 n) (ju I.hok q) dd r ?_;rw[j];exact h d _ (I.tok _) c
def Df(f:A.units+1<cLine)(I:Inv X pins σ H s)(g:bC H a y o)(d:RelV y u)(h:∀s',Inv X pins σ H s'->Q (.bool o.isSome) s'):
  Vf (Vg X.prog X.w) A (compareOp .In u (.ref a)) Q E s:=by
 rcases g with⟨kvs,k,e,c,l⟩|⟨kvs,k,b,e,c,i,l⟩
 .subst c;obtain⟨z,hd,vs,rel,dd⟩:=j1 I.hok e;refine wpAny_in_of (iW d) hd dd.mapOf ?_;rw[<-(rel.val k).isSome_eq,<-l];exact h _ (I.tok _)
 .subst c;cases(d);obtain⟨z,hd,xs,rel,dd⟩:=j3 I.hok e;refine wpAny_in_heap (tupleKind_room_in1 f) (ju I.hok i) hd dd ?_;have q:=(rel.val k).isSome_eq;rw[Kz]at q;rw[<-q,<-l];exact h _ (I.tok _)
def Bf(f:A.units+1<cLine)(I:Inv X pins σ H s)(g:bC H a y o)(d:RelV y u)(h:∀s',Inv X pins σ H s'->Q (.bool (!o.isSome)) s'):
  Vf (Vg X.prog X.w) A (compareOp .NotIn u (.ref a)) Q E s:=by
 rcases g with⟨kvs,k,e,c,l⟩|⟨kvs,k,b,e,c,i,l⟩
 .subst c;obtain⟨z,hd,vs,rel,dd⟩:=j1 I.hok e;refine wpAny_notIn_of (iW d) hd dd.mapOf ?_;rw[<-(rel.val k).isSome_eq,<-l];exact h _ (I.tok _)
 .subst c;cases(d);obtain⟨z,hd,xs,rel,dd⟩:=j3 I.hok e;refine wpAny_notIn_heap (tupleKind_room_in1 f) (ju I.hok i) hd dd ?_;have q:=(rel.val k).isSome_eq;rw[Kz]at q;rw[<-q,<-l];exact h _ (I.tok _)
def mC{c:HO}(I:Inv X pins σ H s)(d:kz (H a))(hs:Ip a s.heap h')(f:∃q,h'.get? a=Vn q)(new:bI X.prog X.w (upd H a c) h' a c):
  Inv X pins σ (upd H a c) { s with heap:=h',toks:=t' }:=
 I.write d (.inl rfl) (λb q hb z=>(hs.2 b hb).trans z) f new
def DP{kvs:List (Key×V)}(z:kvs.length<=sizeLine)(hd:(a == sysModules)=false)(rel:KV kvs vs)(dd:h'.DictOf (cR P w) a vs):
  bI P w H' h' a (.dK kvs):=⟨z,hd,vs,rel,dd⟩
theorem zN{Q:Unit->Vc->Prop}(C:A.units+1<cLine)(I:Inv X pins σ H s)(g:dz H a y v H')(o:RelV y u)(p:RelV v r)(h:∀s',Inv X pins σ H' s'->Q () s'):
  Vf (Vg X.prog X.w) A (setItem (.ref a) u r) Q E s:=by
 rcases g with⟨kvs,k,e,i,l,j⟩|⟨kvs,k,b,e,i,x,l,j⟩
 .subst i j;obtain⟨z,hd,vs,rel,dd⟩:=DK I.hok e;have m:vs.length<=sizeLine:=by rw[<-rel.length];exact z
  have n:(putK kvs k v).length<=sizeLine:=by have:=kH kvs k v;lia
  refine wpAny_setItem_pairs (iW o) dd λh' d hs=>h _ ?_;have F:∃q,h'.get? a=Vn q:=let ⟨q,_,_,f,_⟩:=d;⟨q,f⟩;exact mC I (by rw[e];exact True.intro) hs F (DP n hd (rel.put k p) d)
 .subst i j;cases(show u=Value.ref b from o);obtain⟨z,hd,xs,rel,dd⟩:=sN I.hok e;have m:xs.length<=sizeLine:=by rw[<-G9 rel];exact z
  have n:(putK kvs k v).length<=sizeLine:=by have:=kH kvs k v;lia
  refine wpAny_setItem_heap (hsz:=m) (tupleKind_room_in1 C) (ju I.hok x) dd λh' d hs=>h _ ?_;obtain⟨q,es,ep,f,h2,G,J,_,L⟩:=d;refine mC I (by rw[e];exact True.intro) hs ⟨q,f⟩ ⟨n,hd,_,(rel.put k x p).keeps λc ys B=>?_,q,es,ep,f,h2,G,J,L⟩;rw[aA (bA B e (λz=>nomatch z))];exact B
end
def oo(i:Vk):Prop:=∀a b,subscripted i false a b=operate [a,b] (getItem a b)
def yG{id:String}
  (j:typeLookup (.type T) "__getitem__" = pure (Vn (.builtin id))) (hs:oo slice)
  (h:Vf (Vg prog w) A (eval value env) (λo c=>Vf (Vg prog w) A (eval slice env) (λi a=>a.TypeIs o T/\Vf (Vg prog w) A (getItem o i) Q E a) E c) E s) :
  Vf (Vg prog w) A (eval (.Subscript value slice pos) env) Q E s:=by
 refine Subscript_ (wpAny_mono h (λo c e=>wpAny_mono e (λi a b=>?_) λ_ _ x=>x) λ_ _ x=>x);obtain⟨g,b⟩:=b;refine FV ?_;refine FV (wpAny_specialOf g j ?_);have fin:Vf (Vg prog w) A (subscripted slice false o i) (λr d=>Vf (Vg prog w) A (letTemporaryGo value o r >>= λ_=>pure r) Q E d) E a:=by rw[hs o i];exact wpAny_operating (wpAny_mono b (λr d f=>FV (wpAny_letTemporaryGo (FW f))) λ_ _ x=>x)
 first
  | exact FW (FV fin)
  | exact FV (FW (FV fin))
  | exact FV fin
def EW{o:Option V}(I:Inv X pins σ H s)(g:bC H a y o):s.TypeIs (.ref a) "dict":=by
 rcases g with⟨kvs,k,e,_,_⟩|⟨kvs,k,b,e,_,_,_⟩
 .obtain⟨_,_,vs,_,dd⟩:=j1 I.hok e;exact dd.typeIs
 .obtain⟨_,_,xs,_,dd⟩:=j3 I.hok e;exact dd.typeIs
def vy(td ty:TE):TE:=λσ H Q=>td σ H λx H1=>ty σ H1 λy H2=>∃a v,x=.ref a/\bC H2 a y (Vn v)/\Q v H2
def q9(ty td:TE):TE:=λσ H Q=>ty σ H λy H1=>td σ H1 λx H2=>∃a o,x=.ref a/\bC H2 a y o/\Q (.bl o.isSome) H2
def u4(ty td:TE):TE:=λσ H Q=>ty σ H λy H1=>td σ H1 λx H2=>∃a o,x=.ref a/\bC H2 a y o/\Q (.bl (!o.isSome)) H2
def xj(td ty tv:TE):TS:=λD σ H=>tv σ H λv H1=>td σ H1 λx H2=>ty σ H2 λy c=>∃a b,x=.ref a/\dz c a y v b/\D.nx σ b
section
variable {X:Cx} {o i e value:Vk} {pos pos' tpos:Pos} {td ty tv:TE}
def c7(d:X.A.units+1<cLine)(ho:PE X o td)(hi:PE X i ty)(hs:oo i):PE X (.Subscript o i pos) (vy td ty):=by intro pins s σ H Q I h;refine yG Kv.lookup hs (aJ (ho pins s σ H _ I h) λu s1 ⟨x,H1,e,f,j⟩=>aJ (hi pins s1 σ H1 _ e j) λp s2 ⟨y,H2,c,l,a,v,ex,g,m⟩=>?_);subst ex;obtain rfl:u=Value.ref a:=f;exact⟨EW c g,Aj d c g l λq r n b=>⟨v,H2,n,b,m⟩⟩
def Cv(b:X.A.units+1<cLine)(hi:PE X i ty)(ho:PE X o td):PC X .In i o (q9 ty td):=by intro pins s σ H Q I h;refine aJ (hi pins s σ H _ I h) λp s1 ⟨y,H1,c,d,e⟩=>aJ (ho pins s1 σ H1 _ c e) λu s2 ⟨x,H2,f,j,a,l,ex,g,m⟩=>?_;subst ex;obtain rfl:u=Value.ref a:=j;exact Df b f g d λq n=>⟨.bl l.isSome,H2,n,rfl,m⟩
def iQ(b:X.A.units+1<cLine)(hi:PE X i ty)(ho:PE X o td):PC X .NotIn i o (u4 ty td):=by intro pins s σ H Q I h;refine aJ (hi pins s σ H _ I h) λp s1 ⟨y,H1,c,d,e⟩=>aJ (ho pins s1 σ H1 _ c e) λu s2 ⟨x,H2,f,j,a,l,ex,g,m⟩=>?_;subst ex;obtain rfl:u=Value.ref a:=j;exact Bf b f g d λq n=>⟨.bl (!l.isSome),H2,n,rfl,m⟩
def gE(b:X.A.units+1<cLine)(ho:PE X o td)(hi:PE X i ty)(c:PE X value tv)(hs:swapsWith value (Vn (.Subscript o i pos')) pos.line X.env=pure false):
  PS X (.Assign [.Subscript o i pos'] value pos) (xj td ty tv):=by
 intro pins s σ H D I h;refine wpAny_Assign_Subscript (aJ (c pins s σ H _ I h) λr s1 ⟨v,H1,d,e,f⟩=>aJ (ho pins s1 σ H1 _ d f) λu s2 ⟨x,H2,j,l,m⟩=>aJ (hi pins s2 σ H2 _ j m) λB C ⟨y,E,n,p,a,q,ex,g,w⟩=>?_) hs;subst ex;obtain rfl:u=Value.ref a:=l;exact zN b n g p e λF z=>⟨σ,q,z,w⟩
end
def D2(h:Vh)(hb:sysModules<h.objs.size):bI P w H (h.push { cls:=.type "dict",data:=.dict #[] }) h.objs.size (.dK []):=
 ⟨HM _,beq_eq_false_iff_ne.mpr (HQ (Gm hb)),[],.nil,Heap.DictOf.new h⟩
def uE(h:Vh)(hb:sysModules<h.objs.size):bI P w H (h.push { cls:=.type "dict",data:=.dict #[] }) h.objs.size (.dT []):=
 ⟨HM _,beq_eq_false_iff_ne.mpr (HQ (Gm hb)),[],.nil,_,#[],0,FZ _ rfl,⟨rfl,rfl,rfl⟩,rfl,rfl,IF⟩
def Fm:TE:=λ_ H Q=>∀p,H p=Vo->Q (.ref p) (upd H p (.dK []))
def EK:TE:=λ_ H Q=>∀p,H p=Vo->Q (.ref p) (upd H p (.dT []))
section
variable {X:Cx} {pos:Pos}
def yJ:PE X (.Dict [] [] pos) Fm:=λpins s σ H Q I h=>
 wpAny_Dict_empty ⟨.ref s.heap.objs.size,_,I.laid (λ_ _ q=>FY _ q) (Gn _) (D2 s.heap I.big),rfl,h _ (I.hok.fresh (Gn _))⟩
def kX:PE X (.Dict [] [] pos) EK:=λpins s σ H Q I h=>
 wpAny_Dict_empty ⟨.ref s.heap.objs.size,_,I.laid (λ_ _ q=>FY _ q) (Gn _) (uE s.heap I.big),rfl,h _ (I.hok.fresh (Gn _))⟩
end
end L2
namespace Tb
open PySem
end Tb
namespace Tb
open PySem
end Tb
namespace L2
open PySem PySem.Spec PyProof.Rows
namespace SF
end SF
end L2
namespace PyProof.Rows
open PySem
end PyProof.Rows
namespace L2
open PySem PySem.Spec PyProof.Rows
section
variable {X:Cx} {pins:List (Vb×Obj)} {σ:St} {H:Hp} {s:Vc}
def Inv.turnedNew{L:List Vb}{o:HO}(I:Inv X pins σ H s)(k:∀b u,b∉L->s.heap.get? b=Vn u->h'.get? b=Vn u)(f:∀b∈L,cC X pins H b)
  (new:bI X.prog X.w (upd H s.heap.objs.size o) h' s.heap.objs.size o):Inv X pins σ (upd H s.heap.objs.size o) { s with heap:=h',toks:=t' }:=by
 have d:H s.heap.objs.size=Vo:=I.hok.fresh (Gn _);have nin:∀b u,H b=Vn u->b∉L:=λb u e z=>by rw[(f b z).1]at e;cases e
 have up:∀b u,H b=Vn u->upd H s.heap.objs.size o b=Vn u:=λb u e=>by rw[aA (cx e d)];exact e
 refine I.step (λb hb=>?_) (λb u _ _ a e _=>k b u a e) (λb u _ _ a e _=>⟨u.slots,k b u a e⟩) (λb u _ e n=>?_) (λb u a e=>⟨u,k b u a e⟩) (λb xs e=>up b _ e) (λb u v e=>up b _ e) (λb ps e=>⟨#[],by rw[up b _ e];simp⟩) (λm g=>?_) (λb u e=>?_) I.bare
 .obtain⟨x,h,y,i,j,l⟩:=f b hb;exact⟨i,h,j,l⟩
 .rw[aA (Gm (F0 e))];exact n
 .obtain⟨u,es,ep,p,r⟩:=g;exact⟨u,es,ep,k _ u (λz=>(f _ z).2.1 rfl) p,r⟩
 .by_cases hb:b=s.heap.objs.size
  .subst hb;rw[aE]at e;cases e;exact new
  .rw[aA hb]at e;refine(I.hok b u e).stay (λc v a q=>k c v ?_ q) (λc q=>up c _ q) λc xs q=>up c _ q;rcases a with z|z
   .rw[z];exact nin b u e
   .exact nin c _ z
end
def CH(hA:A.handled=Vo)(it t)(ne:t≠it)(ys):Draws P w A it [it,t] ys.size (λi v=>ys[i]?=Vn v) (λi h=>h.IsTupleIter it t i/\h.IsTuple t ys) where
 live:=λi h st=>by obtain⟨⟨o,ho,_⟩,_⟩:=st;exact⟨o,ho⟩
 frame:=λi h h' st k=>by obtain⟨⟨o,ho,r⟩,⟨u,a,q⟩⟩:=st;exact⟨⟨o,k it (by simp) o ho,r⟩,⟨u,k t (by simp) u a,q⟩⟩
 item:=λi s Q E hi st c=>yw st.1 st.2 (x:=ys[i]) (by simp[hi]) λh' d b=>c _ h' s.toks (by simp[hi]) ⟨d,by obtain⟨u,a,q⟩:=st.2;exact⟨u,(b.2 t ne).trans a,q⟩⟩ b
 done:=λs Q E st e=>mV hA st.1 st.2 (by simp) e
abbrev lV(h:Vh)(a:Vb):Vh:=h.push { cls:=.type "tuple_iterator",data:=.fields #[.ref a,.int 0 0] }
abbrev oB(h:Vh)(a:Vb):Vh:=(lV h a).push { cls:=.type "enumerate",data:=.fields #[.none,.bool false,.ref h.objs.size,rawInt 0,.none,.none] }
open AutoSeq1 (wpAny_loadPart')in
def B5(a:Vb)(ys:Array Va)(h:Obj):Meets (Builtin.«enumerate.__new__» ⟨[.type "enumerate",.ref a],[]⟩) (λ_ R s=>s.heap.get? a=Vn h/\s.heap.IsTuple a ys/\R (.ok (.ret (.ref (lV s.heap a).objs.size))) { s with heap:=oB s.heap a }):=
 .of_wp λprog w A R s q=>by
  obtain⟨i,g,d,tk,os⟩:=s;obtain⟨ga,gt,q⟩:=q;have b:=sub_enumerate;obtain⟨o,go,e,n,gd⟩:=id gt;obtain⟨j,l,m,sl⟩:=o;simp only at e gd;subst e gd;have f:MY (Lq ⟨i,g,d,tk,os⟩) a ys:=gt
  wp_walk using wpAny_loadPart' go
  refine wpAny_stack_any λst=>FW ?_;split
  .rename_i c _ _ _ _ _;cases(c == Value.type "enumerate")<;>(wp_walk using wpAny_loadPart' go,wpAny_pyIter_tuple f;exact⟨_,rfl,q⟩)
  .wp_walk using wpAny_loadPart' go,wpAny_pyIter_tuple f
   exact⟨_,rfl,q⟩
def E1(gt:s.heap.IsTuple a ys)
  (q:∀h',IsEnum h' (s.heap.objs.size+1) s.heap.objs.size 0 .none->h'.IsTupleIter s.heap.objs.size a 0->(∀c o,s.heap.get? c=Vn o->h'.get? c=Vn o)->Q (.ref (s.heap.objs.size+1)) { s with heap:=h' }) :
  Vf (Vg prog w) A (call (.type "enumerate") [.ref a]) Q E s:=by
 obtain⟨o,go,r⟩:=id gt;refine callType_new F.called_enumerate (by decide) (LL _) (Lc _) (λb=>F.args_object_init_2 b _) Ld (B5 a ys o) ⟨go,gt,?_⟩;have d:(lV s.heap a).objs.size=s.heap.objs.size+1:=Hh ..;have k2:(oB s.heap a).get? (lV s.heap a).objs.size=Vn _:=FZ _ rfl;have k1:(oB s.heap a).get? s.heap.objs.size=Vn _:=FY _ (FZ _ rfl);rw[d]at k2 ⊢;exact⟨⟨_,k2,rfl⟩,q _ k2 ⟨_,k1,rfl,rfl⟩ λc o x=>FY _ (FY _ x)⟩
def iY(K:FX)(a:Vb):It:=⟨(dA K a).go,λi H x H'=>∃p v,x=.ref p/\H p=Vo/\H'=upd H p (.tup [.int i,v])/\(dA K a).yld i H v H,(dA K a).stop⟩
theorem BI{K:FX}{ps:Pos}(a e it)(ne:e≠it):Turn P w K (.Tuple elts kk ps) (iY K a) [e,it] e (λi h=>(∃old,IsEnum h e it i old)/\h.IsTupleIter it a i) where
 mem:=by simp
 obj:=λi h st b hb=>by
  obtain⟨⟨old,ge⟩,o,go,gc,gd⟩:=st;rcases Gh.mp hb with rfl|hb
  .exact⟨_,ge,λv z=>by cases(z)⟩
  .cases Gb.mp hb;exact⟨o,go,λv z=>by rw[gd]at z;cases z⟩
 keep:=λi h h' st k=>by obtain⟨⟨old,ge⟩,f⟩:=st;exact⟨⟨old,k e (by simp) _ ge⟩,f.at λo z=>k it (by simp) o z⟩
 item:=by
  intro X m n r B i pins s σ H E I g st C;subst m n r;obtain⟨⟨old,ge⟩,f⟩:=st;obtain⟨xs,x,j,G⟩:=C;obtain⟨c,J,p,Y⟩:=I.tuple j;obtain⟨u,W,Z⟩:=J.get G;have hi:i<c.toArray.size:=by have:=(F9.mp W).1;simpa using this
  have hA:X.A.in1.handled=Vo:=I.ok.hd B;have M:a≠it:=λz=>by obtain⟨o,ho,hcl,_⟩:=p;obtain⟨o',N,d,_⟩:=f;rw[z,N]at ho;cases ho;rw[hcl]at d;exact absurd (Km d) (by decide)
  have O:e∉[it,a]:=λz=>by
   rcases Gh.mp z with z|z
   .exact ne z
   .cases Gb.mp z;obtain⟨o,ho,hcl,_⟩:=p;rw[ge]at ho;cases ho;exact absurd (Km hcl) (by decide)
  refine wpAny_pyNext_enum_itemD (CH hA it a M c.toArray) ge ⟨f,show s.heap.IsTuple a c.toArray from p⟩ hi ne O λy h' tk hy Q gs l gz gk=>⟨_,rfl,?_⟩;have ey:y=u:=by
   have:c[i]?=Vn y:=by simpa using hy
   rw[W]at this;exact(GK this).symm
  subst ey;have lt:∀b∈[e,it],b≠s.heap.objs.size:=λb hb=>by
   rcases Gh.mp hb with rfl|hb
   .exact Gm (F0 ge)
   .cases Gb.mp hb;obtain⟨o,ho,_⟩:=f;exact Gm (F0 ho)
  have I1:Inv X pins σ (upd H s.heap.objs.size (.tup [.int i,x])) { s with heap:=h',toks:=tk+1 }:=
   Inv.turnedNew (L:=[e,it]) I (λb o hb z=>gk b o (λq=>hb (by simp[q])) (λq=>hb (by simp[q])) z) g ⟨by show 2<=sizeLine;decide,[.int i tk,y],.cons ⟨tk,rfl⟩ (.cons Z .nil),⟨_,l,rfl,_,rfl⟩⟩
  have fe:cC X pins (upd H s.heap.objs.size (.tup [.int i,x])) e:=by obtain⟨c0,c1,c2,c3,c4,c5⟩:=g e (by simp);exact⟨by rw[aA (lt e (by simp))];exact c0,c1,c2,c3,c4,c5⟩
  refine wpAny_letOwnedTupleGo_enum (s:={ s with heap:=h',toks:=tk+1 }) Q λk R bk=>?_;refine⟨.ref s.heap.objs.size,upd H s.heap.objs.size (.tup [.int i,x]),Inv.same (s:={ s with heap:=h',toks:=tk+1 }) (k:=h') I1 fe bk.extBut,rfl,⟨_,x,rfl,I.hok.fresh (Gn _),rfl,rfl,λzs hzs=>by rw[I.tuple_inj hzs j];exact G⟩,⟨⟨y,by simpa using R⟩,gs.1.at λo z=>bk.extBut it o (HQ ne) z⟩,λb hb=>?_⟩;rw[aA (lt b hb)];exact(g b hb).1
 done:=by intro X m n r B i pins s σ H E I g st C;subst m n r;obtain⟨⟨old,ge⟩,f⟩:=st;obtain⟨xs,j,G⟩:=C;obtain⟨c,J,p,Y⟩:=I.tuple j;have hA:X.A.in1.handled=Vo:=I.ok.hd B;have l:s.TypeIs (.ref e) "enumerate":=⟨_,ge,rfl⟩;have hl:=J.length;unfold pyNext;refine FV (wpAny_attempt (GW (name:=GJ "__next__") l JU (wpAny_call_entry JU l LM ?_ (LA _))));show Vf _ _ (field (Value.ref e) 2 >>= _) _ _ _;refine FV (wpAny_field ge rfl (x:=Value.ref it) rfl ?_);refine FV (mV hA f (show s.heap.IsTuple a c.toArray from p) (by simp;lia) λh' x he S=>?_);obtain⟨o,ho,U⟩:=S;refine FV (wpAny_isInstance (s:={ s with heap:=h' }) (T:="StopIteration") (b:=true) ⟨o,ho,U⟩ isSubtype_stop ?_);exact FW ⟨rfl,Inv.same (k:=s.heap) I (g it (by simp)) he⟩
 self:=λ_ _ _ _ _ st h=>by obtain⟨⟨old,ge⟩,_⟩:=st;exact wpAny_pyIter_enum ge h
section
variable {K:FX} {σ:St} {H:Hp} {Q:VK}
def qc(K:FX):List V->Hp->(It->Hp->Prop)->Prop:=λvs H R=>∃a xs,vs=[.ref a]/\ax K H a xs/\R (iY K a) H
def uS(K:FX)(ta:TA):TI:=λσ H R=>ta σ H λvs H1=>qc K vs H1 R
theorem rC{ps:Pos}(K:FX){a:Vk}{ta:TA}{p pos:Pos}(f:Gl X "enumerate")(g:X.mg "enumerate" = Vo)(ha:PA X [a] ta)(i:X.K=K:=by rfl)(hs:starEach [a] X.env=[(false,eval a X.env)]:=by rfl):
  PI X (.Tuple elts kk ps) (.Call (.Name "enumerate" p) [a] [] pos) (uS K ta):=by
 subst i;intro pins s σ H R I h;refine Call_ (fu I f g Kg (Hg (aJ (ha pos pins s σ H _ I h) λus s1 ⟨vs,H1,c,r1,j⟩=>?_) (by rw[hs];rfl) rfl));obtain⟨l,xs,e,m,q⟩:=j;subst e;obtain⟨u,rfl,n⟩:=vals1 r1;cases n;obtain⟨d,_,p1,_⟩:=c.tuple m;refine E1 (p1) λh' ge o k=>?_;refine wpAny_pyIter_enum ge ?_;refine⟨s1.heap.objs.size+1,[s1.heap.objs.size+1,s1.heap.objs.size],_,_,H1,rfl,c.kept k,BI l (s1.heap.objs.size+1) s1.heap.objs.size (λz=>by have r:@Eq Nat _ _:=z;lia),⟨⟨_,ge⟩,o⟩,λb hb=>?_,q⟩;have le:@LE.le Nat _ s1.heap.objs.size b:=by
  rcases Gh.mp hb with rfl|hb
  .exact Ib _ _
  .cases Gb.mp hb;exact Gn _
 exact c.fpOk le (c.hok.fresh le)
def rd_enum{a:TA}(h:a σ H λvs H1=>qc K vs H1 R):uS K a σ H R:=h
def sX(ha:ax K H a xs)(h:R (iY K a) H):qc K [.ref a] H R:=⟨a,xs,rfl,ha,h⟩
theorem Be{tb:TS}{D:Ends}(Pv:Nat->St->Hp->Prop)(j:Pv 0 σ H)(l:∀i σ H,i<=xs.length->Pv i σ H->ax K H a xs)
  (hs:∀i u σ H p H',xs[i]?=Vn u->Pv i σ H->Ext H H'->H' p=Vn (.tup [.int i,u])->H p=Vo->g (.ref p) σ H' λb H2=>tb { D with nx:=Pv (i+1),ct:=Pv (i+1),bk:=D.nx } b H2) (hd:∀σ H,Pv xs.length σ H->D.nx σ H) :
  ∃W:Nat->Nat->St->Hp->Prop,(∃m,W 0 m σ H)/\∀i m σ H,W i m σ H ->
   ((iY K a).stop i H/\D.nx σ H)\/((iY K a).go i H/\∃N,(∀c H',N c H'->∃f,f<m/\W (i+1) f c H')/\∀x H',(iY K a).yld i H x H'->g x σ H' λb H2=>tb { D with nx:=N,ct:=N,bk:=D.nx } b H2):=by
 refine⟨λi m σ H=>m=xs.length-i/\i<=xs.length/\Pv i σ H,⟨xs.length,by simp,HM _,j⟩,?_⟩;rintro i m σ H ⟨rfl,hi,p⟩;have d:=l i σ H hi p;by_cases hlt:i<xs.length
 .refine .inr ⟨⟨xs,xs[i],d,by simp[hlt]⟩,Pv (i+1),λc H' n=>⟨xs.length-(i+1),by lia,rfl,hlt,n⟩,λx H' y=>?_⟩;obtain⟨pp,u,rfl,h,rfl,o⟩:=y;exact hs i u σ H pp _ (o.2 xs d) p (bh h) aE h
 .have e:i=xs.length:=by lia
  subst e;exact .inl ⟨⟨xs,d,Gn _⟩,hd σ H p⟩
end
section
variable {X:Cx}
def om(neg:Bool):R2:=λx y H Q=>∃n p xs d ds,bo H n x d/\y=.ref p/\H p=Vn (.lst xs)/\Paired (bo H n) xs ds/\n<=50/\Q (.bl (if neg then !(ds.any λe=>IB e d)else ds.any λe=>IB e d)) H
theorem FT(c:Room k X.A):bS X (compareOp .In) (om false):=by intro pins s σ H x y v u Q I e f h;obtain⟨n,p,xs,d,ds,h1,rfl,h2,a,g,q⟩:=h;have i:bo H (n+1) (.ref p) (.list ds):=.inr ⟨p,xs,ds,rfl,.inr ⟨h2,rfl⟩,a⟩;obtain⟨as,j⟩:=bo.reads I n h1 e;obtain⟨bs,l⟩:=bo.reads I (n+1) i f;have b:=bo.lay n h1;have m:=jW (λ{x d}=>bo.lay (H:=H) n) a;have o:=c.units;exact SeqAt.in_list_reads l j m.1 b.1 (by lia) ⟨.bl _,H,I,rfl,q⟩
theorem tO(c:Room k X.A):bS X (compareOp .NotIn) (om true):=by intro pins s σ H x y v u Q I e f h;obtain⟨n,p,xs,d,ds,h1,rfl,h2,a,g,q⟩:=h;have i:bo H (n+1) (.ref p) (.list ds):=.inr ⟨p,xs,ds,rfl,.inr ⟨h2,rfl⟩,a⟩;obtain⟨as,j⟩:=bo.reads I n h1 e;obtain⟨bs,l⟩:=bo.reads I (n+1) i f;have b:=bo.lay n h1;have m:=jW (λ{x d}=>bo.lay (H:=H) n) a;have o:=c.units;exact SeqAt.notIn_list_reads l j m.1 b.1 (by lia) ⟨.bl _,H,I,rfl,q⟩
def yp{d:PyData}{Q:VK}(h1:bo H n x d)(h2:H p=Vn (.lst xs))(a:Paired (bo H n) xs ds)(b:n<=50)(q:Q (.bl (if neg then !(ds.any λe=>IB e d)else ds.any λe=>IB e d)) H):om neg x (.ref p) H Q:=
 ⟨n,p,xs,d,ds,h1,rfl,h2,a,b,q⟩
end
abbrev Row3:=Vm×Tok×Va
def l6(w:Ve)(e:Row3):DictEntry:=⟨PyData.keyHash w.params e.1,.str e.1 e.2.1,e.2.2⟩
def jy(w:Ve)(l:List Row3)(ep:Nat):Obj:={ cls:=.type "dict",dict:=Vo,data:=.dict (l.map (l6 w)).toArray ep,slots:=#[] }
structure GDict(w:Ve)(K:FX)(a:Vb)(kvs:List (Key×V)):Prop where
 has:∃l ep,K.lookup a=Vn (jy w l ep)/\KV kvs (l.map λe=>((Sum.inr e.1:Key),e.2.2))
 nd:(kvs.map (·.1)).Nodup
 sm:(a == sysModules)=false
theorem rJ{P:Vd}{w:Ve}:∀l:List Row3,Pairs (cR P w) (l.map (l6 w)) (l.map λe=>((Sum.inr e.1:Key),e.2.2))
 | []=>.nil
 | e::l=>.cons (qr P w e.1 e.2.1) rfl (rJ l)
def DD(l:List Row3):KeysOf (cR P w) (l.map (l6 w)).toArray:=λe b=>by
 have a:e∈l.map (l6 w):=by simpa using b
 obtain⟨x,_,rfl⟩:=G6.mp a;exact⟨.inr x.1,qr P w x.1 x.2.1,rfl⟩
def GDict.at{kvs:List (Key×V)}(D:GDict X.w X.K a kvs)(I:Inv X pins σ H s):∃vs,KV kvs vs/\s.heap.DictOf (cR X.prog X.w) a vs:=by obtain⟨l,ep,b,r⟩:=D.has;refine⟨_,r,jy X.w l ep,_,ep,I.kIn _ _ b,⟨rfl,rfl,rfl⟩,rfl,DD l,rJ l,?_⟩;rw[<-r.keys];exact D.nd
section
variable {X:Cx} {x:Vm} {a:Vb} {kvs:List (Key×V)} {i:Vk} {ty:TE} {p pos:Pos}
def uV(kvs:List (Key×V))(ty:TE):TE:=λσ H Q=>ty σ H λy H1=>∃k v,y=kV k/\aX kvs k=Vn v/\Q v H1
def wa(neg:Bool)(kvs:List (Key×V))(ty:TE):TE:=λσ H Q=>ty σ H λy H1=>∃k,y=kV k/\Q (.bl (if neg then !(aX kvs k).isSome else(aX kvs k).isSome)) H1
def Es(d:Gl X x)(e:X.mg x=some (.ref a))(D:GDict X.w X.K a kvs)(hi:PE X i ty)(hs:oo i)(hd:(x == ("__debug__":Vm))=false:=by decide):PE X (.Subscript (.Name x p) i pos) (uV kvs ty):=by intro pins s σ H Q I h;refine yG Kv.lookup hs (j4 I d e (aJ (hi pins s σ H _ I h) λm s2 ⟨y,H2,c,f,k,v,g,j,q⟩=>?_) hd);subst g;obtain⟨vs,rel,dd⟩:=D.at c;obtain⟨n,l,b⟩:=fH.some_of (v:=v) (o:=valueAt vs k) (by rw[<-j];exact rel.val k);exact⟨dd.typeIs,wpAny_getItem_of (iW f) dd.mapOf l ⟨v,H2,c.tok _,b,q⟩⟩
def CF(c:Gl X x)(d:X.mg x=some (.ref a))(D:GDict X.w X.K a kvs)(hi:PE X i ty)(hd:(x == ("__debug__":Vm))=false:=by decide):PC X .In i (.Name x p) (wa false kvs ty):=by intro pins s σ H Q I h;refine aJ (hi pins s σ H _ I h) λg s1 ⟨y,H1,b,e,k,f,q⟩=>j4 b c d ?_ hd;subst f;obtain⟨vs,rel,dd⟩:=D.at b;refine wpAny_in_of (iW e) D.sm dd.mapOf ?_;rw[<-(rel.val k).isSome_eq];exact⟨.bl (aX kvs k).isSome,H1,b.tok _,rfl,q⟩
def rd_gget{Q:VK}(h:ty σ H λy H1=>∃k v,y=kV k/\aX kvs k=Vn v/\Q v H1):uV kvs ty σ H Q:=h
def rd_gin{Q:VK}(h:ty σ H λy H1=>∃k,y=kV k/\Q (.bl (if neg then !(aX kvs k).isSome else(aX kvs k).isSome)) H1):wa neg kvs ty σ H Q:=h
def BG{R:V->Prop}(a:aX kvs (.inr z)=Vn v)(h:R v):∃k v,V.str z=kV k/\aX kvs k=Vn v/\R v:=⟨.inr z,v,rfl,a,h⟩
def wN:R2:=λx y H Q=>∃a b,x=.str a/\y=.str b/\Q (.bl (!decide (b.cps.toList<a.cps.toList))) H
def wo:bS X (compareOp .LtE) wN:=by intro pins s σ H x y v u Q I c d h;obtain⟨a,b,rfl,rfl,q⟩:=h;obtain⟨t,rfl⟩:=c;obtain⟨e,rfl⟩:=d;exact PySem.P.le_str ⟨.bl _,H,I,rfl,q⟩
def rd_leS{a b:Vm}{Q:VK}(h:Q (.bl (!decide (b.cps.toList<a.cps.toList))) H):wN (.str a) (.str b) H Q:=⟨a,b,rfl,rfl,h⟩
theorem oK{α β:Type}{f g:α->Option β}:∀{l:List α},(∀x∈l,f x=g x)->l.filterMap f=l.filterMap g
 | [],_=>rfl
 | x::l,h=>by rw[Il,Il,h x F7,oK λy a=>h y (F4 _ a)]
theorem EC(n)(xs:List Va)(h:xs.length=n):(GX n).filterMap (λi:Nat=>xs[((n:Int)-1+(i:Int)*(-1)).toNat]?)=xs.reverse:=by
 refine Jt λi=>?_;have e:(GX n).filterMap (λi:Nat=>xs[((n:Int)-1+(i:Int)*(-1)).toNat]?)=(GX n).map (λi:Nat=>xs.reverse.getD i .none):=by
  rw[<-List.filterMap_eq_map];refine oK λi hi=>?_;have hi:=HK.mp hi;have:((n:Int)-1+(i:Int)*(-1)).toNat=n-1-i:=by lia
  rw[this,MA,Hb,JV (by lia),h,F2 (show n-1-i<xs.length by omega)];rfl
 rw[e,F3];by_cases hi:i<n
 .simp[Hb,h,hi]
 .rw[Hj (by simpa using hi),Hj (by simpa[h]using hi)];rfl
theorem zV(a:List Va):slicePick a.toArray Vo Vo (Vn (-1))=a.reverse.toArray:=by
 unfold slicePick;have e:sliceBounds Vo Vo (Vn (-1)) a.toArray.size=((a.length:Int)-1,-1,-1):=by unfold sliceBounds;simp
 rw[e];refine congrArg List.toArray ?_;rw[<-EC a.length a rfl];unfold sliceRange;simp only;rw[G0 (by decide),MN];have b:(if(a.length:Int)-1 > -1 then((a.length:Int)-1 - -1 - -1-1) / - -1 else 0).toNat=a.length:=by rw[show (- -1:Int)=1 by decide,Int.ediv_one];split<;>lia
 rw[b];refine oK λi hi=>?_;simp
def Vals.rev(r:Vals xs us):Vals xs.reverse us.reverse:=by
 induction r with
 | nil=>exact .nil
 | cons h t a=>
  rw[List.reverse_cons,List.reverse_cons];exact Vals.append a (.cons h .nil)
def j6(K:FX):V->Hp->VK->Prop:=λx H Q=>∃a xs,x=.ref a/\af K H a xs/\gD H (.lst xs.reverse) Q
def xZ(K:FX)(te:TE)(ts:TO):TE:=λσ H Q=>te σ H λx H1=>ts σ H1 λk H2=>k=Vn (-1)/\j6 K x H2 Q
theorem BZ{e st:Vk}{te:TE}{ts:TO}{p2:Pos}(K:FX)(f:PE X e te)(hs:PO X (Vn st) ts)(g:X.K=K:=by rfl):PE X (.Subscript e (.Slice Vo Vo (Vn st) p2) pos) (xZ K te ts):=by
 subst g;intro pins s σ H Q I h;refine Subscript_ (aJ (f pins s σ H _ I h) λv s1 ⟨x,H1,j,r1,l⟩=>?_);refine wpAny_Slice ?_;refine FW (FW ?_);refine aJ (hs pins s1 σ H1 _ j l) λvs s2 ⟨k,H2,m,n,p⟩=>?_;obtain⟨rfl,a,xs,rfl,u,q⟩:=p;cases n with
 | int i tk=>
 cases r1;have c:Inv X pins σ H2 { s2 with heap:=s2.heap.push { cls:=.type "slice",data:=.fields #[.none,.none,.int (-1) tk] } }:=m.kept (t':=s2.toks) λb y q=>FY _ q;obtain⟨z,r,d,B⟩:=c.list u;have hlen:=r.length;refine tail_any d.isList.typeIs slot_list_getitem.lookup (wpAny_getItem_list_slice d.isList (MK ..) .none .none (.int (-1) tk) (by decide) ?_ (by rw[F6];lia)) (by with_unfolding_all rfl);rw[zV];exact⟨.ref _,_,c.laid (o:=.lst xs.reverse) (λb y e=>FY _ e) (Gn _) ⟨by rw[Hz];exact B,_,0,r.rev,FZ _ rfl⟩,rfl,q _ (c.hok.fresh (Gn _))⟩
def rd_revL{K:FX}{Q:VK}(h:te σ H λx H1=>ts σ H1 λk H2=>k=Vn (-1)/\j6 K x H2 Q):xZ K te ts σ H Q:=h
def wm{K:FX}{Q:VK}(e:af K H a xs)(h:gD H (.lst xs.reverse) Q):j6 K (.ref a) H Q:=⟨a,xs,rfl,e,h⟩
def rd_dget{Q:VK}(h:td σ H λx H1=>ty σ H1 λy H2=>∃a v,x=.ref a/\bC H2 a y (Vn v)/\Q v H2):vy td ty σ H Q:=h
end
def AF:typeLookup (.type "list_reverseiterator") "__len__" = pure Vo:=by rw[typeLookup_type,builtinLookup_eq_fast];kernel_rfl
def ze:typeLookup (.type "list_reverseiterator") "__length_hint__" = pure (Vn (.builtin "list_reverseiterator.__length_hint__")):=by rw[typeLookup_type,builtinLookup_eq_fast];kernel_rfl
section
variable {prog:Vd} {w:Ve} {A:Vi} {E:Va->Vc->Prop} {s:Vc} {r d:Vb}
def DQ{Q:Bool->Vc->Prop}(c:s.TypeIs (.ref r) "list_reverseiterator")(h:Q false s):Vf (Vg prog w) A (Builtin.List.listLengthHint (.ref r)) Q E s:=by
 refine FV (wpAny_specialOf c AF ?_);refine FV (wpAny_specialOf c ze ?_);generalize a:("list_reverseiterator.__length_hint__":String)=id0
 wp_delta
 subst a;refine FV (wpAny_isInstance (b:=true) c (by rw[isSubtype_type];kernel_rfl) ?_);refine wpAny_ite_split (λhab=>absurd hab (by decide)) (λ_=>?_);refine wpAny_ite_split (λ_=>?_) (λhab=>absurd (by decide +kernel) hab);refine wpAny_ite_split (λhab=>absurd hab (by decide +kernel)) (λ_=>?_);exact FW h
theorem AL{R:Result->Vc->Prop}(q:A.handled=Vo)(hne:d≠r)(hit:s.heap.IsRevIter r d ((items.size:Int)-1))(u:s.heap.IsList d items)(S)(g:S≠r)(j:S≠d)(res)(c)(x:s.heap.get? S=Vn { cls:=.type "list",data:=.seq #[] c })
  (y:∀h' tk a c',(∀b o,b≠S->b≠r->s.heap.get? b=Vn o->h'.get? b=Vn o)->h'.get? S=Vn { cls:=.type "list",dict:=Vo,data:=.seq a c',slots:=#[] }->ItemsOf (λi v=>items[items.size-1-i]?=Vn v) a items.size->R (.ok (.ret res)) { s with heap:=h',toks:=tk }) (z:items.size<=sizeLine) :
  Vf (Vg prog w) A.in1 (Builtin.List.listExtendWith (.ref S) (.ref r) res)
   (λfin s'=>match fin with|.done f=>R (.ok f) s'|.again c'=>c'.quiet=true/\codeAny (Vg prog w) A c' R s') (λe s'=>R (.error e) s') s:=by
 have l:S∉[r,d]:=by simp only[Gh,GD,or_false,not_or];exact⟨g,j⟩
 have W:=Walks.listRev (prog:=prog) (w:=w) (A:=A.in1) q r d hne items;have st:0<=items.size/\s.heap.IsRevIter r d ((items.size:Int)-1-((0:Nat):Int))/\s.heap.IsList d items:=⟨HM _,by rw[show (items.size:Int)-1-((0:Nat):Int)=(items.size:Int)-1 by lia];exact hit,u⟩;refine FV (wpAny_typeOf hit.typeIs ?_);have h1:K3 (.ref S) (.ref r)=false:=by simp[K3,g]
 have h2:(Value.type "list_reverseiterator" == Value.type "list")=false:=by decide
 have B:(Value.type "list_reverseiterator" == Value.type "tuple")=false:=by decide
 simp only[h1,h2,B,JR,GP,if_false];refine FV (W.self 0 _ _ _ st ?_);refine FV (wpAny_holding (DQ hit.typeIs ?_));refine wpAny_ite_split (λhab=>absurd hab (by decide +kernel)) (λ_=>?_);refine FW ⟨plainId_quiet PySem.F.plain_extend_loop _,?_⟩;refine codeAny_extend_loopS W.toS z S l res items.size 0 s #[] c rfl (HM _) st x (ItemsOf.nil _) λs' a c' p m h=>?_;rw[Moved.eq_with p];refine y s'.heap s'.toks a c' (λb o hb n e=>p.heap b o (λhmem=>?_) e) m h;rcases Gh.mp hmem with e'|hmem
 .exact hb e'
 .exact n (Gb.mp hmem)
def BW{R:Result->Vc->Prop}(p:A.handled=Vo)(hne:d≠r)(hit:s.heap.IsRevIter r d ((items.size:Int)-1))(q:s.heap.IsList d items)(S)(g:S≠r)(h:S≠d)(l:s.heap.get? S=Vn { cls:=.type "list",data:=.seq #[] })
  (u:∀h' tk a c',(∀b o,b≠S->b≠r->s.heap.get? b=Vn o->h'.get? b=Vn o)->h'.get? S=Vn { cls:=.type "list",dict:=Vo,data:=.seq a c',slots:=#[] }->ItemsOf (λi v=>items[items.size-1-i]?=Vn v) a items.size->R (.ok (.ret .none)) { s with heap:=h',toks:=tk }) (x:items.size<=sizeLine) :
  Vf (Vg prog w) A.in1 (Builtin.«list.__init__» ⟨[.ref S,.ref r],[]⟩)
   (λfin s'=>match fin with|.done f=>R (.ok f) s'|.again c'=>c'.quiet=true/\codeAny (Vg prog w) A c' R s') (λe s'=>R (.error e) s') s:=by
 refine FV ?_;refine FV (wpAny_seqItems l rfl (FW ?_));refine FV (wpAny_updateSeq l rfl ?_);have c:=IA (JL (λ_=>(#[]:Array Va))) l rfl;have oth:∀b o,b≠S->s.heap.get? b=some o->(s.heap.update S (JL (λ_=>(#[]:Array Va)))).get? b=some o:=
  λb o hb e=>(Hq _ _ (HQ hb)).trans e
 refine FV (wpAny_letGo ?_);refine AL p hne (hit.at λo e=>oth _ _ g.symm e) (q.at λo e=>oth _ _ h.symm e) S g h .none _ c (λh' tk a c' y m j=>?_) x;exact u h' tk a c' (λb o hb n e=>y b o hb n (oth b o hb e)) m j
def CU(m:A.handled=Vo)(hne:d≠r)(hit:s.heap.IsRevIter r d ((items.size:Int)-1))(j:s.heap.IsList d items)(n:items.size<=sizeLine)
  (p:∀h' tk a c',(∀b o,b≠r->s.heap.get? b=Vn o->h'.get? b=Vn o)->h'.get? s.heap.objs.size=Vn { cls:=.type "list",dict:=Vo,data:=.seq a c',slots:=#[] }->ItemsOf (λi v=>items[items.size-1-i]?=Vn v) a items.size->Q (.ref s.heap.objs.size) { s with heap:=h',toks:=tk }) :
  Vf (Vg prog w) A (call (.type "list") [.ref r]) Q E s:=by
 refine callType_codes (Q₁:=λobj c=>obj=.ref s.heap.objs.size/\c={ s with heap:=s.heap.push { cls:=.type "list",data:=.seq #[] } }) PySem.F.called_list (PySem.F.typeCall_list_1 _) PySem.F.entry_list_init
  (code_list_new _ ⟨rfl,rfl⟩) λobj c f=>?_
 obtain⟨rfl,rfl⟩:=f;have l:(s.heap.push { cls:=.type "list",data:=.seq #[] }).get? s.heap.objs.size=Vn { cls:=.type "list",data:=.seq #[] }:=FZ _ rfl;have q:r<s.heap.objs.size:=let ⟨o,ho,_⟩:=hit;F0 ho;have u:d<s.heap.objs.size:=let ⟨o,ho,_⟩:=j;F0 ho;refine⟨⟨_,l,rfl⟩,PySem.F.args_list_init_2 _ _,BW (A:=A.in1) m hne (hit.at λo e=>FY _ e) (j.at λo e=>FY _ e) _ (IC q) (IC u) l (λh' tk a c' x h g=>?_) n⟩;exact⟨rfl,p h' tk a c' (λb o hb e=>x b o (Gm (F0 e)) hb (FY _ e)) h g⟩
end
theorem CK{a:List Va}(h:ItemsOf (λi v=>a.toArray[a.toArray.size-1-i]?=Vn v) acc a.toArray.size):acc=a.reverse.toArray:=by
 have h1:acc.size=a.length:=h.1.trans F6;have h2:=h.2;refine Array.ext_getElem? λi=>?_;by_cases hi:i<acc.size
 .have b:=h2 i acc[i] (Hv hi);rw[Hv hi,<-b,Jz,Jz,F6,JV (by lia)]
 .rw[LN (by lia),Jz,Hj (by rw[Hz];lia)]
section
variable {X:Cx}
def xl(K:FX)(te:TE):TE:=λσ H Q=>te σ H λx H1=>j6 K x H1 Q
theorem E9{e:Vk}{te:TE}{p p2 pos c:Pos}(K:FX)(y:X.calm=true)(z:Gl X "list")(A:X.mg "list" = Vo)(l:Gl X "reversed")(m:X.mg "reversed" = Vo)(B:PE X e te)(C:X.K=K:=by rfl)
  (h1:starEach [e] X.env=(false,eval e X.env)::starEach [] X.env:=by rfl)
  (h2:starEach [.Call (.Name "reversed" p2) [e] [] c] X.env=(false,eval (.Call (.Name "reversed" p2) [e] [] c) X.env)::starEach [] X.env:=by rfl) :
  PE X (.Call (.Name "list" p) [.Call (.Name "reversed" p2) [e] [] c] [] pos) (xl K te):=by
 subst C;intro pins s σ H Q I h;refine wpAny_Call_Name_kw (fu I z A PyProof.Rows.boot_list ?_ (by decide) (by decide));refine Hg ?_ h2 rfl;refine Kk ?_;refine wpAny_Call_Name_kw (fu I l m PyProof.Rows.boot_reversed ?_ (by decide) (by decide));refine Hg ?_ h1 rfl;rw[h1];refine Kk (aJ (B pins s σ H _ I h) λu s1 ⟨x,H1,j,r1,E⟩=>?_);refine Ky ?_;obtain⟨a,xs,rfl,F,q⟩:=E;cases r1;obtain⟨f,r,pl,G⟩:=j.list F;have hlen:=r.length;refine call_reversed_list pl.isList ?_;refine Ky ?_;have J:a<s1.heap.objs.size:=let ⟨o,ho,_⟩:=pl.isList;F0 ho;have n:(s1.heap.push (revObj a ((f.toArray.size:Int)-1))).objs.size=s1.heap.objs.size+1:=Hh ..;refine CU (j.ok.hd y) (Gm J) ⟨_,FZ _ rfl,rfl,rfl⟩ (pl.isList.at λo e=>FY _ e) (by rw[F6];lia) λh' tk w c' L g i=>?_;have v:∀b o,s1.heap.get? b=Vn o->h'.get? b=Vn o:=λb o e=>L b o (Gm (F0 e)) (FY _ e);have hle:s1.heap.objs.size<=(s1.heap.push (revObj a ((f.toArray.size:Int)-1))).objs.size:=by rw[n];exact Nat.le_succ _
 rw[CK i]at g;exact⟨.ref _,_,j.laid (o:=.lst xs.reverse) v hle ⟨by rw[Hz];exact G,_,c',r.rev,g⟩,rfl,q _ (j.hok.fresh hle)⟩
def uq(tk tv:TE):TE:=λσ H Q=>∀p,H p=Vo->tk σ (upd H p (.dT [])) λx H1=>tv σ H1 λv H2=>∃b k,x=.ref b/\H2 b=Vn (.tup (A0 kV k))/\H2 p=Vn (.dT [])/\Q (.ref p) (upd H2 p (.dT [(k,v)]))
def wx{h ev:Vk}{tk:TE}(l:X.A.units+1<cLine)(m:PE X h tk)(n:PE X ev tv):PE X (.Dict [Vn h] [ev] pos) (uq tk tv):=by
 intro pins s σ H Q I q;have p:=I.hok.fresh (Gn s.heap.objs.size);have d:=I.laid (a:=s.heap.objs.size) (o:=.dT []) (h':=s.heap.push { cls:=.type "dict",data:=.dict #[] }) (t':=s.toks) (λ_ _ q=>FY _ q) (Gn _) (uE s.heap I.big);refine wpAny_Dict_any rfl rfl (by simp) (by simp) ?_;refine pairTrees_cons_walk (aJ (m pins _ σ _ _ d (q _ p)) λu s1 ⟨x,H1,d,r,y⟩=>aJ (n pins s1 σ H1 _ d y) λM s2 ⟨v,H2,f,B,C⟩=>pairTrees_nil_walk ?_);obtain⟨b,k,rfl,hb,e,E⟩:=C;cases(r);obtain⟨z,hd,xs,rel,dd⟩:=sN f.hok e;have F:xs.length<=sizeLine:=by rw[<-G9 rel];exact HM _
 unfold storeAll;rw[Jn];refine FV (FV (wpAny_dictSet_heap (Nat.lt_of_succ_lt l) (ju f.hok hb) dd λh' g hs=>FW ?_));refine FW ⟨.ref s.heap.objs.size,_,?_,rfl,E⟩;obtain⟨q,es,ep,i,h2,G,J,_,L⟩:=g;refine mC f (by rw[e];exact True.intro) hs ⟨q,i⟩ ⟨by rw[sizeLine_eq];simp,hd,_,(rel.put k hb B).keeps λc ys j=>?_,q,es,ep,i,h2,G,J,L⟩;rw[aA (bA j e (λz=>nomatch z))];exact j
def rd_lrev{K:FX}{Q:VK}(h:te σ H λx H1=>j6 K x H1 Q):xl K te σ H Q:=h
def rd_disp1{tk:TE}{Q:VK}(h:∀p,H p=Vo->tk σ (upd H p (.dT [])) λx H1=>tv σ H1 λv H2=>∃b k,x=.ref b/\H2 b=Vn (.tup (A0 kV k))/\H2 p=Vn (.dT [])/\Q (.ref p) (upd H2 p (.dT [(k,v)]))):uq tk tv σ H Q:=h
def rd_din{Q:VK}(h:ty σ H λy H1=>td σ H1 λx H2=>∃a o,x=.ref a/\bC H2 a y o/\Q (.bl o.isSome) H2):q9 ty td σ H Q:=h
def rd_dnin{Q:VK}(h:ty σ H λy H1=>td σ H1 λx H2=>∃a o,x=.ref a/\bC H2 a y o/\Q (.bl (!o.isSome)) H2):u4 ty td σ H Q:=h
def rd_dput(h:tv σ H λv H1=>td σ H1 λx H2=>ty σ H2 λy c=>∃a b,x=.ref a/\dz c a y v b/\D.nx σ b):xj td ty tv D σ H:=h
def LitE.pe{e}{te}(h:LitE e te):PE X e te:=
 LitE.rec i8 b9 ae bf (λ_ c=>bz c) aa (λh _ a b=>ao a b (h.star _ _)) h
end
section
variable {prog:Vd} {w:Ve} {A:Vi} {E:Va->Vc->Prop} {s:Vc}
theorem BH{it d:Vb}{Q:Option Va->Vc->Prop}(hit:s.heap.IsKeyIter it d i es.size ep)(b:s.heap.get? d=Vn od)(c:od.data=.dict es ep)(hlt:i<es.size)
  (e:∀h',h'.IsKeyIter it d (i+1) es.size ep->Ip it s.heap h'->Q (Vn es[i].key) { s with heap:=h' }):Vf (Vg prog w) A (pyNext (.ref it)) Q E s:=by
 obtain⟨o,ho,f,hd⟩:=id hit;have T:=hit.typeIs;refine FV (wpAny_attempt (GW T IP (wpAny_call_entry IP T KL ?_ (J6 _))));refine FV (FW (FV (FV ?_)))
 first|refine FV (wpAny_typeNameOfWhole_keyiter T (FW ?_))|refine FV (wpAny_typeNameOf_keyiter T (FW ?_))
 refine FV (wpAny_fieldsOf ho hd ?_);refine FV (FW (FV (wpAny_dictEntries b c ?_)));rw[G0 (by simp)];refine FV (FW (FV (wpAny_dictEpoch b c ?_)));rw[G0 (by simp)];refine FW ?_;simp only[show ¬((i:Int)<0) by lia,if_false,Gf,Hv hlt];refine FV ?_
 first|refine FV (wpAny_typeNameOfWhole_keyiter T (FW ?_))|refine FV (wpAny_typeNameOf_keyiter T (FW ?_))
 refine FV (wpAny_isOneOf_keyiter T ?_);show Vf _ _ (setField (.ref it) 1 (rawInt ((i:Int)+1)) >>= _) _ _ s;refine FV (wpAny_setField ho hd (by simp) ?_);have a:(s.heap.update it (Obj.mapFields (·.setIfInBounds 1 (rawInt ((i:Int)+1))))).IsKeyIter it d (i+1) es.size ep:=
  ⟨_,IA _ ho (Lb (Jo hd _)),(Obj.cls_mapFields ..).trans f,by rw[Jo hd];simp[rawInt]⟩
 refine FV (wpAny_holding ?_);refine FV (wpAny_isOneOf_keyiter a.typeIs ?_);exact FW (FW ⟨_,rfl,FW (e _ a (Im ..))⟩)
theorem Bc{it d:Vb}{Q:Option Va->Vc->Prop}(f:A.handled=Vo)(hit:s.heap.IsKeyIter it d i es.size ep)(c:s.heap.get? d=Vn od)(e:od.data=.dict es ep)(hge:es.size<=i)
  (g:∀h',Jb it s.heap h'->Q Vo { s with heap:=h' }):Vf (Vg prog w) A (pyNext (.ref it)) Q E s:=by
 obtain⟨o,ho,h,hd⟩:=id hit;have T:=hit.typeIs;refine FV (wpAny_attempt (GW T IP (wpAny_call_entry IP T KL ?_ (J6 _))));refine FV (FW (FV (FV ?_)))
 first|refine FV (wpAny_typeNameOfWhole_keyiter T (FW ?_))|refine FV (wpAny_typeNameOf_keyiter T (FW ?_))
 refine FV (wpAny_fieldsOf ho hd ?_);show Vf _ _ (if(Value.ref d == Value.none)=true then _ else _) _ _ s;refine FV (FW (FV (wpAny_dictEntries c e ?_)));rw[G0 (by simp)];refine FV (FW (FV (wpAny_dictEpoch c e ?_)));rw[G0 (by simp)];refine FW ?_;simp only[show ¬((i:Int)<0) by lia,if_false,Gf,LN hge];refine FV ?_
 first|refine FV (wpAny_typeNameOfWhole_keyiter T (FW ?_))|refine FV (wpAny_typeNameOf_keyiter T (FW ?_))
 show Vf _ _ (setField (.ref it) 0 .none >>= _) _ _ s;refine FV (wpAny_setField ho hd (by simp) ?_);show Vf _ _ (newExc (.type "StopIteration") [] >>= _) _ _ _;refine FV ?_;simp only[newExc,newTuple];refine FV (wpAny_newObj_type ?_ (by size_fits));refine FV (m:=firstArgMember _ _) (wpAny_of_eq (a:=Value.none) (by first|rfl|(simp only[firstArgMember];rfl)) ?_);refine wpAny_newObj_type ?_ (by size_fits);simp only[raiseNew];refine FV (wpAny_handled ?_);rw[show A.in1.handled=Vo from f];refine FV (FW (wpAny_throw ?_));refine FV (wpAny_isInstance (T:="StopIteration") (b:=true) ⟨_,FZ _ rfl,rfl⟩ isSubtype_stop ?_);exact FW (g _ (((Im ..).extBut.push _).push _))
def zb{d:Vb}(hd:(d == sysModules)=false)(ho:s.heap.get? d=Vn od)(b:od.ExactDict)(a:od.data=.dict es ep)
  (c:Q (.ref s.heap.objs.size) { s with heap:=s.heap.push { cls:=.type "dict_keyiterator",data:=.fields #[.ref d,.int 0 0,.int es.size 0,.int ep 0] } }):Vf (Vg prog w) A (pyIter (.ref d)) Q E s:=by
 have T:s.TypeIs (.ref d) "dict":=⟨od,ho,b.1⟩;refine wpAny_pyIter_slot T F.slot_dict_iter (wpAny_call_entry F.slot_dict_iter T F.entry_dict_iter ?_ (F.args_dict_iter_1 _));refine FV ?_;refine FV (wpAny_notOrdered_dict T ?_);refine FW ?_;show Vf _ _ (Le d >>= _) _ _ s;unfold Le;rw[G0 (by rw[hd];exact Gi)];refine FV (FW (FV (wpAny_dictEntries ho a (FV (wpAny_dictEpoch ho a ?_)))));refine FV (wpAny_newObj_type (FW ⟨_,rfl,"dict_keyiterator",_,⟨_,FZ _ rfl,rfl⟩,IP.lookup,?_⟩));simpa[rawInt]using c
end
section
variable {X:Cx} {tg:Vk}
def Dc{xs:List (List Key×Vb×Va)}(r:KT H kvs xs):Paired (λb (kv:List Key×V)=>H b=Vn (.tup (kv.1.map kV))) (xs.map (·.2.1)) kvs:=by
 induction r with
 | nil=>exact .nil
 | cons h _ a=>exact .cons h.2.1 a
end
section
variable {X:Cx}
def sr(K:FX){o:Vk}{name:Vm}{apos cpos:Pos}{id:String}(d:PlainAttrs T)(slot:Slot T name id)(c:typeOf (.builtin id)=pure (.type "method_descriptor"))(e:jV X id r)(ho:PE X o to)(h:X.K=K:=by rfl)
  (a:attributeBase o name X.env (eval o X.env)=eval o X.env:=by rfl) (b:(apos.endLine == cpos.line)=true:=by rfl):PE X (.Call (.Attribute o name apos) [] [] cpos) (nL K T r to):=by
 subst h;exact Fy d slot c e ho a b
end
def rd_bm0{K:FX}{Q:VK}(h:to σ H λx H1=>iC K T x H1/\r x [] H1 Q):nL K T r to σ H Q:=h
def EU(K:FX):List V->Hp->VK->Prop:=λxs H Q=>∃(p:Vb) (bs:List Bool),xs=[.ref p]/\af K H p (bs.map V.bl)/\Q (.bl (bs.any id)) H
def any_range(bs:List Bool):((GX bs.length).any λi=>bs.getD i false)=bs.any id:=by
 rw[GH,GG,GG];constructor
 .rintro⟨i,hi,h⟩;have a:=HK.mp hi;rw[Hb,F2 a]at h;exact⟨_,Gv a,h⟩
 .rintro⟨b,hb,h⟩;obtain⟨i,hi,e⟩:=KI.mp hb;refine⟨i,HK.mpr hi,?_⟩;rw[Hb,F2 hi,e];exact h
def Az(K:FX)(w:X.calm=true)(x:X.K=K:=by rfl):cP X (.builtin "any") (EU K):=by
 subst x;intro pins s σ H xs us Q I r h;obtain⟨p,bs,rfl,y,q⟩:=h;obtain⟨u,rfl,z⟩:=vals1 r;cases z;obtain⟨d,j,pl,R⟩:=I.list y;have B:=qg j;have hne:p≠s.heap.objs.size:=Gm (by obtain⟨o,n,e,_⟩:=pl;exact F0 e);refine call_any_walk (wpAny_pyIter_list pl.isList ?_);have C:Inv X pins σ H { s with heap:=s.heap.push { cls:=.type "list_iterator",data:=.fields #[.ref p,.int 0 0] } }:=I.kept (t':=s.toks) λb o e=>FY _ e;have E:=I.fpOk (H':=H) (Gn s.heap.objs.size) I.fresh;refine⟨s.heap.objs.size,_,_,_,_,_,(λi=>bs.getD i false),rfl,Ml (A:=X.A.in1) (I.ok.hd w) _ p hne d.toArray,⟨⟨_,FZ _ rfl,rfl,rfl⟩,?_⟩,?_,λh' tk F=>?_⟩
 .exact pl.isList.push _
 .intro i v s' G S l J;rw[B]at l;have a:(bs.map Value.bool)[i]?=Vn v:=by simpa using l
  rw[F3]at a;cases f:bs[i]? with
  | none=>rw[f]at a;cases a
  | some b=>
   rw[f]at a;cases a;have g:bs.getD i false=b:=by rw[Hb,f];rfl
   have c:G (bs.getD i false) s':=J;rw[g]at c;exact wpAny_truthy_bool c
 .obtain⟨L,M,T,N,O,P⟩:=E;have m:=j.length;rw[F1]at m;refine⟨.bl (bs.any id),H,C.turned (λb o hb e=>F b o (by simpa using hb) e) L M N O P,?_,q⟩;show Value.bool _=Value.bool _;rw[F6,<-m,any_range]
theorem jf{x:Vm}{c:Vb}:∀(names:List (Vm×NameKind)) (n:Nat) (acc:List (Vm×Vb)),(cellsFrom n names acc).lookup x=Vn c->acc.lookup x=Vn c\/(n<=c/\(x,NameKind.cell)∈names)
 | [],_,_,h=>.inl h
 | (y,k)::r,n,acc,h=>by
  unfold cellsFrom at h;by_cases a:(k == NameKind.cell)=true
  .rw[G5 a]at h;have b:k=.cell:=by simpa using a
   subst b;rcases jf r (n+1) ((y,n)::acc) h with h|⟨h1,h2⟩
   .rw[GS]at h;cases hb:x == y with
    | true=>
     rw[hb]at h;cases h;rw[beq_iff_eq.mp hb];exact .inr ⟨Gn _,F7⟩
    | false=>rw[hb]at h;exact .inl h
   .exact .inr ⟨Ju h1,F4 _ h2⟩
  .rw[G0 a]at h;rcases jf r n acc h with h|⟨h1,h2⟩
   .exact .inl h
   .exact .inr ⟨h1,F4 _ h2⟩
theorem mn{x y:Vm}{c:Vb}:∀(names:List (Vm×NameKind)) (n:Nat) (acc:List (Vm×Vb)),(∀x c,acc.lookup x=Vn c->@LT.lt Nat _ c n)->(∀x y c,acc.lookup x=Vn c->acc.lookup y=Vn c->x=y)->(cellsFrom n names acc).lookup x=Vn c->(cellsFrom n names acc).lookup y=Vn c->x=y
 | [],_,_,_,hi,h1,h2=>hi _ _ _ h1 h2
 | (z,k)::r,n,acc,hb,hi,h1,h2=>by
  unfold cellsFrom at h1 h2;by_cases d:(k == NameKind.cell)=true
  .rw[G5 d]at h1 h2;refine mn r (n+1) ((z,n)::acc) (λx c h=>?_) (λx y c h1 h2=>?_) h1 h2
   .rw[GS]at h;cases e:x == z with
    | true=>rw[e]at h;cases h;exact Jg _
    | false=>rw[e]at h;exact JW (hb x c h)
   .rw[GS]at h1 h2;cases b:x == z with
    | true=>
     rw[b]at h1;cases h1;cases a:y == z with
     | true=>rw[beq_iff_eq.mp b,beq_iff_eq.mp a]
     | false=>rw[a]at h2;exact absurd (hb _ _ h2) (Hy _)
    | false=>
     rw[b]at h1;cases a:y == z with
     | true=>rw[a]at h2;cases h2;exact absurd (hb _ _ h1) (Hy _)
     | false=>rw[a]at h2;exact hi _ _ _ h1 h2
  .rw[G0 d]at h1 h2;exact mn r n acc hb hi h1 h2
theorem o8{x:Vm}{c:Vb}:∀(names:List (Vm×NameKind)) (h:Vh) (acc:List (Vm×Vb)),(cellsFrom h.objs.size names acc).lookup x=Vn c->acc.lookup x=Vn c\/(pushCells h names).IsCell c Vo
 | [],_,_,e=>.inl e
 | (y,k)::r,h,acc,e=>by
  unfold cellsFrom at e;unfold pushCells;by_cases a:(k == NameKind.cell)=true
  .rw[G5 a]at e ⊢;rw[<-Hh h { cls:=.type "cell",data:=.cell none }]at e;rcases o8 r (h.push { cls:=.type "cell",data:=.cell none }) ((y,h.objs.size)::acc) e with e|e
   .rw[GS]at e;cases hb:x == y with
    | true=>
     rw[hb]at e;cases e;exact .inr ⟨_,pushCells_keeps _ _ _ _ (FZ _ rfl),rfl⟩
    | false=>rw[hb]at e;exact .inl e
   .exact .inr e
  .rw[G0 a]at e ⊢;exact o8 r h acc e
section
variable {M:Model} {A:Vi} {E:Va->Vc->Prop} {s:Vc}
def Di{code:Va}{Q:Env->Vc->Prop}
  (b:Q (newEnv scope s.heap.objs.size globals (cellsFrom (s.heap.objs.size+1) scope.names closure) qual func code (Vn outer) builtins) { s with heap:=pushCells (s.heap.push { cls:=.type "dict",data:=.dict #[] }) scope.names }) :
  Vf M A (newFunctionEnv scope globals closure [] qual func code (Vn outer) builtins) Q E s:=by
 simp only[newFunctionEnv,MM,if_true];refine FV (wpAny_alloc ?_);refine FV (wpAny_layCells _ (λname kind cells=>by cases a:kind == NameKind.cell<;>simp[a]) _ _ _ _ ?_);rw[show ({ s with heap:=s.heap.push { cls:=.type "dict",data:=.dict #[] } }:Vc).heap.objs.size=s.heap.objs.size+1 from Hh ..];refine FV ?_;exact FW (FW b)
end
def je(X:Cx)(sc:Scope)(C:Vb):List (Vm×Vb):=cellsFrom (Nat.succ C) sc.names (dW sc.names X.env.cells)
def de(X:Cx)(sc:Scope)(own:List Vm)(js:List Nat)(z:Blk):Cx where
 prog:=X.prog
 w:=X.w
 K:=X.K
 mg:=X.mg
 base:=X.base
 A:=X.A
 N:=own++js.map λj=>X.N.getD j ""
 s₀:=z.s
 H₀:=z.H
 env:=compEnvC sc (je X sc z.C) z.C X.env
 outer:=X.stack
 stack:=X.stack
 ex:=z.fp
 fn:=λx=>sc.names.lookup x == Vn .cell
 calm:=X.calm
 pn:=[]
 xe:=λ_ _=>False
def fA(sc out:Scope):Bool:=sc.names.all λp=>(p.2 != .cell || sc.names.lookup p.1 == Vn .cell) && (p.2 != .local || sc.names.lookup p.1 == Vn .local) && (p.2 != .free || out.names.lookup p.1 == Vn .cell || out.names.lookup p.1 == Vn .free) && (p.2 != .free || sc.names.lookup p.1 == Vn .free)
def lQ(h:fA sc out=true){p:Vm×NameKind}(a:p∈sc.names)(b:p.2=.free):out.names.lookup p.1=Vn .cell\/out.names.lookup p.1=Vn .free:=by have:=GF.mp h p a;simp[b]at this;exact this.1
def Bv(h:fA sc out=true)(a:(x,NameKind.free)∈sc.names)(h2:sc.names.lookup x=Vn .cell):False:=by have:=GF.mp h _ a;simp[h2]at this
def zJ(h:fA sc out=true){p:Vm×NameKind}(a:p∈sc.names)(b:p.2=.cell):sc.names.lookup p.1=Vn .cell:=by have:=GF.mp h p a;simp[b]at this;exact this
def vM(h:fA sc out=true){p:Vm×NameKind}(a:p∈sc.names)(b:p.2=.local):sc.names.lookup p.1=Vn .local:=by have:=GF.mp h p a;simp[b]at this;exact this
section
variable {X:Cx} {pins:List (Vb×Obj)} {σ:St} {H:Hp} {s:Vc}
def kT(ok:X.Ok)(hb:fA sc X.env.scope=true)(h:(dW sc.names X.env.cells).lookup x=Vn c):X.env.cells.lookup x=Vn c:=by
 rcases ly X.env.cells sc.names [] x c h with⟨h1,h2⟩|h1
 .obtain⟨d,hd⟩:=ok.has x (lQ hb h1 rfl);rw[hd]at h2 ⊢;rw[h2];rfl
 .simp at h1
def jN(ok:X.Ok)(hb:fA sc X.env.scope=true)(h:(je X sc C).lookup x=Vn c):X.env.cells.lookup x=Vn c\/(@LT.lt Nat _ C c/\sc.names.lookup x=Vn .cell):=by
 rcases jf _ _ _ h with h|⟨h1,h2⟩
 .exact .inl (kT ok hb h)
 .exact .inr ⟨h1,zJ hb h2 rfl⟩
def oR(h:(x,NameKind.free)∈sc.names):∃c,(je X sc C).lookup x=Vn c:=by obtain⟨c,a⟩:=xE (cells:=X.env.cells) h;exact HV.mp (Hw sc.names _ _ (.inr (by rw[a];rfl)))
def Cf(I:Inv X pins σ H s)(hb:fA sc X.env.scope=true)(h:(dW sc.names X.env.cells).lookup x=Vn c):@LT.lt Nat _ c s.heap.objs.size:=I.cell_lt (kT I.ok hb h)
def Ec(I:Inv X pins σ H s)(l:sc.kind=.function)(hb:fA sc X.env.scope=true)
  (hfp:∀b∈fp,cC X pins H b) (d:s.heap.objs.size<=C) (hlt:∀b∈fp,b<s.heap.objs.size):(de X sc own js ⟨s,H,fp,C⟩).Ok where
 mod:=I.ok.mod
 kind:=l
 glob:=I.ok.glob
 blt:=I.ok.blt
 above:=d
 inj:=λx y c h1 h2=>mn sc.names _ _ (λx c e=>Nat.lt_succ_of_le (GC (Io (Cf I hb e)) d)) (λx y c f n=>I.ok.inj x y c (kT I.ok hb f) (kT I.ok hb n)) h1 h2
 has:=λx g=>by
  have i:=g;have go:∀k,(relabel sc X.env).names.lookup x=Vn k->(k=.cell\/k=.free)->∃c,(je X sc C).lookup x=Vn c:=λk h j=>by
   obtain⟨q,h1,h2⟩:=lg (sc:=sc) (env:=X.env) h;have m:=jl h1;rcases h2 with h2|⟨h2,_⟩
   .subst h2;rcases j with e|e
    .rw[e]at h1;exact HV.mp (Hw sc.names _ _ (.inl h1))
    .rw[e]at m;exact oR m
   .rw[h2]at m;exact oR m
  rcases i with h|h
  .exact go _ h (.inl rfl)
  .exact go _ h (.inr rfl)
 cab:=λx c h e=>by
  have g:sc.names.lookup x=Vn .cell:=by simpa[de]using h
  have e':(je X sc C).lookup x=Vn c:=e;rcases jf _ _ _ e' with f|⟨f,_⟩
  .rcases ly X.env.cells sc.names [] x c f with⟨h1,_⟩|h1
   .exact(Bv hb h1 g).elim
   .simp at h1
  .exact GC d (Ju f)
 hd:=I.ok.hd
 frames:=I.ok.frames
 stk:=.inl rfl
 exf:=λb a=>⟨Gm (GA (hlt b a) d),λx c e=>by
  rcases jN I.ok hb e with e|⟨e,_⟩
  .exact(hfp b a).2.2.2.2.1 x c e
  .exact IC (MZ (GA (hlt b a) d) e)⟩
 bs:=I.bs
 bsz:=GC I.ok.bsz I.sz
 noex:=λb o e a=>by
  rcases(hfp b a).2.2.2.1 with z|z
  .exact I.ok.noex b o e z
  .exact absurd (GA (F0 e) (GC I.ok.bsz z)) (Hy _)
 exfs:=λb a p=>by
  rcases Gh.mp (I.stkSub b p)with e|h
  .exact(hfp b a).2.1 e
  .exact(hfp b a).2.2.1 h
 funs:=I.stack
 frf:=I.stkFree
theorem Eh(I:Inv X pins σ H s){m:Vm->Option Va}(P:sc.kind=.function)(hb:fA sc X.env.scope=true)(Q:lH sc X.N js=true)
  (hfp:∀b∈fp,cC X pins H b) (hlt:∀b∈fp,b<s.heap.objs.size) (hD:D=s.heap.objs.size) (hC:C=s.heap.objs.size+1) (old:∀b o,s.heap.get? b=Vn o->h1.get? b=Vn o)
  (A:h1.get? D=Vn o) (B:∀v,o.data≠.cell v) (R:h1.Ns C m) (hcl:∀x c,(je X sc C).lookup x=Vn c->(dW sc.names X.env.cells).lookup x=Vn c\/h1.IsCell c Vo) :
  Inv (de X sc own js ⟨s,H,fp,C⟩) [(D,o)] (dv own.length js σ) H { s with heap:=h1,toks:=tk } where
 ok:=Ec I P hb hfp (by lia) hlt
 os:=rfl
 bare:=I.bare
 base:=Un.kept old
 loc:=by
  refine⟨m,R,λi x v S T U=>?_⟩;obtain⟨k,j,rfl,M,es⟩:=qJ T;have n:(own++js.map λj=>X.N.getD j "")[own.length+k]?=Vn x:=S;rw[Gs (by lia),LC,F3,M]at n;have ex:X.N.getD j "" = x:=by simpa using n
  have g:=GF.mp Q j (Ga M);simp only[GI,decide_eq_true_eq,beq_iff_eq]at g;have E:X.N[j]?=some x:=by rw[<-ex,Hb,F2 g.1];rfl
  have a:sc.names.lookup x=some .free:=by rw[<-ex];exact g.2
  have hmem:=jl a;have f:=lQ hb hmem rfl;obtain⟨m0,W,F⟩:=I.loc;obtain⟨u,r,l⟩:=F j x v E es (by rcases f with z|z;exact .inr (.inl z);exact .inr (.inr z));refine⟨u,r,?_⟩;obtain⟨c,O⟩:=oR (X:=X) (C:=C) hmem;have G:X.env.cells.lookup x=Vn c:=by
   rcases jN I.ok hb O with e|⟨_,e⟩
   .exact e
   .rw[a]at e;cases e
  have h:s.heap.IsCell c (Vn u):=by
   rcases l with⟨z,_⟩|⟨_,c',e',q⟩
   .have Y:X.env.scope.names.lookup x=Vn .local:=z;rcases f with w|w<;>(rw[Y]at w;cases w)
   .rw[G]at e';cases e';exact q
  have d:h1.IsCell c (Vn u):=by obtain⟨oc,ho,hd⟩:=h;exact⟨oc,old c oc ho,hd⟩
  right;refine⟨?_,c,O,d⟩;have J:(relabel sc X.env).names.lookup x=Vn .local\/(relabel sc X.env).names.lookup x=Vn .cell\/(relabel sc X.env).names.lookup x=Vn .free:=U;rcases J with z|z
  .obtain⟨k',L,y⟩:=lg (sc:=sc) (env:=X.env) z;rw[a]at L;rcases y with y|⟨_,y⟩
   .rw[y]at L;cases L
   .cases y
  .exact z
 cell:=λx c e=>by
  rcases hcl x c e with e|e
  .obtain⟨v,oc,ho,hd⟩:=I.cell x c (kT I.ok hb e);exact⟨v,oc,old c oc ho,hd⟩
  .exact⟨Vo,e⟩
 free:=I.hok.fresh (show @LE.le Nat _ s.heap.objs.size C by lia)
 freeC:=λx c e=>by
  rcases jN I.ok hb (C:=C) e with e|⟨e,_⟩
  .exact I.freeC x c e
  .exact I.hok.fresh (show @LE.le Nat _ s.heap.objs.size c by lia)
 pin:=λp Z=>by
  have e:p=(D,o):=by simpa[de]using Z
  subst e;refine⟨A,I.hok.fresh (show @LE.le Nat _ s.heap.objs.size D by lia),?_,λz=>?_,B⟩
  .exact Gm (show @LT.lt Nat _ D C by lia)
  .have h9:@LT.lt Nat _ D s.heap.objs.size:=I.stk_lt (b:=D) z;lia
 hok:=I.hok.kept old
 len:=by show(dv own.length js σ).length=(own++js.map λj=>X.N.getD j "").length;simp[dv]
theorem xK{RR:Va->Vb->Result->Vc->Prop}
  {Q:VK} {W:Nat->Nat->List V->Hp->Prop} (hk:sc.kind=.function) (hb:fA sc X.env.scope=true) (hj:lH sc X.N js=true)
  (hg:∀C,PG (de X sc own js ⟨s,H,fp,C⟩) tg g) (ht:∀C,jY (de X sc own js ⟨s,H,fp,C⟩) ifs tc) (he:∀C,PE (de X sc own js ⟨s,H,fp,C⟩) elt te)
  (I:Inv X pins σ H s) (T:∀C,TurnAt (de X sc own js ⟨s,H,fp,C⟩) tg J fp it tn) (st:tn 0 s.heap) (hfp:∀b∈fp,cC X pins H b) (w0:∃m,W 0 m [] H)
  (turn:∀i m ys H',W i m ys H'->(J.stop i H'/\∀p,H' p=Vo->Q (.ref p) (upd H' p (.lst ys))) ∨
   (J.go i H'/\ys.length<sizeLine/\∃N:List V->Hp->Prop,(∀ys' H2,N ys' H2->∃m',m'<m/\W (i+1) m' ys' H2)/\∀x H2,J.yld i H' x H2->g x (dv own.length js σ) H2 λad M=>tc ad M λb H4=>
    if b=true then te ad H4 λv H5=>N (ys++[v]) H5 else N ys H4))
  (fin:∀D C s' ys H',H' D=Vo->Inv X pins σ (upd H' D (.lst ys)) s'->cC X pins (upd H' D (.lst ys)) C->(∃m,s'.heap.Ns C m)->s.heap.objs.size<=C->Q (.ref D) (upd H' D (.lst ys))->RR (.ref D) C (.ok .next) s') :
  Vf (Vg X.prog X.w) X.A (newList []) (λacc G=>Vf (Vg X.prog X.w) X.A (newFunctionEnv sc X.env.globals (dW sc.names X.env.cells) [] X.env.qual Vo .none (Vn X.env)) (λa2 ah=>
   codeAny (Vg X.prog X.w) X.A (.compStart (.ListComp elt [⟨tg,iter,ifs,0⟩] sc pos) 0 (.ref it) acc { a2 with scope:=relabel sc X.env }) (RR acc a2.locals) ah) E G) E s:=by
 have hlt:∀b∈fp,b<s.heap.objs.size:=λb f=>by obtain⟨o,e,_⟩:=(T 0).obj 0 s.heap st b f;exact F0 e
 refine wpAny_newObj_type (Di ?_);generalize a4:s.heap.push { cls:=.type "list",dict:=none,data:=.seq ([]:List Va).toArray }=H2 at *;have b1:H2.objs.size=s.heap.objs.size+1:=by rw[<-a4,Hh]
 have S:(pushCells (H2.push { cls:=.type "dict",data:=.dict #[] }) sc.names).Ns H2.objs.size (λ_=>none):=(Heap.Ns.new H2 (.type "dict")).keeps (pushCells_keeps _ _);have Z:∀x c,(je X sc H2.objs.size).lookup x=some c->(dW sc.names X.env.cells).lookup x=some c\/(pushCells (H2.push { cls:=.type "dict",data:=.dict #[] }) sc.names).IsCell c none:=λx c e=>by have e':(cellsFrom (H2.objs.size+1) sc.names (dW sc.names X.env.cells)).lookup x=some c:=e;rw[<-Hh H2 { cls:=.type "dict",data:=.dict #[] }]at e';exact o8 _ _ _ e'
 have old:∀b o,s.heap.get? b=Vn o->(pushCells (H2.push { cls:=.type "dict",data:=.dict #[] }) sc.names).get? b=Vn o:=λb o e=>pushCells_keeps _ _ b o (FY _ (a4 ▸ FY _ e));have b2:(pushCells (H2.push { cls:=.type "dict",data:=.dict #[] }) sc.names).get? s.heap.objs.size=Vn (fD [] 0):=pushCells_keeps _ _ _ _ (FY _ (a4 ▸ FZ _ rfl));generalize pushCells (H2.push { cls:=.type "dict",data:=.dict #[] }) sc.names=B at *;generalize bn:H2.objs.size=C at *;have below:∀b:Nat,b<s.heap.objs.size->b≠C:=λb f=>by lia
 generalize a0:s.heap.objs.size=D at *;let Y:Cx:=de X sc own js ⟨s,H,fp,C⟩;have J0:Inv Y [(D,fD [] 0)] (dv own.length js σ) H { s with heap:=B }:=
  Eh I hk hb hj hfp (by rw[a0];exact hlt) a0.symm (by rw[a0];exact b1) old b2 (λv z=>by cases z) S Z
 have a5:@Ne Nat D C:=by lia
 have statF:∀{P':List (Vb×Obj)} {H':Hp},(∀b∈fp,H' b=Vo)->(∀p∈P',p.1∉fp)->∀b∈fp,cC Y P' H' b:=λ{P' H'} hn L b f=>by
  obtain⟨f0,f1,f2,f3,f4,f5⟩:=hfp b f;refine⟨hn b f,λz=>below b (hlt b f) z,λz=>?_,.inl f,λx c e=>?_,λp a6 z=>?_⟩
  .rcases Gh.mp (I.stkSub b z)with e|h
   .exact f1 e
   .exact f2 h
  .rcases jN I.ok hb (C:=C) e with e|⟨e,_⟩
   .exact f4 x c e
   .have h9:@LT.lt Nat _ b s.heap.objs.size:=by rw[a0];exact hlt b f
    exact IC (show @LT.lt Nat _ b c by lia)
  .have:p∈P':=by simpa[Y,de]using a6
   exact L p this (by rw[z];exact f)
 have ai:D∉fp:=λz=>by have h9:@LT.lt Nat _ D D:=hlt D z;lia
 have aj:tn 0 B:=(T 0).keep 0 s.heap B st λb _ o e=>old b o e;have loop:∀G:Vc,G={ s with heap:=B } ->
   codeAny (Vg X.prog X.w) X.A (.compLoop (.ListComp elt [⟨tg,iter,ifs,0⟩] sc pos) 0 (.ref it) (.ref D) Y.env) (RR (.ref D) C) G:=by
  rintro G rfl;obtain⟨m0,w0⟩:=w0;refine FO (λn s'=>∃i ys l q H',Inv Y [(D,fD l q)] (dv own.length js σ) H' s'/\Vals ys l/\ys.length<=sizeLine/\tn i s'.heap/\(∀b∈fp,H' b=Vo)/\W i n ys H') ?_ m0
   ⟨0,[],[],0,H,J0,.nil,HM _,aj,λb f=>(hfp b f).1,w0⟩
  rintro n s3 ⟨i,ys,l,q,M,I3,rv,hz,ak,am,w3⟩;have pD:∀p∈[(D,fD l q)],p.1∉fp:=λp L=>by
   have e:p=(D,fD l q):=by simpa using L
   rw[e];exact ai
  rcases turn i n ys M w3 with⟨stop,qn⟩|⟨go,hlen,N,hN,step⟩
  .refine aJ ((T C).done i _ s3 _ M _ I3 (statF am pD) ak stop) λr s4 ⟨hr,I4⟩=>?_;subst hr;show RR (.ref D) C (.ok .next) s4;have O:=I4.pin (D,fD l q) (GL _ (Gb.mpr rfl));have b4:s4.heap.get? D=Vn (fD l q):=O.1;have nD:M D=Vo:=O.2.1;have U:Un (dH X.stack) fp H M s.heap s4.heap:=I4.base;have neD:∀b o,s.heap.get? b=Vn o->b≠D:=λb o e=>Gm (by have h9:@LT.lt Nat _ b s.heap.objs.size:=F0 e;lia);have neDH:∀b o,H b=Vn o->b≠D:=λb o e=>Gm (by have h9:@LT.lt Nat _ b s.heap.objs.size:=I.hok.lt e;lia);have U2:Un (dH X.stack) fp H (upd M D (.lst ys)) s.heap s4.heap:=
    ⟨U.keep,U.slot,λb o e n hx=>by rw[aA (neD b o e)];exact U.free b o e n hx,U.there,λb xs e=>by rw[aA (neDH b _ e)];exact U.tups b xs e,
     λb o u e=>by rw[aA (neDH b _ e)];exact U.frzs b o u e,λb ps e=>by rw[aA (neDH b _ e)];exact U.tbls b ps e⟩
   have an:bE X.prog X.w (upd M D (.lst ys)) s4.heap:=λb o e=>by
    by_cases f:b=D
    .subst f;rw[aE]at e;cases e;exact⟨hz,l,q,rv,b4⟩
    .rw[aA f]at e;exact(I4.hok b o e).stay (λc u _ z=>z) (λc z=>by rw[aA (cx z nD)];exact z) λc xs z=>by rw[aA (cx z nD)];exact z
   have IX:Inv X pins σ (upd M D (.lst ys)) s4:=I.call' (ch:=fp) I4.os U2 an I4.bare λb f=>by obtain⟨f0,f1,f2,f3,f4,f5⟩:=hfp b f;exact⟨f3,f1,f4,f5⟩
   obtain⟨m4,b5,_⟩:=I4.loc;have nC:M C=Vo:=I4.free;refine fin D C s4 ys M nD IX ?_ ⟨m4,b5⟩ (show @LE.le Nat _ D C by lia) (qn D nD);refine⟨by rw[aA (HQ a5)];exact nC,?_,?_,?_,?_,?_⟩
   .have h9:@LT.lt Nat _ X.env.locals s.heap.objs.size:=I.lt;exact IC (show @LT.lt Nat _ X.env.locals C by lia)
   .exact I.nofs (show @LE.le Nat _ s.heap.objs.size C by lia)
   .right;have h9:@LE.le Nat _ X.s₀.heap.objs.size s.heap.objs.size:=I.sz;exact(show @LE.le Nat _ X.s₀.heap.objs.size C by lia)
   .intro x c e;have h9:@LT.lt Nat _ c s.heap.objs.size:=I.cell_lt e;exact Gm (show @LT.lt Nat _ c C by omega)
   .intro p L;have h9:@LT.lt Nat _ p.1 s.heap.objs.size:=I.pin_lt L;exact Gm (show @LT.lt Nat _ p.1 C by omega)
  .refine aJ ((T C).item i _ s3 _ M _ I3 (statF am pD) ak go) λr s4 ⟨u,hr,h4⟩=>?_;subst hr;refine aJ h4 λ_ s5 ⟨x,H5,I5,r5,y5,a9,b7⟩=>?_;have b8:=I5.pinned (statF b7 pD) ((T 0).obj _ _ a9);refine aJ (hg _ _ s5 _ H5 x u _ b8 r5 (step x H5 y5)) λ_ s6 ⟨a1,H6,I6,q6⟩=>?_;refine aJ (ht _ _ s6 a1 H6 _ I6 q6) λok s7 ⟨H7,I7,q7⟩=>?_;have back:∀{s':Vc} {ap:St} {H':Hp} {ys':List V} {its':List Va} {q':Nat},Inv Y ([(D,fD its' q')]++iD fp s5.heap) ap H' s'->Vals ys' its'->ys'.length<=sizeLine->N ys' H' ->
     ∃m,m<n/\∃i ys l q H',Inv Y [(D,fD l q)] (dv own.length js σ) H' s'/\Vals ys l/\ys.length<=sizeLine/\tn i s'.heap/\(∀b∈fp,H' b=Vo)/\W i m ys H':=by
    intro s' ap H' ys' its' q' I' ba bb nn;obtain⟨m',hm,w'⟩:=hN ys' H' nn;have hpin:∀b∈fp,∀o,s5.heap.get? b=Vn o->s'.heap.get? b=Vn o/\H' b=Vo:=λb f o e=>by have:=I'.pin (b,o) (GL _ (GL _ (pG f e)));exact⟨this.1,this.2.1⟩
    refine⟨m',hm,i+1,ys',its',q',H',?_,ba,bb,(T 0).keep _ _ _ a9 λb f o e=>(hpin b f o e).1,λb f=>?_,w'⟩
    .have y:=I'.unpinned;obtain⟨mm,bc,_⟩:=id y.loc;refine⟨y.ok,y.os,y.bare,y.base,⟨mm,bc,λk x v e1 e2 e3=>?_⟩,y.cell,y.free,y.freeC,y.pin,y.hok,?_⟩
     .obtain⟨m1,bu,be⟩:=J0.loc;obtain⟨u1,r1,l1⟩:=be k x v e1 e2 e3;refine⟨u1,r1,?_⟩;obtain⟨k',j,rfl,ej,es⟩:=qJ e2;have aq:(own++js.map λj=>X.N.getD j "")[own.length+k']?=Vn x:=e1;rw[Gs (by omega),LC,F3,ej]at aq;have ex:X.N.getD j "" = x:=by simpa using aq
      have ar:=GF.mp hj j (Ga ej);simp only[GI,decide_eq_true_eq,beq_iff_eq]at ar;have P:sc.names.lookup x=some .free:=by rw[<-ex];exact ar.2
      rcases l1 with⟨z,zz⟩|⟨z,c,e,zz⟩
      .exfalso;obtain⟨k2,z1,z2⟩:=lg (sc:=sc) (env:=X.env) (show(relabel sc X.env).names.lookup x=Vn .local from z);rw[P]at z1;rcases z2 with z2|⟨_,z2⟩
       .rw[z2]at z1;cases z1
       .cases z2
      .refine .inr ⟨z,c,e,?_⟩;have ab:X.env.cells.lookup x=Vn c:=by
        rcases jN I.ok hb (C:=C) e with e|⟨_,e⟩
        .exact e
        .rw[P]at e;cases e
       obtain⟨ov,oc,as,bv⟩:=I.cell x c ab;have au:=old c oc as;obtain⟨oz,bg,bi⟩:=zz;have a3:B.get? c=Vn oz:=bg;rw[au]at a3;cases a3;have cnf:c∉fp:=λz'=>(hfp c z').2.2.2.2.1 x c ab rfl;obtain⟨sl,hh⟩:=y.base.any as (I.freeC x c ab) cnf;exact⟨_,hh,bi⟩
     .show(dv own.length js σ).length=_;exact J0.len
    .obtain⟨o,e,d⟩:=(T 0).obj _ _ a9 b f;exact(hpin b f o e).2
   cases ok with
   | false=>
    rw[G0 Gi]at q7 ⊢;exact back I7 rv hz q7
   | true=>
    rw[G5 rfl]at q7 ⊢;refine aJ (he _ _ s7 a1 H7 _ I7 q7) λR s8 ⟨v,H8,I8,r8,q8⟩=>?_;have O:=I8.pin (D,fD l q) (GL _ (GN _ (Gb.mpr rfl)));have ac:s8.heap.get? D=Vn { cls:=.type "list",data:=.seq l.toArray q }:=O.1;have hl:=rv.length;refine call_meets F.slot_list_append ⟨_,ac,rfl⟩ F.entry_list_append (F.args_list_append_2 _ _) (MW D l.toArray q R (by rw[F6];omega)) ⟨ac,?_⟩;have qq:=Mf ac (λa=>a.push R);have eqs:l.toArray.push R=(l++[R]).toArray:=by simp
    rw[eqs]at qq;obtain⟨q2,bl⟩:∃q2,(s8.heap.update D (JL λa=>a.push R)).get? D=Vn (fD (l++[R]) q2):=⟨_,qq⟩;have bm:Inv Y (iD fp s5.heap) a1 H8 s8:=I8.pins_of λp L=>I8.pin p (GL _ (GL _ L));have b0:H8 D=Vo:=O.2.1;have I9:Inv Y (iD fp s5.heap) a1 H8 { s8 with heap:=s8.heap.update D (JL λa=>a.push R),toks:=s8.toks }:=by
     refine bm.turned (it:=D) (λb o f e=>(Hq s8.heap (JL λa=>a.push R) (HQ f)).trans e) b0 a5 (.inr (show @LE.le Nat _ s.heap.objs.size D by omega)) (λx c e=>?_) λp L=>?_
     .rcases jN I.ok hb (C:=C) e with e|⟨e,_⟩
      .have h9:@LT.lt Nat _ c s.heap.objs.size:=I.cell_lt e;exact Gm (show @LT.lt Nat _ c D by omega)
      .exact IC (show @LT.lt Nat _ D c by omega)
     .have a6:p∈iD fp s5.heap:=by simpa[Y,de]using L
      obtain⟨h1,_⟩:=sh a6;exact λz=>ai (z ▸ h1)
    refine back (ys':=ys++[v]) (its':=l++[R]) (q':=q2) (I9.pins_of λp L=>?_) (rv.append (.cons r8 .nil)) (by rw[Gk,HN];omega) q8;rcases Gr.mp L with L|L
    .have e:p=(D,fD (l++[R]) q2):=by simpa using L
     subst e;refine⟨bl,b0,a5,λz=>?_,λv z=>by cases z⟩;have h9:@LT.lt Nat _ D s.heap.objs.size:=I.stk_lt (b:=D) z;omega
    .exact I9.pin p (GL _ L)
 exact codeAny_compStart_list (loop _ rfl) ((T 0).self X.A 0 { s with heap:=B } _ _ aj (loop _ rfl))
def eo{pos:Pos}(own:List Vm)(js:List Nat){i:TI}{te:TE}(hi:PI X tg iter i)(n:∀z,PG (de X sc own js z) tg g)(r:∀z,jY (de X sc own js z) ifs tc)
  (u:∀z,PE (de X sc own js z) elt te) (y:X.calm=true:=by rfl) (j:sc.kind=.function:=by rfl) (hb:fA sc X.env.scope=true:=by rfl) (B:lH sc X.N js=true:=by rfl)
  (hs:∀x,foldedSetIterable iter X.env x=pure x:=by intro _;rfl):PE X (.ListComp elt [⟨tg,iter,ifs,0⟩] sc pos) (oE own.length js i g tc te):=by
 intro pins s σ H Q I h;refine wpAny_comprehension_free rfl hs (pj λp a E=>I.ok.has p.1 (lQ hb a E)) j (λp a F=>vM hb a F) (aJ (hi pins s σ H _ I h) λv s1 h1=>aJ h1 λG s2 h2=>?_);obtain⟨it,fp,tn,J,H2,e,L,T,c,l,W,M,turn⟩:=h2;subst e;refine xK j hb B (λ_=>n _) (λ_=>r _) (λ_=>u _) L (λC=>Turn.at_ T y) c l M turn ?_;intro D C s' ys H' nD O P ⟨m,R⟩ _ q;refine⟨m,R,λh' d=>?_⟩;obtain⟨S,U,l,Z,f4,f5⟩:=P;exact⟨.ref D,_,O.turned (λb o f e=>(d.2 b f).trans e) S U Z f4 f5,rfl,q⟩
end
def dJ(c:Vb)(o:Obj):HO:=.ext λh=>h.get? c=Vn o
def A9(r:h.get? c=Vn o):bI P w H h c (dJ c o):=⟨r,⟨o,r⟩,λh1 h2 r1 k=>k o r1⟩
def cb(cs:List (Vb×Obj))(H:Hp):Hp:=λb=>match cs.lookup b with|some o=>Vn (dJ b o)|none=>H b
def bw(cs:List (Vb×Obj))(H:Hp):Hp:=λb=>match cs.lookup b with|some _=>Vo|none=>H b
section
variable {cs:List (Vb×Obj)} {H H':Hp} {b:Vb} {o:Obj} {P:Vd} {w:Ve} {h h':Vh} {fs ex:List Vb}
def fW(q:cs.lookup b=Vn o):cb cs H b=Vn (dJ b o):=by unfold cb;rw[q]
def dy(q:cs.lookup b=Vo):cb cs H b=H b:=by unfold cb;rw[q]
def i5(q:cs.lookup b=Vn o):bw cs H b=Vo:=by unfold bw;rw[q]
def df(q:cs.lookup b=Vo):bw cs H b=H b:=by unfold bw;rw[q]
def Ef{u:HO}(q:bw cs H b=Vn u):cs.lookup b=Vo/\H b=Vn u:=by
 cases e:cs.lookup b with
 | none=>rw[df e]at q;exact⟨rfl,q⟩
 | some o=>rw[i5 e]at q;cases q
def nK{u:HO}(a:∀b o,cs.lookup b=Vn o->H b=Vo)(q:H b=Vn u):cb cs H b=Vn u:=by
 cases e:cs.lookup b with
 | none=>rw[dy e];exact q
 | some o=>rw[a b o e]at q;cases q
def wI(hok:bE P w H h)(c:∀b o,cs.lookup b=Vn o->h.get? b=Vn o)(a:∀b o,cs.lookup b=Vn o->H b=Vo):bE P w (cb cs H) h:=λb u e=>by
 cases q:cs.lookup b with
 | some o=>rw[fW q]at e;cases e;exact A9 (c b o q)
 | none=>
  rw[dy q]at e;exact(hok b u e).stay (λd v _ g=>g) (λd hd=>nK a hd) λd xs hd=>nK a hd
def yd(hok:bE P w H h)(c:∀b o,cs.lookup b=Vn o->H b=Vn (dJ b o)):bE P w (bw cs H) h:=λb u e=>by
 obtain⟨q,e⟩:=Ef e;have a:∀d x,H d=Vn x->(∀f,x≠.ext f)->bw cs H d=Vn x:=λd x hd nx=>by
  cases z:cs.lookup d with
  | none=>rw[df z];exact hd
  | some o'=>rw[c d o' z]at hd;cases hd;exact absurd rfl (nx _)
 exact(hok b u e).stay (λd v _ g=>g) (λd hd=>a d _ hd λf z=>by cases z) λd xs hd=>a d _ hd λf z=>by cases z
def D9(u:Un fs ex (cb cs H) H' h h')(hok':bE P w H' h')(f:∀b o,cs.lookup b=Vn o->h.get? b=Vn o)(c:∀b o,cs.lookup b=Vn o->H b=Vo)(a:∀b o,cs.lookup b=Vn o->H' b=Vn (dJ b o)):Un fs ex H (bw cs H') h h' where
 keep:=λb o e n d nx=>by
  cases q:cs.lookup b with
  | none=>exact u.keep b o e (by rw[dy q];exact n) d nx
  | some o'=>
   rw[f b o' q]at e;cases e;exact(hok' b _ (a b _ q)).1
 slot:=λb o e n d nx=>by
  cases q:cs.lookup b with
  | none=>exact u.slot b o e (by rw[dy q];exact n) d nx
  | some o'=>
   rw[f b o' q]at e;cases e;exact⟨_,(hok' b _ (a b _ q)).1⟩
 free:=λb o e n nx=>by
  cases q:cs.lookup b with
  | none=>rw[df q];exact u.free b o e (by rw[dy q];exact n) nx
  | some o'=>exact i5 q
 there:=u.there
 tups:=λb xs e=>by
  cases q:cs.lookup b with
  | none=>rw[df q];exact u.tups b xs (by rw[dy q];exact e)
  | some o'=>rw[c b o' q]at e;cases e
 frzs:=λb o x e=>by
  cases q:cs.lookup b with
  | none=>rw[df q];exact u.frzs b o x (by rw[dy q];exact e)
  | some o'=>rw[c b o' q]at e;cases e
 tbls:=λb ps e=>by
  cases q:cs.lookup b with
  | none=>rw[df q];exact u.tbls b ps (by rw[dy q];exact e)
  | some o'=>rw[c b o' q]at e;cases e
def Ah(u:Un fs ex (bw cs H) H' h h')(a:∀b o,cs.lookup b=Vn o->H b=Vn (dJ b o)):Un fs ex H (cb cs H') h h' where
 keep:=λb o e n c nx=>by
  cases q:cs.lookup b with
  | none=>exact u.keep b o e (by rw[df q];exact n) c nx
  | some o'=>rw[a b o' q]at n;cases n
 slot:=λb o e n c nx=>by
  cases q:cs.lookup b with
  | none=>exact u.slot b o e (by rw[df q];exact n) c nx
  | some o'=>rw[a b o' q]at n;cases n
 free:=λb o e n nx=>by
  cases q:cs.lookup b with
  | none=>rw[dy q];exact u.free b o e (by rw[df q];exact n) nx
  | some o'=>rw[a b o' q]at n;cases n
 there:=u.there
 tups:=λb xs e=>by
  cases q:cs.lookup b with
  | none=>rw[dy q];exact u.tups b xs (by rw[df q];exact e)
  | some o'=>rw[a b o' q]at e;cases e
 frzs:=λb o x e=>by
  cases q:cs.lookup b with
  | none=>rw[dy q];exact u.frzs b o x (by rw[df q];exact e)
  | some o'=>rw[a b o' q]at e;cases e
 tbls:=λb ps e=>by
  cases q:cs.lookup b with
  | none=>rw[dy q];exact u.tbls b ps (by rw[df q];exact e)
  | some o'=>rw[a b o' q]at e;cases e
end
structure FunR(P:Vd)(w:Ve)(K:FX)(mg:Vm->Option Va)(base:Vh)(k:Nat)(f:Vb)(pre:Hp->Prop)(R:List V->Hp->VK->Prop):Prop where
 at_:∀H h,bE P w H h->pre H->PySem.W.FnAt f h
 run:∀(A:Vi) (outer:List Env) (s:Vc) (H:Hp) (us:List Va) (vs:List V) (Q:VK),Room k A->Env0 P w K mg base A outer s H->pre H->Vals vs us->R vs H Q ->
  codeAny (Vg P w) A (.call (.ref f) ⟨us,[]⟩) (CR cQ outer P w H s Q E0) s
def sW(P:Vd)(w:Ve)(K:FX)(mg:Vm->Option Va)(base:Vh)(k:Nat)(a:TE)(ta:TA):TE:=λσ H Q=>a σ H λb H1=>∃f pre R,b=.ref f/\FunR P w K mg base k f pre R/\pre H1/\ta σ H1 λvs H2=>pre H2/\R vs H2 Q
def wL{K:FX}{k:Nat}{x:Vm}{p pos:Pos}{e:Vk}{es:List Vk}{g:TE}{ta:TA}{i:Vi}(l:Room k i)(m:PE X (.Name x p) g)(ha:PA X (e::es) ta)(hA:X.A=i:=by rfl)(n:X.prog=P:=by rfl)(o:X.w=w:=by rfl)(q:X.K=K:=by rfl)(y:X.mg=mg:=by rfl)(z:X.base=base:=by rfl)
  (B:starEach (e::es) X.env=(false,eval e X.env)::starEach es X.env:=by rfl) (c:(backTo pos (starEach es X.env)).any (·.1)=false:=by rfl):PE X (.Call (.Name x p) (e::es) [] pos) (sW P w K mg base k g ta):=by
 subst hA;subst n;subst o;subst q;subst y;subst z;intro pins s σ H Q I h;refine wpAny_Call_Name_kw (aJ (m pins s σ H _ I h) λM s1 ⟨v,H1,j,r1,⟨f,pre,R,ev,F,C,E⟩⟩=>?_);subst ev;cases r1;refine ML (F.at_ _ _ j.hok C) (aJ (ha pos pins s1 σ H1 _ j E) λus s2 ⟨vs,H2,d,G,⟨a,J⟩⟩=>?_) B c;refine⟨F.at_ _ _ d.hok a,?_⟩;refine wpAny_call (codeAny_mono (F.run X.A X.stack s2 H2 us vs Q l d.env0 a G J) λr s' b=>?_);cases r with
 | error e=>exact HY b
 | ok L=>
  cases L with
  | ret u=>exact d.after b
  | next=>exact HY b
  | brk=>exact HY b
  | cont=>exact HY b
structure Cap where
 n:Vm
 c:Vb
 o:Obj
 v:V
abbrev cellsOf(cp:List Cap):List (Vb×Obj):=cp.map λe=>(e.c,e.o)
structure CapAt(X:Cx)(σ:St)(h:Vh)(js:List Nat)(cp:List Cap):Prop where
 len:cp.length=js.length
 at_:∀(i j:Nat) (e:Cap),js[i]?=Vn j->cp[i]?=Vn e->X.N[j]?=Vn e.n/\X.env.cells.lookup e.n=Vn e.c/\σ[j]?=Vn (Vn e.v)/\h.get? e.c=Vn e.o/\∃u,e.o.data=.cell (Vn u)/\RelV e.v u
def iP(h:(cellsOf cp).lookup b=Vn o):∃e∈cp,e.c=b/\e.o=o:=by
 have a:(b,o)∈cellsOf cp:=by
  have go:∀{l:List (Vb×Obj)},l.lookup b=Vn o->(b,o)∈l:=by
   intro l;induction l with
   | nil=>intro h;cases h
   | cons x r d=>
    intro h;obtain⟨y,z⟩:=x;rw[GS]at h;cases hb:b == y with
    | true=>rw[hb]at h;cases h;rw[beq_iff_eq.mp hb];exact F7
    | false=>rw[hb]at h;exact F4 _ (d h)
  exact go h
 obtain⟨e,f,eq⟩:=G6.mp a;cases eq;exact⟨e,f,rfl,rfl⟩
def EX(h:e∈cp):∃o,(cellsOf cp).lookup e.c=Vn o:=by
 induction cp with
 | nil=>cases h
 | cons x r a=>
  show ∃o,KG e.c ((x.c,x.o)::cellsOf r)=Vn o;rw[GS];cases hb:e.c == x.c with
  | true=>exact⟨_,rfl⟩
  | false=>
   rcases Gh.mp h with rfl|h
   .simp at hb
   .exact a h
def mK(sc:Scope)(N:List Vm)(js:List Nat):Bool:=js.all λj=>decide (j<N.length) && (sc.names.lookup (N.getD j "") == Vn .cell)
section
variable {X:Cx} {pins:List (Vb×Obj)} {σ:St} {H:Hp} {s:Vc}
theorem Inv.capAt(I:Inv X pins σ H s):∀{js:List Nat},mK X.env.scope X.N js=true->(∀j∈js,∃v,σ[j]?=Vn (Vn v))->∃cp,CapAt X σ s.heap js cp
 | [],_,_=>⟨[],rfl,λi j e h=>by simp at h⟩
 | j::js,p,f=>by
  have a:(decide (j<X.N.length) && (X.env.scope.names.lookup (X.N.getD j "") == Vn .cell))=true/\mK X.env.scope X.N js=true:=by simpa[mK]using p
  obtain⟨cp,b⟩:=I.capAt (js:=js) a.2 λi hi=>f i (F4 _ hi);obtain⟨v,ev⟩:=f j F7;have h1:=a.1;simp only[GI,decide_eq_true_eq,beq_iff_eq]at h1;have g:X.N[j]?=Vn (X.N.getD j ""):=by rw[Hb,F2 h1.1];rfl
  obtain⟨m,x,q⟩:=I.loc;obtain⟨u,r,l⟩:=q j _ v g ev (.inr (.inl h1.2));rcases l with⟨z,_⟩|⟨_,c,w,o,ho,hd⟩
  .have n:X.env.scope.names.lookup (X.N.getD j "")=Vn .local:=z;rw[h1.2]at n;cases n
  .refine⟨⟨X.N.getD j "",c,o,v⟩::cp,by simp[b.len],λi k e h2 d=>?_⟩;cases i with
   | zero=>
    cases h2;cases d;exact⟨g,w,ev,ho,u,hd,r⟩
   | succ i=>
    exact b.at_ i k e h2 d
def CapAt.mem(C:CapAt X σ h js cp)(a:e∈cp):X.env.cells.lookup e.n=Vn e.c/\h.get? e.c=Vn e.o/\∃u,e.o.data=.cell (Vn u)/\RelV e.v u:=by
 obtain⟨i,hi⟩:=GR a;have b:i<js.length:=by rw[<-C.len];exact(F9.mp hi).1
 obtain⟨_,h2,_,d,f⟩:=C.at_ i _ e (F2 b) hi;exact⟨h2,d,f⟩
def Ci{f:Vb}{Q:VK}(F:FnOk X.prog X.w X.K X.mg X.base cQ k f fd ps sp)(y:Room k X.A)(hb:Binds X.K fd ps [])
  (I:Inv X pins σ H s) (C:CapAt X σ s.heap js cp) (hfn:∀e∈cp,X.fn e.n=true) (r:Vals vs us)
  (h:sp vs (cb (cellsOf cp) H) (λv H'=>(∀b o,(cellsOf cp).lookup b=Vn o->H' b=Vn (dJ b o))/\Q v (bw (cellsOf cp) H')) E0):Vf (Vg X.prog X.w) X.A (call (.ref f) us) (EP X pins σ Q) X.xe s:=by
 have l:∀b o,(cellsOf cp).lookup b=Vn o->s.heap.get? b=Vn o:=λb o e=>by obtain⟨x,c,rfl,rfl⟩:=iP e;exact(C.mem c).2.1
 have p:∀b o,(cellsOf cp).lookup b=Vn o->H b=Vo:=λb o e=>by obtain⟨x,c,rfl,rfl⟩:=iP e;exact I.freeC _ _ (C.mem c).1
 have hab:∀b o,(cellsOf cp).lookup b=Vn o->X.s₀.heap.objs.size<=b:=λb o e=>by obtain⟨x,c,rfl,rfl⟩:=iP e;exact I.ok.cab _ _ (hfn x c) (C.mem c).1
 have a:=I.env0;have B:Env0 X.prog X.w X.K X.mg X.base X.A X.stack s (cb (cellsOf cp) H):=by
  refine⟨a.frames,a.mod,λb o e=>⟨(a.bs b o e).1,?_⟩,a.bsz,a.funs,λb d=>?_,wI a.hok l p,a.bare⟩
  .cases q:(cellsOf cp).lookup b with
   | none=>rw[dy q];exact(a.bs b o e).2
   | some o'=>exact absurd (GA (F0 (I.ok.bs b o e).1) (hab b o' q)) (Hy _)
  .cases q:(cellsOf cp).lookup b with
   | none=>rw[dy q];exact a.frf b d
   | some o'=>
    exfalso;rcases Gh.mp (I.stkSub b d)with z|z
    .obtain⟨m,⟨E,es,ep,ho,hd,_⟩,_⟩:=I.loc;obtain⟨x,c,rfl,rfl⟩:=iP q;obtain⟨_,g,u,G,_⟩:=C.mem c;rw[<-z,g]at ho;cases ho;rw[G]at hd;cases hd
    .obtain⟨_,E,ho,_⟩:=I.ok.funs.mem z;exact absurd (GA (F0 ho) (hab b o' q)) (Hy _)
 have J:us.length=ps.length:=by rw[<-r.length];exact F.len _ _ _ _ h
 refine wpAny_call (codeAny_mono (F.run X.A X.stack s (cb (cellsOf cp) H) ⟨us,[]⟩ us vs _ E0 y B (by have:=hb s us I.kIn (by simpa using J);rw[HW]at this;exact this) r h) λr s' i=>?_);cases r with
 | error e=>exact HY i
 | ok L=>
  cases L with
  | ret u=>
   obtain⟨v,H',os,bare,un,hok,M,j,q⟩:=i;exact I.after ⟨v,bw (cellsOf cp) H',os,bare,D9 un hok l p j,yd hok j,M,q⟩
  | next=>exact HY i
  | brk=>exact HY i
  | cont=>exact HY i
def kA(sp:Sp)(js:List Nat)(cells:List (Vm×Vb))(N:List Vm)(ta:TA):TE:=λσ H Q=>ta σ H λvs H1=>(∀j∈js,∃v,σ[j]?=Vn (Vn v)) ∧
 ∀cp:List Cap,cp.length=js.length->(∀(i j:Nat) (e:Cap),js[i]?=Vn j->cp[i]?=Vn e->N[j]?=Vn e.n/\cells.lookup e.n=Vn e.c/\σ[j]?=Vn (Vn e.v)/\H1 e.c=Vo/\∃u,e.o.data=.cell (Vn u)/\RelV e.v u) ->
  sp vs (cb (cellsOf cp) H1) (λv H'=>(∀b o,(cellsOf cp).lookup b=Vn o->H' b=Vn (dJ b o))/\Q v (bw (cellsOf cp) H')) E0
def nG{x:Vm}{k j:Nat}{e:Vk}{es:List Vk}{t:TA}{p pos:Pos}(js:List Nat)(C:Cal X.prog X.w X.K X.mg X.base x j ps sp)(m:Room k X.A)(ha:PA X (e::es) t)(c:j<=k:=by decide)(n:Gl X x:=by rfl)(d:(x == ("__debug__":Vm))=false:=by decide)
  (o:mK X.env.scope X.N js=true:=by rfl) (hfn:∀y,X.fn y=true:=by intro _;rfl)
  (u:starEach (e::es) X.env=(false,eval e X.env)::starEach es X.env:=by rfl) (g:(backTo pos (starEach es X.env)).any (·.1)=false:=by rfl) :
  PE X (.Call (.Name x p) (e::es) [] pos) (kA sp js X.env.cells X.N t):=by
 obtain⟨f,fd,v,z,hb,F⟩:=C.ex;intro pins s σ H Q I h;refine wpAny_Call_Name_kw (j4 I n v ?_ d);refine MJ I.ok.mod.kin z (aJ (ha pos pins s σ H _ I h) λus s1 ⟨vs,H1,b,r,B,q⟩=>⟨b.kIn,?_⟩) u g;obtain⟨cp,a⟩:=b.capAt o B;refine Ci F (m.mono c) hb b a (λe _=>hfn _) r (q cp a.len λi j e h1 h2=>?_);obtain⟨E,l,G,_,J⟩:=a.at_ i j e h1 h2;exact⟨E,l,G,b.freeC _ _ l,J⟩
end
def fN(f c:Vb)(q:Vm)(params:Arguments)(body:Vk)(scope:Scope)(cl:List (Vm×Vb)):HO:=.ext λh=>∃pm ctv,h.get? f=Vn (Ik "<lambda>" q params body scope cl pm c ctv)
def vI{f:Vb}(r:h.get? f=Vn (Ik "<lambda>" q params body scope cl pm c ctv)):bI P w H h f (fN f c q params body scope cl):=
 ⟨⟨pm,ctv,r⟩,⟨_,r⟩,λh1 h2 ⟨a,b,g⟩ k=>⟨a,b,k _ g⟩⟩
def jT(sc:Scope):Bool:=sc.names.all λp=>sc.names.lookup p.1 == Vn p.2
def pZ(sc out:Scope):Bool:=sc.names.all λp=>p.2 != .free || out.names.lookup p.1 == Vn .cell || out.names.lookup p.1 == Vn .free
def uo(h:jT sc=true){p:Vm×NameKind}(a:p∈sc.names):sc.names.lookup p.1=Vn p.2:=by simpa using GF.mp h p a
def uY(h:pZ sc out=true){p:Vm×NameKind}(a:p∈sc.names)(b:p.2=.free):out.names.lookup p.1=Vn .cell\/out.names.lookup p.1=Vn .free:=by have:=GF.mp h p a;simp[b]at this;exact this
structure ClOk(sc:Scope)(cells cl:List (Vm×Vb)):Prop where
 one:jT sc=true
 fr:∀x c,cl.lookup x=Vn c->sc.names.lookup x=Vn .free/\cells.lookup x=Vn c
 has:∀x,sc.names.lookup x=Vn .free->∃c,cl.lookup x=Vn c
 inj:∀x y c,cl.lookup x=Vn c->cl.lookup y=Vn c->x=y
def Dd(ok:X.Ok)(hsc:jT sc=true)(ho:pZ sc X.env.scope=true):ClOk sc X.env.cells (dW sc.names X.env.cells):=by
 have fr:∀x c,(dW sc.names X.env.cells).lookup x=Vn c->sc.names.lookup x=Vn .free/\X.env.cells.lookup x=Vn c:=λx c h=>by
  rcases ly X.env.cells sc.names [] x c h with⟨h1,h2⟩|h1
  .obtain⟨d,hd⟩:=ok.has x (uY ho h1 rfl);refine⟨uo hsc h1,?_⟩;rw[hd]at h2 ⊢;rw[h2];rfl
  .simp at h1
 exact⟨hsc,fr,λx h=>xE (jl h),λx y c h1 h2=>ok.inj x y c (fr x c h1).2 (fr y c h2).2⟩
section
variable {X:Cx} {pins:List (Vb×Obj)} {σ:St} {H:Hp} {s:Vc}
def De{P f:Vb}{ps more:Array Va}(I:Inv X pins σ H s)(h:H P=Vn (.tbl ps))(b:Jb P s.heap h')(j:s.heap.objs.size<=c)(i:c<f)(w:h'.get? P=Vn { cls:=.none,data:=.fields (ps++more) })
  (B:h'.CodeRec (.ref c) q) (C:h'.get? f=Vn (Ik "<lambda>" q params body scope cl pm c ctv)) :
  Inv X pins σ (upd (upd (upd H P (.tbl (ps++more))) c (dI c q)) f (fN f c q params body scope cl)) { s with heap:=h',toks:=tk }:=by
 have x:@LE.le Nat _ s.heap.objs.size f:=GC j (Io i);have l:H c=Vo:=I.hok.fresh j;have m:H f=Vo:=I.hok.fresh x;have E:c≠P:=λz=>by rw[z,h]at l;cases l
 have F:f≠P:=λz=>by rw[z,h]at m;cases m
 have old:∀b o,H b=Vn o->b≠P->upd (upd (upd H P (.tbl (ps++more))) c (dI c q)) f (fN f c q params body scope cl) b=Vn o:=λb o e n=>by rw[aA (cx e m),aA (cx e l),aA n];exact e
 have p:∀b,H b=Vo->b≠P:=λb e z=>by rw[z,h]at e;cases e
 refine I.un ⟨λa o e n _ _=>b a o (p a n) e,λa o e n _ _=>⟨o.slots,b a o (p a n) e⟩,λa o e n _=>?_,λa o e _=>?_,λa xs e=>old a _ e (λz=>by rw[z,h]at e;cases e),λa o u e=>old a _ e (λz=>by rw[z,h]at e;cases e),λa qs e=>?_⟩ λa u e=>?_
 .have lt:@LT.lt Nat _ a s.heap.objs.size:=F0 e;rw[aA (Gm (GA lt x)),aA (Gm (GA lt j)),aA (p a n)];exact n
 .by_cases z:a=P
  .rw[z];exact⟨_,w⟩
  .exact⟨o,b a o z e⟩
 .by_cases z:a=P
  .subst z;rw[h]at e;cases e;exact⟨more,by rw[aA (HQ F),aA (HQ E),aE]⟩
  .exact⟨#[],by rw[old a _ e z];simp⟩
 .by_cases z:a=f
  .subst z;rw[aE]at e;cases e;exact vI C
  .rw[aA z]at e;by_cases A:a=c
   .subst A;rw[aE]at e;cases e;exact wz B
   .rw[aA A]at e;by_cases r:a=P
    .subst r;rw[aE]at e;cases e;exact w
    .rw[aA r]at e;refine(I.hok a u e).stay (λd v hd g=>b d v ?_ g) (λd hd=>old d _ hd (λy=>by rw[y,h]at hd;cases hd)) λd xs hd=>old d _ hd (λy=>by rw[y,h]at hd;cases hd);rcases hd with rfl|hd
     .exact r
     .exact λy=>by rw[y,h]at hd;cases hd
end
def qj(P:Vb)(pos:Pos)(q:Vm)(params:Arguments)(body:Vk)(scope:Scope)(cells:List (Vm×Vb))(H:Hp)(Q:VK):Prop:=∀cl,ClOk scope cells cl ->
 (H P=Vn (.tbl #[])/\∀f c,H c=Vo->H f=Vo->c≠P->f≠P->f≠c->Q (.ref f) (upd (upd (upd H P (.tbl #[rawInt pos.line,rawInt pos.col,.ref c])) c (dI c q)) f (fN f c q params body scope cl))) ∨
 ∃c,H P=Vn (.tbl #[rawInt pos.line,rawInt pos.col,.ref c])/\H c=Vn (dI c q)/\∀f,H f=Vo->Q (.ref f) (upd H f (fN f c q params body scope cl))
def sG(P:Vb)(pos:Pos)(q:Vm)(params:Arguments)(body:Vk)(scope:Scope)(cells:List (Vm×Vb)):TE:=λ_ H Q=>qj P pos q params body scope cells H Q
def m8{P:Vb}(a:X.env.code=.ref c)(g:X.env.globals=Vj)(C:JG X.base c P)(B:X.base.BuiltinsAt X.mg P)(m:Vj≠P)(hsc:jT scope=true)(d:pZ scope X.env.scope=true)
  (u:params.defaults=[]) (v:params.kw_defaults=[]):PE X (.Lambda params body scope pos) (sG P pos (X.env.qual ++ "<lambda>") params body scope X.env.cells):=by
 intro pins s σ H Q I h;rw[arm_eval_Lambda,L9,v,u];refine FV (FW (FV (wpAny_holding (FW ?_))));have hcl:closureFor scope X.env=pure (dW scope.names X.env.cells):=pj λp E i=>I.ok.has p.1 (uY d E i);have h:=h _ (Dd I.ok hsc d);have y:JG s.heap c P:=C.keeps λb o e=>(I.bs b o e).1;have z:s.heap.Ns Vj X.mg:=by obtain⟨o,es,ep,e,r⟩:=I.ok.mod.glob;exact⟨o,es,ep,(I.bs _ _ e).1,r⟩
 have hb:s.heap.BuiltinsAt X.mg P:=by obtain⟨bm,o,F,G,L,M,N,O⟩:=B;exact⟨bm,o,F,G,L,M,(I.bs _ _ N).1,O⟩
 rcases h with⟨j,q⟩|⟨c',j,R,q⟩
 .have l:s.heap.get? P=Vn (JH #[]):=I.hok P _ j;refine K2 hcl g z a y l trivial rfl m hb λc' ctv h' tk w hge hlt hrec x=>?_;have S:H c'=Vo:=I.hok.fresh hge;have i:@LE.le Nat _ s.heap.objs.size h'.objs.size:=GC hge (Io hlt);have T:H h'.objs.size=Vo:=I.hok.fresh i;have A:@LT.lt Nat _ P s.heap.objs.size:=F0 l;have J:=De (cl:=dW scope.names X.env.cells) (tk:=tk) (f:=h'.objs.size) (h':=h'.push (Ik "<lambda>" (X.env.qual ++ "<lambda>") params body scope (dW scope.names X.env.cells) ((X.mg "__name__").getD .none) c' ctv)) (more:=#[rawInt pos.line,rawInt pos.col,.ref c']) I j (λb o n e=>FY _ (w b o n e)) hge hlt (FY _ x) (hrec.push _) (FZ _ rfl);exact⟨.ref h'.objs.size,_,J,rfl,q _ c' S T (IC (GA A hge)) (IC (GA A i)) (IC hlt)⟩
 .have l:s.heap.get? P=Vn (JH #[rawInt pos.line,rawInt pos.col,.ref c']):=I.hok P _ j;refine Kf (cv:=.ref c') hcl g z a y l trivial (by simp[codeAmong,rawInt]) hb λctv h' tk w hge=>?_;exact⟨.ref h'.objs.size,_,I.laid (λb o e=>FY _ (w b o e)) hge (vI (FZ _ rfl)),rfl,q _ (I.hok.fresh hge)⟩
def oF{K:FX}{Q:VK}{T:Vb}(v:cV K x q pos.line pos.col H)(e:Hm K x=Vn (c,T))
  (h:∀f c' cl H',ClOk scope cells cl->Et H H'->cV K x q pos.line pos.col H'->(∀y m p k2,(∀d a,Hm K y=Vn (d,a)->a≠T)->cV K y m p k2 H->cV K y m p k2 H')->H' f=Vn (fN f c' q params body scope cl)->H' c'=Vn (dI c' q)->Q (.ref f) H'):qj T pos q params body scope cells H Q:=by
 intro cl hcl;rcases v c T e with j|⟨c',j,l⟩
 .refine .inl ⟨j,λf c' B r C E w=>?_⟩;have old:∀b o,H b=Vn o->b≠T->upd (upd (upd H T (.tbl #[rawInt pos.line,rawInt pos.col,.ref c'])) c' (dI c' q)) f (fN f c' q params body scope cl) b=Vn o:=λb o hb n=>by rw[aA (cx hb r),aA (cx hb B),aA n];exact hb
  refine h f c' cl _ hcl (λb o hb n=>old b o hb λz=>by rw[z,j]at hb;cases hb;exact n _ rfl) (λd a i=>.inr ⟨c',?_,?_⟩) (λy m p k2 A s d a i=>?_) aE ?_
  .rw[e]at i;cases i;rw[aA (HQ E),aA (HQ C),aE]
  .rw[aA (HQ w),aE]
  .rcases s d a i with g|⟨F,G,u⟩
   .exact .inl (old _ _ g (A d a i))
   .exact .inr ⟨F,old _ _ G (A d a i),old _ _ u λz=>by rw[z,j]at u;cases u⟩
  .rw[aA (HQ w),aE]
 .refine .inr ⟨c',j,l,λf r=>?_⟩;have ex:Ext H (upd H f (fN f c' q params body scope cl)):=bh r;exact h f c' cl _ hcl ex.et (cV.ext ex v) (λy m p k2 _ s=>s.ext ex) aE (ex _ _ l)
def nh{P:Vb}{Q:VK}(h:qj P pos q params body scope cells H Q):sG P pos q params body scope cells σ H Q:=h
theorem jP{x:Vm}{c:Vb}:∀(names:List (Vm×NameKind)) (n:Nat) (a acc:List (Vm×Vb)),(cellsFrom n names (a++acc)).lookup x=Vn c->acc.lookup x=Vn c\/(cellsFrom n names a).lookup x=Vn c
 | [],_,a,acc,h=>by
  unfold cellsFrom at h ⊢;rw[List.lookup_append]at h;cases q:a.lookup x with
  | none=>rw[q]at h;exact .inl h
  | some d=>rw[q]at h;exact .inr h
 | (y,k)::r,n,a,acc,h=>by
  unfold cellsFrom at h ⊢;by_cases b:(k == NameKind.cell)=true
  .rw[G5 b]at h ⊢;exact jP r (n+1) ((y,n)::a) acc h
  .rw[G0 b]at h ⊢;exact jP r n a acc h
structure InL(s₀:Vc)(L:Vb)(m:Vm->Option Va)(own:List (Vm×Vb))(cm:Vm->Option Va)(s:Vc):Prop where
 same:∃h' tk,s={ s₀ with heap:=h',toks:=tk }
 ns:s.heap.Ns L m
 keep:∀b o,s₀.heap.get? b=Vn o->s.heap.get? b=Vn o
 fresh:s₀.heap.objs.size<=L
 cell:∀n c,own.lookup n=Vn c->s.heap.IsCell c (cm n)
 apart:own.Pairwise λx y=>x.2≠y.2
 above:∀n c,(n,c)∈own->L<c
section
variable {M:Model} {A:Vi} {E:Va->Vc->Prop} {s₀ s:Vc} {m cm:Vm->Option Va} {env:Env} {own:List (Vm×Vb)}
def InL.st{n:Vm}{v:Va}{Q:Unit->Vc->Prop}(x:InL s₀ env.locals m own cm s)(i:env.scope.kind=.function)(j:env.kindOf n=Vn .local)
  (h:∀s',InL s₀ env.locals (λy=>if y=n then Vn v else m y) own cm s'->Q () s'):Vf M A (storeName env n v) Q E s:=by
 refine wpAny_storeName_local j x.ns (λh' d a=>h _ ⟨?_,d,λb o e=>?_,x.fresh,λk c f=>?_,x.apart,x.above⟩) (by rw[i];rfl)
 .obtain⟨g,tk,rfl⟩:=x.same;exact⟨h',_,rfl⟩
 .exact a.extBut b o (Gm (GA (F0 e) x.fresh)) (x.keep b o e)
 .exact(x.cell k c f).sameBut a (IC (x.above k c (Hl f)))
def InL.stC{n:Vm}{v:Va}{Q:Unit->Vc->Prop}(x:InL s₀ env.locals m own cm s)(l:env.scope.kind=.function)(p:env.kindOf n=Vn .cell)
  (q:env.cells.lookup n=Vn c) (ho:own.lookup n=Vn c)
  (h:∀s',InL s₀ env.locals m own (λy=>if y=n then Vn v else cm y) s'->Q () s'):Vf M A (storeName env n v) Q E s:=by
 have g:=x.above n c (Hl ho);refine wpAny_storeName_cell l p q (x.cell n c ho) λh' i d=>h _ ⟨?_,x.ns.sameBut d (Gm g),λb o e=>?_,x.fresh,λk c' a=>?_,x.apart,x.above⟩
 .obtain⟨j,tk,rfl⟩:=x.same;exact⟨h',_,rfl⟩
 .exact d.extBut b o (Gm (MZ (GA (F0 e) x.fresh) g)) (x.keep b o e)
 .by_cases f:k=n
  .subst f;rw[ho]at a;cases a;simpa using i
  .rw[G0 f];exact(x.cell k c' a).sameBut d λe=>f (name_of_addr x.apart (Hl a) (e ▸ Hl ho))
theorem InL.binds(f:Vm×Va->PUnit->Sem (ForInStep PUnit))(i:∀n v u,f (n,v) u=(do storeName env n v;pure (.yield ⟨⟩)))(g:env.scope.kind=.function):
  ∀(binds:List (Vm×Va)) (m cm:Vm->Option Va) (s:Vc) (Q:PUnit->Vc->Prop),InL s₀ env.locals m own cm s ->
   (∀x∈binds,env.kindOf x.1=Vn .local\/(env.kindOf x.1=Vn .cell/\∃c,env.cells.lookup x.1=Vn c/\own.lookup x.1=Vn c)) ->
   (∀s',InL s₀ env.locals (bindL env.kindOf binds m) own (bindC env.kindOf binds cm) s'->Q ⟨⟩ s')->Vf M A (forIn binds ⟨⟩ f) Q E s
 | [],m,cm,s,Q,x,_,h=>by exact FW (h s x)
 | (n,v)::r,m,cm,s,Q,x,hkind,h=>by
  rw[Jn,i];have l:∀y∈r,env.kindOf y.1=Vn .local\/(env.kindOf y.1=Vn .cell/\∃c,env.cells.lookup y.1=Vn c/\own.lookup y.1=Vn c):=λy o=>hkind y (F4 _ o);rcases hkind (n,v) F7 with d|⟨d,c,p,ho⟩
  .refine FV (FV (InL.st x g d λs' j=>FW (InL.binds f i g r _ _ s' Q j l λa b=>h a ?_)));unfold bindL bindC;rw[G5 d,G5 d];exact b
  .have e:¬env.kindOf n=Vn .local:=by rw[d];decide
   refine FV (FV (InL.stC x g d p ho λs' j=>FW (InL.binds f i g r _ _ s' Q j l λa b=>h a ?_)));unfold bindL bindC;rw[G0 e,G0 e];exact b
end
def fS(q:Vm)(scope:Scope)(L f:Vb)(cd:Va)(cl:List (Vm×Vb)):Env:=
 { scope:=scope,locals:=L,globals:=Vj,cells:=cellsFrom (L+1) scope.names cl,qual:=q ++ ".<locals>.",func:=Vn f,code:=cd,frame:=Vn L,builtins:=builtinsNs }
section
variable {M:Model} {A:Vi} {E:Va->Vc->Prop} {s:Vc}
def AN     {f : Vb}  {Q : Env -> Vc -> Prop} (i : scope.kind = .function) (hsc : jT scope = true) (hcl : ∀ x c, cl.lookup x = Vn c -> scope.names.lookup x = Vn .free)
    (hkind : ∀ x ∈ binds, scope.names.lookup x.1 = Vn .local ∨ scope.names.lookup x.1 = Vn .cell)
    (j : ∀ s', InL s s.heap.objs.size (bindL (fS q scope s.heap.objs.size f cd cl).kindOf binds λ_ => Vo) (cellsFrom (s.heap.objs.size + 1) scope.names []) (bindC (fS q scope s.heap.objs.size f cd cl).kindOf binds λ_ => Vo) s' -> Q (fS q scope s.heap.objs.size f cd cl) s') :
    Vf M A (newFunctionEnv scope Vj cl binds (q ++ ".<locals>.") (Vn f) cd Vo builtinsNs) Q E s := by
  simp only [newFunctionEnv, Option.isSome_none, GP, if_false];refine FV (wpAny_alloc ?_);refine FV (wpAny_layCells _ (λname kind cells => by cases d : kind == NameKind.cell <;> simp [d]) _ _ _ _ ?_);have ok := cellsFrom_ok scope.names (s.heap.push { cls := .type "frame", data := .dict #[] }) (s.heap.objs.size + 1) [] ⟨λ_ _ g => (nomatch g), List.Pairwise.nil⟩ (by rw [Hh]; exact Gn _);rw [Hh] at ok;rw [show ({ s with heap := s.heap.push { cls := .type "frame", data := .dict #[] } } : Vc).heap.objs.size = s.heap.objs.size + 1 from Hh ..];refine FV (InL.binds (s₀ := s) (env := fS q scope s.heap.objs.size f cd cl) (own := cellsFrom (s.heap.objs.size + 1) scope.names [])
    _ (λ_ _ _ => rfl) i binds (λ_ => Vo) (λ_ => Vo) _ _
    ⟨⟨_, _, rfl⟩, (Heap.Ns.new s.heap (.type "frame")).keeps (pushCells_keeps _ _), λb o e => pushCells_keeps _ _ b o (FY _ e), Gn _,
      λn c a => (ok.empty n c (Hl a)).1, ok.apart, λn c g => (ok.empty n c g).2⟩
    (λx l => ?_) λs' x => FW (j s' x))
  rcases hkind x l with h|h
  . exact .inl h
  . obtain ⟨c, a⟩ := HV.mp (Hw scope.names (s.heap.objs.size + 1) cl (.inl h))
    rcases jP scope.names (s.heap.objs.size + 1) [] cl a with h2|h2
    . rw [hcl _ _ h2] at h; cases h
    . exact .inr ⟨h, c, a, h2⟩
end
def j7(P:Vd)(w:Ve)(K:FX)(mg:Vm->Option Va)(base:Vh)(N:List Vm)(q:Vm)(scope:Scope)(f:Vb)(cd:Va)(cl:List (Vm×Vb))(A:Vi)(outer:List Env)(s:Vc)(H:Hp):Cx where
 prog:=P
 w:=w
 K:=K
 mg:=mg
 base:=base
 A:=A.deeper (fS q scope s.heap.objs.size f cd cl)
 N:=N
 s₀:=s
 H₀:=H
 env:=fS q scope s.heap.objs.size f cd cl
 outer:=outer
 stack:=fS q scope s.heap.objs.size f cd cl::outer
 ex:=[]
 calm:=true
 fn:=λx=>scope.names.lookup x == Vn .cell
 pn:=[]
 xe:=λ_ _=>False
structure Caps(H:Hp)(cl:List (Vm×Vb))(cp:List Cap):Prop where
 at_:∀e∈cp,cl.lookup e.n=Vn e.c/\H e.c=Vn (dJ e.c e.o)/\∃u,e.o.data=.cell (Vn u)/\RelV e.v u
 all:∀x c,cl.lookup x=Vn c->∃e∈cp,e.n=x/\e.c=c
def Caps.ext(e:Ext H H')(h:Caps H cl cp):Caps H' cl cp:=⟨λx a=>⟨(h.at_ x a).1,e _ _ (h.at_ x a).2.1,(h.at_ x a).2.2⟩,h.all⟩
def Caps.look(h:Caps H cl cp):∀b o,(cellsOf cp).lookup b=Vn o->H b=Vn (dJ b o):=λb o e=>by obtain⟨x,a,rfl,rfl⟩:=iP e;exact(h.at_ x a).2.1
structure LamSc(ps:List Vm)(sc:Scope):Prop where
 kind:sc.kind=.function
 co:sc.isCoroutine=false
 gen:sc.isGenerator=false
 nd:ps.Nodup
 par:∀x∈ps,sc.names.lookup x=Vn .local\/sc.names.lookup x=Vn .cell
theorem AE{K:FX}{f:Vb}
  (S:LamSc ps scope) (C:ClOk scope cells cl) (d:Caps H cl cp) (hd:A.handled=Vo) (l:Env0 P w K mg base A outer s H) (O:vs.length=ps.length) (r:Vals vs us)
  (x:InL s s.heap.objs.size (bindL (fS q scope s.heap.objs.size f cd cl).kindOf (ps.zip us) λ_=>Vo) (cellsFrom (s.heap.objs.size+1) scope.names []) (bindC (fS q scope s.heap.objs.size f cd cl).kindOf (ps.zip us) λ_=>Vo) s1) :
  Inv (j7 P w K mg base (ps++cp.map (·.n)) q scope f cd cl A outer s (bw (cellsOf cp) H)) [] (vs.map Vn++cp.map λe=>Vn e.v) (bw (cellsOf cp) H) s1:=by
 obtain⟨h1,tk,rfl⟩:=x.same;have L:=x.keep;have noA:∀b:Vb,b∉(j7 P w K mg base (ps++cp.map (·.n)) q scope f cd cl A outer s (bw (cellsOf cp) H)).ex:=λb z=>absurd (show b∈([]:List Vb)from z) (by simp);have nn:∀b,H b=Vo->bw (cellsOf cp) H b=Vo:=λb hb=>by
  cases z:(cellsOf cp).lookup b with
  | none=>rw[df z];exact hb
  | some o=>exact i5 z
 have obj:∀e∈cp,s.heap.get? e.c=Vn e.o:=λe m=>(l.hok _ _ (d.at_ e m).2.1).1;have clt:∀y c,cl.lookup y=Vn c->@LT.lt Nat _ c s.heap.objs.size:=λy c h=>by obtain⟨e,m,_,rfl⟩:=d.all y c h;exact F0 (obj e m)
 have F:∀y c,cl.lookup y=Vn c->bw (cellsOf cp) H c=Vo:=λy c h=>by obtain⟨e,m,_,rfl⟩:=d.all y c h;obtain⟨o,ho⟩:=EX m;exact i5 ho
 have G:∀y,scope.names.lookup y=Vn .free->∃c,cl.lookup y=Vn c/\(cellsFrom (s.heap.objs.size+1) scope.names cl).lookup y=Vn c:=λy g=>by
  obtain⟨c,I⟩:=C.has y g;obtain⟨c',B⟩:=HV.mp (Hw scope.names (s.heap.objs.size+1) cl (x:=y) (.inr (by rw[I];rfl)));rcases jf _ _ _ B with h|⟨_,h⟩
  .rw[I]at h;cases h;exact⟨c,I,B⟩
  .have:=uo C.one h;rw[g]at this;cases this
 refine⟨⟨l.mod,S.kind,rfl,rfl,Gn _,λy z c h1 h2=>?_,λy g=>?_,λy c h I=>?_,λ_=>hd,Lp l.frames,.inr ⟨rfl,rfl⟩,λb z=>absurd z (noA b),λb o e=>⟨(l.bs b o e).1,nn b (l.bs b o e).2⟩,l.bsz,λb _ _=>noA b,λb z=>absurd z (noA b),l.funs,λb hb=>nn b (l.frf b hb)⟩,
  rfl,l.bare,Un.kept L,⟨_,x.ns,λi y v h1 h2 Z=>?_⟩,λy c h=>?_,nn _ (l.hok.fresh (Gn _)),λy c h=>?_,λp J=>absurd (show p∈([]:List (Vb×Obj))from J) (by simp),(yd l.hok d.look).kept L,?_⟩
 .exact mn scope.names _ _ (λx c e=>JW (clt x c e)) C.inj h1 h2
 .rcases g with g|g
  .exact HV.mp (Hw scope.names _ _ (.inl g))
  .obtain⟨c,_,h⟩:=G y g;exact⟨c,h⟩
 .have g:scope.names.lookup y=Vn .cell:=by simpa[j7]using h
  have B:(cellsFrom (s.heap.objs.size+1) scope.names cl).lookup y=Vn c:=I;rcases jf _ _ _ B with h2|⟨h2,_⟩
  .rw[(C.fr y c h2).1]at g;cases g
  .exact Ju h2
 .by_cases hi:i<vs.length
  .have ha:vs[i]?=Vn v:=by
    rw[Gu (by simpa using hi),F3]at h2;cases e:vs[i]? with
    | none=>rw[e]at h2;cases h2
    | some a=>rw[e]at h2;cases h2;rfl
   obtain⟨u,E,M⟩:=r.get ha;have J:ps[i]?=Vn y:=by have j:(ps++cp.map (·.n))[i]?=Vn y:=h1;rw[Gu (by lia)]at j;exact j
   refine⟨u,M,?_⟩;rcases S.par y (Ga J)with k|k
   .exact .inl ⟨k,qD S.nd J E k⟩
   .obtain⟨c,e⟩:=HV.mp (Hw scope.names (s.heap.objs.size+1) cl (.inl k));refine .inr ⟨.inl k,c,e,?_⟩;rcases jP scope.names (s.heap.objs.size+1) [] cl e with N|N
    .rw[(C.fr y c N).1]at k;cases k
    .have Q:=x.cell y c N;rw[qm S.nd J E (by show scope.names.lookup y≠_;rw[k];decide)]at Q;exact Q
  .have j:(ps++cp.map (·.n))[i]?=Vn y:=h1;rw[Gs (by lia),F3]at j;rw[Gs (by simpa using J5 hi),F1,F3]at h2;rw[O]at h2;cases m:cp[i-ps.length]? with
   | none=>rw[m]at h2;cases h2
   | some e=>
    rw[m]at j h2;cases j;cases h2;have R:=Ga m;obtain⟨T,a2,u,E,M⟩:=d.at_ e R;have U:=(C.fr _ _ T).1;obtain⟨c,X,Y⟩:=G e.n U;rw[T]at X;cases X;exact⟨u,M,.inr ⟨.inr U,e.c,Y,e.o,L _ _ (obj e R),E⟩⟩
 .have h':(cellsFrom (s.heap.objs.size+1) scope.names cl).lookup y=Vn c:=h;rcases jP scope.names (s.heap.objs.size+1) [] cl h' with h2|h2
  .obtain⟨e,m,_,rfl⟩:=d.all y c h2;obtain⟨_,_,u,E,_⟩:=d.at_ e m;exact⟨Vn u,e.o,L _ _ (obj e m),E⟩
  .exact⟨_,x.cell y c h2⟩
 .have h':(cellsFrom (s.heap.objs.size+1) scope.names cl).lookup y=Vn c:=h;rcases jf _ _ _ h' with h2|⟨h2,_⟩
  .exact F y c h2
  .exact nn c (l.hok.fresh (Ju h2))
 .show(vs.map Vn++cp.map λe=>Vn e.v).length=(ps++cp.map (·.n)).length;simp[O]
def i6(f c:Vb)(q:Vm)(params:Arguments)(body:Vk)(scope:Scope)(cl:List (Vm×Vb))(cp:List Cap)(H:Hp):Prop:=H f=Vn (fN f c q params body scope cl)/\H c=Vn (dI c q)/\Caps H cl cp
theorem i6.ext{H H':Hp}(e:Ext H H'){f c:Vb}{q:Vm}{params:Arguments}{body:Vk}{scope:Scope}{cl:List (Vm×Vb)}{cp:List Cap}(h:i6 f c q params body scope cl cp H):i6 f c q params body scope cl cp H':=⟨e _ _ h.1,e _ _ h.2.1,h.2.2.ext e⟩
def B4{K:FX}{f:Vb}{R:List V->Hp->VK->Prop}(I:Hp->Prop)
  (S:LamSc ps scope) (C:ClOk scope cells cl) (bind:∀pm cv ctv us,us.length=ps.length->bindArgs (Lr "<lambda>" q params body scope cl pm cv ctv) ⟨us,[]⟩=pure (ps.zip us))
  (E:∀vs H Q,R vs H Q->vs.length=ps.length)
  (d:∀A outer s H vs Q,Room k (A.deeper (fS q scope s.heap.objs.size f (.ref c) cl))->i6 f c q params body scope cl cp H->I H->R vs H Q ->
   ∃te,PE (j7 P w K mg base (ps++cp.map (·.n)) q scope f (.ref c) cl A outer s (bw (cellsOf cp) H)) body te/\te (vs.map Vn++cp.map λe=>Vn e.v) (bw (cellsOf cp) H) λv H'=>(∀b o,(cellsOf cp).lookup b=Vn o->H' b=Vo)->Q v (cb (cellsOf cp) H')) :
  FunR P w K mg base (k+1) f (λH=>i6 f c q params body scope cl cp H/\I H) R:=by
 refine⟨λH h hok i=>?_,λA outer s H us vs Q l g i r y=>?_⟩
 .obtain⟨⟨pm,ctv,m⟩,_⟩:=hok f _ i.1.1;exact⟨_,_,_,_,m⟩
 .obtain⟨⟨F,G,a⟩,L⟩:=id i;obtain⟨⟨pm,ctv,m⟩,_⟩:=g.hok f _ F;obtain⟨M,_⟩:=g.hok c _ G;have lim:s.heap.NoLimit:=g.mod.nolimit.keeps λb o e=>(g.bs b o e).1;have B:=E vs H Q y;refine Ls l.depth m rfl S.co S.gen rfl M ?_;rw[bind _ _ _ us (by rw[<-r.length];exact B)];refine FW ?_;refine AN S.kind C.one (λx c h=>(C.fr x c h).1) (λz N=>?_) λs1 z=>?_
  .exact S.par z.1 (KQ N).1
  refine⟨lim.keeps z.keep,Lu ?_⟩;have J:=AE S C a l.hd g B r z;obtain⟨te,O,p⟩:=d A outer s H vs Q (l.deeper _) i.1 L y;refine wpAny_mono (O [] s1 _ _ _ J p) (λu s' ⟨v,H',j,T,U⟩=>?_) λe s' hs=>hs.elim;have obj:∀b o,(cellsOf cp).lookup b=Vn o->s.heap.get? b=Vn o:=λb o e=>(g.hok _ _ (a.look b o e)).1;have nfs:∀b o,(cellsOf cp).lookup b=Vn o->b∉dH outer:=λb o e hb=>by have:=g.frf b hb;rw[a.look b o e]at this;cases this
  have un:Un (dH outer) [] (bw (cellsOf cp) H) H' s.heap s'.heap:=j.base;exact⟨v,cb (cellsOf cp) H',j.os,j.bare,Ah un a.look,wI j.hok (λb o e=>un.keep b o (obj b o e) (i5 e) (nfs b o e) (by simp)) (λb o e=>un.free b o (obj b o e) (i5 e) (by simp)),T,U λb o e=>un.free b o (obj b o e) (i5 e) (by simp)⟩
section
variable {X:Cx}
def Aw:V->List V->Hp->VK->Prop:=λx vs H Q=>∃(n:Nat) (p:Vb) (xs:List V) (a:V) (d:PyData) (ds:List PyData) (j:Nat),x=.ref p/\vs=[a]/\bo H n a d/\H p=Vn (.lst xs)/\Paired (bo H n) xs ds/\n<=50/\(∃e,ds[j]?=Vn e/\IB e d=true)/\(∀m e,m<j->ds[m]?=Vn e->IB e d=false)/\j<2 ^ 32/\Q (.int (j:Int)) H
theorem FK{k:Nat}{l:Vi}(E:Room k l)(hA:X.A=l:=by rfl):jV X "list.index" Aw:=by
 subst hA;intro pins s σ H x xs v us Q I G J h;obtain⟨n,p,ys,a,d,ds,j,rfl,rfl,h1,h2,o,L,⟨e,r,M⟩,hno,N,q⟩:=h;cases G;obtain⟨u,rfl,O⟩:=J.one;have P:bo H (n+1) (.ref p) (.list ds):=.inr ⟨p,ys,ds,rfl,.inr ⟨h2,rfl⟩,o⟩;obtain⟨as,R⟩:=bo.reads I n h1 O;obtain⟨bs,S⟩:=bo.reads I (n+1) P rfl;have w:=bo.lay n h1;have z:=jW (λ{x d}=>bo.lay (H:=H) n) o;have Y:=E.units;obtain⟨_,b,nn,T,gt⟩:=I.hok p _ h2;cases S with
 | list B Z U C=>
  rw[gt]at B;cases B;cases U;have mp:=SeqAt.readsAll_map ds _ _ z.1 C;have hlen:b.length=ds.length:=by rw[<-mp,F1]
  have W:j<ds.length:=(F9.mp r).1;have f:j<b.toArray.size:=by rw[F6];lia
  have hat:∀m (c:m<b.toArray.size),ds[m]?=Vn (SeqAt.readOf s.heap b.toArray[m]):=λm c=>by
   have g:m<b.length:=by simpa using c
   rw[<-mp,F3];simp[g]
  refine call_meets LD ⟨_,gt,rfl⟩ PySem.F.entry_list_index (PySem.F.args_list_index_2 _ _) (SeqAt.list_indexAt p b.toArray nn Vo #[] u (λy=>IB (SeqAt.readOf s.heap y) d) j f (by lia) ?_ ?_)
   ⟨gt,SeqAt.items_eqAt C R z.1 w.1 (by lia),?_⟩
  .have:=hat j f;rw[r]at this;cases this;exact M
  .intro m c i;exact hno m _ i (hat m c)
  .exact⟨.int _,H,I.tok _,⟨_,rfl⟩,q⟩
end
def CM(hA:A.handled=Vo)(it t)(ne:t≠it)(ys):Draws P w A it [it,t] ys.size (λi v=>ys[i]?=Vn v) (λi h=>h.IsListIter it t i/\h.IsList t ys) where
 live:=λi h st=>by obtain⟨⟨o,ho,_⟩,_⟩:=st;exact⟨o,ho⟩
 frame:=λi h h' st k=>by obtain⟨⟨o,ho,r⟩,⟨u,a,q⟩⟩:=st;exact⟨⟨o,k it (by simp) o ho,r⟩,⟨u,k t (by simp) u a,q⟩⟩
 item:=λi s Q E hi st c=>wpAny_nextOf_list_item st.1 st.2 (x:=ys[i]) (by simp[hi]) λh' d b=>c _ h' s.toks (by simp[hi]) ⟨d,by obtain⟨u,a,q⟩:=st.2;exact⟨u,(b.2 t ne).trans a,q⟩⟩ b
 done:=λs Q E st e=>wpAny_nextOf_list_end hA st.1 st.2 (by simp) e
abbrev l9(h:Vh)(a:Vb):Vh:=h.push { cls:=.type "list_iterator",data:=.fields #[.ref a,.int 0 0] }
abbrev nR(h:Vh)(a:Vb):Vh:=(l9 h a).push { cls:=.type "enumerate",data:=.fields #[.none,.bool false,.ref h.objs.size,rawInt 0,.none,.none] }
open AutoSeq1 (wpAny_loadPart')in
def Eb(a:Vb)(ys:Array Va)(h:Obj):Meets (Builtin.«enumerate.__new__» ⟨[.type "enumerate",.ref a],[]⟩) (λ_ R s=>s.heap.get? a=Vn h/\s.heap.IsList a ys/\R (.ok (.ret (.ref (l9 s.heap a).objs.size))) { s with heap:=nR s.heap a }):=
 .of_wp λprog w A R s q=>by
  obtain⟨i,g,d,tk,os⟩:=s;obtain⟨ga,gt,q⟩:=q;have b:=sub_enumerate;obtain⟨o,go,e,n,gd⟩:=id gt;obtain⟨j,l,m,sl⟩:=o;simp only at e gd;subst e gd;have f:Heap.IsList (Lq ⟨i,g,d,tk,os⟩) a ys:=gt
  wp_walk using wpAny_loadPart' go
  refine wpAny_stack_any λst=>FW ?_;split
  .rename_i c _ _ _ _ _;cases(c == Value.type "enumerate")<;>(wp_walk using wpAny_loadPart' go,wpAny_pyIter_list f;exact⟨_,rfl,q⟩)
  .wp_walk using wpAny_loadPart' go,wpAny_pyIter_list f
   exact⟨_,rfl,q⟩
def zf(gt:s.heap.IsList a ys)
  (q:∀h',IsEnum h' (s.heap.objs.size+1) s.heap.objs.size 0 .none->h'.IsListIter s.heap.objs.size a 0->(∀c o,s.heap.get? c=Vn o->h'.get? c=Vn o)->Q (.ref (s.heap.objs.size+1)) { s with heap:=h' }) :
  Vf (Vg prog w) A (call (.type "enumerate") [.ref a]) Q E s:=by
 obtain⟨o,go,r⟩:=id gt;refine callType_new F.called_enumerate (by decide) (LL _) (Lc _) (λb=>F.args_object_init_2 b _) Ld (Eb a ys o) ⟨go,gt,?_⟩;have d:(l9 s.heap a).objs.size=s.heap.objs.size+1:=Hh ..;have k2:(nR s.heap a).get? (l9 s.heap a).objs.size=Vn _:=FZ _ rfl;have k1:(nR s.heap a).get? s.heap.objs.size=Vn _:=FY _ (FZ _ rfl);rw[d]at k2 ⊢;exact⟨⟨_,k2,rfl⟩,q _ k2 ⟨_,k1,rfl,rfl⟩ λc o x=>FY _ (FY _ x)⟩
def kG(K:FX)(a:Vb):It:=⟨(cW K a).go,λi H x H'=>∃p v,x=.ref p/\H p=Vo/\H'=upd H p (.tup [.int i,v])/\(cW K a).yld i H v H,(cW K a).stop⟩
theorem Fc{K:FX}{ps:Pos}(a e it)(ne:e≠it):Turn P w K (.Tuple elts kk ps) (kG K a) [e,it] e (λi h=>(∃old,IsEnum h e it i old)/\h.IsListIter it a i) where
 mem:=by simp
 obj:=λi h st b hb=>by
  obtain⟨⟨old,ge⟩,o,go,gc,gd⟩:=st;rcases Gh.mp hb with rfl|hb
  .exact⟨_,ge,λv z=>by cases(z)⟩
  .cases Gb.mp hb;exact⟨o,go,λv z=>by rw[gd]at z;cases z⟩
 keep:=λi h h' st k=>by obtain⟨⟨old,ge⟩,f⟩:=st;exact⟨⟨old,k e (by simp) _ ge⟩,f.at λo z=>k it (by simp) o z⟩
 item:=by
  intro X m n r B i pins s σ H E I g st C;subst m n r;obtain⟨⟨old,ge⟩,f⟩:=st;obtain⟨xs,x,j,G⟩:=C;obtain⟨c,J,p,Y⟩:=I.list j;obtain⟨u,W,Z⟩:=J.get G;have hi:i<c.toArray.size:=by have:=(F9.mp W).1;simpa using this
  have hA:X.A.in1.handled=Vo:=I.ok.hd B;have M:a≠it:=λz=>by obtain⟨o,ho,hcl,_⟩:=p.isList;obtain⟨o',N,d,_⟩:=f;rw[z,N]at ho;cases ho;rw[hcl]at d;exact absurd (Km d) (by decide)
  have O:e∉[it,a]:=λz=>by
   rcases Gh.mp z with z|z
   .exact ne z
   .cases Gb.mp z;obtain⟨o,ho,hcl,_⟩:=p.isList;rw[ge]at ho;cases ho;exact absurd (Km hcl) (by decide)
  refine wpAny_pyNext_enum_itemD (CM hA it a M c.toArray) ge ⟨f,show s.heap.IsList a c.toArray from p.isList⟩ hi ne O λy h' tk hy Q gs l gz gk=>⟨_,rfl,?_⟩;have ey:y=u:=by
   have:c[i]?=Vn y:=by simpa using hy
   rw[W]at this;exact(GK this).symm
  subst ey;have lt:∀b∈[e,it],b≠s.heap.objs.size:=λb hb=>by
   rcases Gh.mp hb with rfl|hb
   .exact Gm (F0 ge)
   .cases Gb.mp hb;obtain⟨o,ho,_⟩:=f;exact Gm (F0 ho)
  have I1:Inv X pins σ (upd H s.heap.objs.size (.tup [.int i,x])) { s with heap:=h',toks:=tk+1 }:=
   Inv.turnedNew (L:=[e,it]) I (λb o hb z=>gk b o (λq=>hb (by simp[q])) (λq=>hb (by simp[q])) z) g ⟨by show 2<=sizeLine;decide,[.int i tk,y],.cons ⟨tk,rfl⟩ (.cons Z .nil),⟨_,l,rfl,_,rfl⟩⟩
  have fe:cC X pins (upd H s.heap.objs.size (.tup [.int i,x])) e:=by obtain⟨c0,c1,c2,c3,c4,c5⟩:=g e (by simp);exact⟨by rw[aA (lt e (by simp))];exact c0,c1,c2,c3,c4,c5⟩
  refine wpAny_letOwnedTupleGo_enum (s:={ s with heap:=h',toks:=tk+1 }) Q λk R bk=>?_;refine⟨.ref s.heap.objs.size,upd H s.heap.objs.size (.tup [.int i,x]),Inv.same (s:={ s with heap:=h',toks:=tk+1 }) (k:=h') I1 fe bk.extBut,rfl,⟨_,x,rfl,I.hok.fresh (Gn _),rfl,rfl,λzs hzs=>by rw[I.list_inj hzs j];exact G⟩,⟨⟨y,by simpa using R⟩,gs.1.at λo z=>bk.extBut it o (HQ ne) z⟩,λb hb=>?_⟩;rw[aA (lt b hb)];exact(g b hb).1
 done:=by intro X m n r B i pins s σ H E I g st C;subst m n r;obtain⟨⟨old,ge⟩,f⟩:=st;obtain⟨xs,j,G⟩:=C;obtain⟨c,J,p,Y⟩:=I.list j;have hA:X.A.in1.handled=Vo:=I.ok.hd B;have l:s.TypeIs (.ref e) "enumerate":=⟨_,ge,rfl⟩;have hl:=J.length;unfold pyNext;refine FV (wpAny_attempt (GW (name:=GJ "__next__") l JU (wpAny_call_entry JU l LM ?_ (LA _))));show Vf _ _ (field (Value.ref e) 2 >>= _) _ _ _;refine FV (wpAny_field ge rfl (x:=Value.ref it) rfl ?_);refine FV (wpAny_nextOf_list_end hA f (show s.heap.IsList a c.toArray from p.isList) (by simp;lia) λh' x he S=>?_);obtain⟨o,ho,U⟩:=S;refine FV (wpAny_isInstance (s:={ s with heap:=h' }) (T:="StopIteration") (b:=true) ⟨o,ho,U⟩ isSubtype_stop ?_);exact FW ⟨rfl,Inv.same (k:=s.heap) I (g it (by simp)) he⟩
 self:=λ_ _ _ _ _ st h=>by obtain⟨⟨old,ge⟩,_⟩:=st;exact wpAny_pyIter_enum ge h
section
variable {K:FX} {σ:St} {H:Hp} {Q:VK}
def ou(K:FX):List V->Hp->(It->Hp->Prop)->Prop:=λvs H R=>∃a xs,vs=[.ref a]/\af K H a xs/\R (kG K a) H
def xB(K:FX)(ta:TA):TI:=λσ H R=>ta σ H λvs H1=>ou K vs H1 R
theorem nY{ps:Pos}(K:FX){a:Vk}{ta:TA}{p pos:Pos}(f:Gl X "enumerate")(g:X.mg "enumerate" = Vo)(ha:PA X [a] ta)(i:X.K=K:=by rfl)(hs:starEach [a] X.env=[(false,eval a X.env)]:=by rfl):
  PI X (.Tuple elts kk ps) (.Call (.Name "enumerate" p) [a] [] pos) (xB K ta):=by
 subst i;intro pins s σ H R I h;refine Call_ (fu I f g Kg (Hg (aJ (ha pos pins s σ H _ I h) λus s1 ⟨vs,H1,c,r1,j⟩=>?_) (by rw[hs];rfl) rfl));obtain⟨l,xs,e,m,q⟩:=j;subst e;obtain⟨u,rfl,n⟩:=vals1 r1;cases n;obtain⟨d,_,p1,_⟩:=c.list m;refine zf (p1.isList) λh' ge o k=>?_;refine wpAny_pyIter_enum ge ?_;refine⟨s1.heap.objs.size+1,[s1.heap.objs.size+1,s1.heap.objs.size],_,_,H1,rfl,c.kept k,Fc l (s1.heap.objs.size+1) s1.heap.objs.size (λz=>by have r:@Eq Nat _ _:=z;lia),⟨⟨_,ge⟩,o⟩,λb hb=>?_,q⟩;have le:@LE.le Nat _ s1.heap.objs.size b:=by
  rcases Gh.mp hb with rfl|hb
  .exact Ib _ _
  .cases Gb.mp hb;exact Gn _
 exact c.fpOk le (c.hok.fresh le)
def nT{a:TA}(h:a σ H λvs H1=>ou K vs H1 R):xB K a σ H R:=h
def oT(ha:af K H a xs)(h:R (kG K a) H):ou K [.ref a] H R:=⟨a,xs,rfl,ha,h⟩
theorem xx(Pv:Nat->List V->Hp->Prop)(A:xs.length<=sizeLine)(l:Pv 0 [] H)(o:∀i zs H,Pv i zs H->af K H a xs/\zs.length<=i)
  (hs:∀i u zs H p H',xs[i]?=Vn u->Pv i zs H->Ext H H'->H' p=Vn (.tup [.int i,u])->H p=Vo->g (.ref p) (dv n js σ) H' λc q=>tc c q λb h=>if b=true then te c h λv r=>Pv (i+1) (zs++[v]) r else Pv (i+1) zs h)
  (hd:∀zs H p,Pv xs.length zs H->H p=Vo->Q (.ref p) (upd H p (.lst zs))):hJ (kG K a) n js g tc te σ H Q:=by
 refine⟨λi m zs H=>m=xs.length-i/\i<=xs.length/\Pv i zs H,⟨xs.length,by simp,HM _,l⟩,?_⟩;rintro i m zs H ⟨rfl,hi,p⟩;obtain⟨d,B⟩:=o i zs H p;by_cases hlt:i<xs.length
 .refine .inr ⟨⟨xs,xs[i],d,by simp[hlt]⟩,by lia,Pv (i+1),λs H' f=>⟨xs.length-(i+1),by lia,rfl,hlt,f⟩,λx H' y=>?_⟩;obtain⟨pp,u,rfl,j,rfl,w⟩:=y;exact hs i u zs H pp _ (w.2 xs d) p (bh j) aE j
 .have e:i=xs.length:=by lia
  exact .inl ⟨⟨xs,d,by lia⟩,λf z=>hd zs H f (e ▸ p) z⟩
end
end L2
namespace L2.Og.Tb
open PySem
def nx(m i:Nat):Nat:=(i*5+1) % (m+1)
def it(m:Nat):Nat->Nat->Nat
 | 0,i=>i
 | n+1,i=>it m n (nx m i)
theorem mF(m:Nat):∀a b i,it m (a+b) i=it m b (it m a i)
 | 0,b,i=>by rw[IQ];rfl
 | a+1,b,i=>by rw[Ma];exact mF m a b (nx m i)
def pW(m:Nat):Nat->Nat->List Nat
 | 0,_=>[]
 | n+1,i=>i::pW m n (nx m i)
theorem rP{m:Nat}:∀{n i j:Nat},j∈pW m n i->∃k,k<n/\it m k i=j
 | 0,_,_,h=>by cases h
 | n+1,i,j,h=>by
  rcases Gh.mp h with rfl|h
  .exact⟨0,Nat.succ_pos _,rfl⟩
  .obtain⟨k,a,e⟩:=rP h;exact⟨k+1,Nat.succ_lt_succ a,e⟩
def good(m:Nat):Bool:=(GX (m+1)).all (λj=>(pW m (m+1) 0).contains j) && it m (m+1) 0 == 0
def B0:good 7=true:=by decide +kernel
def zu:good 31=true:=by decide +kernel
def AY:good 127=true:=by decide +kernel
def DR:good 511=true:=by decide +kernel
def Mask(m:Nat):Prop:=m=7\/m=31\/m=127\/m=511
theorem Mask.good{m:Nat}(h:Mask m):good m=true:=by
 rcases h with rfl|rfl|rfl|rfl
 .exact B0
 .exact zu
 .exact AY
 .exact DR
theorem yW(h:Mask m)(a:j<=m):∃k,k<=m/\it m k 0=j:=by have:=h.good;unfold Tb.good at this;rw[GI,GF]at this;have h1:=this.1 j (HK.mpr (by lia));rw[HZ]at h1;obtain⟨k,b,e⟩:=rP h1;exact⟨k,by lia,e⟩
def round0(h:Mask m):it m (m+1) 0=0:=by have:=h.good;unfold Tb.good at this;rw[GI]at this;exact eq_of_beq this.2
def reach(h:Mask m)(hi:i<=m)(e:j<=m):∃k,k<=m/\it m k i=j:=by
 obtain⟨a,ha,c⟩:=yW h hi;obtain⟨b,hb,d⟩:=yW h e;rcases GQ b a with hlt|hge
 .refine⟨m+1-a+b,by omega,?_⟩;rw[<-c,<-mF,show a+(m+1-a+b)=(m+1)+b by omega,mF,round0 h];exact d
 .refine⟨b-a,by omega,?_⟩;rw[<-c,<-mF,show a+(b-a)=b by omega];exact d
def lp(m:Nat):Nat->Nat×Nat->Nat×Nat
 | 0,s=>s
 | n+1,s=>lp m n (II m s.1 s.2)
theorem pC(m:Nat):∀n s,lp m (n+1) s=II m (lp m n s).1 (lp m n s).2
 | 0,s=>rfl
 | n+1,s=>by show lp m (n+1) (II m s.1 s.2)=_;rw[pC m n];rfl
theorem qK(m:Nat):∀n s,(lp m n s).2=s.2 / 32 ^ n
 | 0,s=>by simp[lp]
 | n+1,s=>by rw[pC m n s];show(lp m n s).2 / 32=_;rw[qK m n s,Nat.div_div_eq_div_mul,Nat.pow_succ]
theorem yf(m):∀n s,s.1<=m->(lp m n s).1<=m
 | 0,s,h=>h
 | n+1,s,h=>by rw[pC m n s];show(_ % (m+1))<=m;have:=JC ((lp m n s).1*5+1+(lp m n s).2 / 32) (show 0<m+1 by lia);lia
theorem xA(m:Nat):∀n i,(lp m n (i,0)).1=it m n i
 | 0,i=>rfl
 | n+1,i=>by show(lp m n (II m i 0)).1=it m n (nx m i);exact xA m n _
theorem sv(m:Nat):∀a b s,lp m (a+b) s=lp m b (lp m a s)
 | 0,b,s=>by rw[IQ];rfl
 | a+1,b,s=>by rw[Ma];exact sv m a b _
theorem wK(h:Mask m){i p j:Nat}(hi:i<=m)(a:p<2 ^ 64)(b:j<=m):∃n,n<=m+13/\(lp m n (i,p)).1=j:=by
 have c:(lp m 13 (i,p)).2=0:=by rw[qK];exact Nat.div_eq_of_lt (GA a (by decide))
 obtain⟨k,d,e⟩:=reach h (yf m 13 (i,p) hi) b;refine⟨13+k,by lia,?_⟩;rw[sv];have:lp m 13 (i,p)=((lp m 13 (i,p)).1,0):=by rw[<-c]
 rw[this,xA];exact e
theorem vm(h):IM h<2 ^ 64:=by unfold IM;lia
def cS(t:SetTable):Nat->SetTable.Probe->SetTable.Probe
 | 0,p=>p
 | n+1,p=>cS t n (t.advance p)
theorem oa(t:SetTable):∀a b p,cS t (a+b) p=cS t b (cS t a p)
 | 0,b,p=>by rw[IQ];rfl
 | a+1,b,p=>by rw[Ma];exact oa t a b _
def at_(t:SetTable)(s:Nat×Nat):SetTable.Probe:={ j:=s.1,more:=Iz t.mask s.1-s.1,i:=s.1,perturb:=s.2,dummy:=Vo }
theorem xT(t:SetTable):∀(r:Nat) (p:SetTable.Probe),p.more=r->cS t (r+1) p={ p with j:=(II t.mask p.i p.perturb).1,more:=Iz t.mask (II t.mask p.i p.perturb).1-(II t.mask p.i p.perturb).1,i:=(II t.mask p.i p.perturb).1,perturb:=(II t.mask p.i p.perturb).2 }
 | 0,p,h=>by show t.advance p=_;unfold LF;rw[G0 (by lia)]
 | r+1,p,h=>by
  show cS t (r+1) (t.advance p)=_;have e:t.advance p={ p with j:=p.j+1,more:=p.more-1 }:=by unfold LF;rw[G5 (by lia)]
  rw[e,xT t r _ (by show p.more-1=r;lia)]
theorem AK(t)(s):∃k,k<=10/\cS t k (at_ t s)=at_ t (II t.mask s.1 s.2):=by
 refine⟨Iz t.mask s.1-s.1+1,?_,?_⟩
 .unfold Iz;split<;>lia
 .exact(xT t (Iz t.mask s.1-s.1) (at_ t s) rfl).trans rfl
theorem sq(t:SetTable):∀(n:Nat) (s:Nat×Nat),∃k,k<=10*n/\cS t k (at_ t s)=at_ t (lp t.mask n s)
 | 0,s=>⟨0,Gn _,rfl⟩
 | n+1,s=>by obtain⟨k1,h1,a⟩:=AK t s;obtain⟨k2,h2,b⟩:=sq t n (II t.mask s.1 s.2);refine⟨k1+k2,by lia,?_⟩;rw[oa,a,b];rfl
def Fh(t)(h):t.probeStart h=at_ t (IM h % (t.mask+1),IM h):=rfl
theorem CP(a:Mask t.mask)(b:j<=t.mask)(h):∃K,K<10*Ig t.mask/\(cS t K (t.probeStart h)).j=j:=by
 have h1:IM h % (t.mask+1)<=t.mask:=by have:=JC (IM h) (show 0<t.mask+1 by lia);lia
 obtain⟨n,d,e⟩:=wK a h1 (vm h) b;obtain⟨K,f,c⟩:=sq t n (IM h % (t.mask+1),IM h);refine⟨K,by unfold Ig;lia,?_⟩;rw[Fh,c];exact e
def tV{t:SetTable}(h:t.slot j=.live i):t.place[i]?=Vn j:=by
 unfold SetTable.slot at h;dsimp only at h;split at h
 .rename_i hq;cases h;exact eq_of_beq hq
 .split at h<;>cases h
def xJ(j):SetTable.has #[] j=false:=rfl
def v7{t:SetTable}(hd:t.dummies = #[])(j):t.slot j=.empty\/∃i,t.slot j=.live i:=by
 unfold SetTable.slot;dsimp only;split
 .exact .inr ⟨_,rfl⟩
 .rw[hd,xJ];exact .inl rfl
theorem tY:∀(n:Nat) (l:List Nat),(∀j,j<n->j∈l)->n<=l.length
 | 0,l,_=>HM _
 | n+1,l,h=>by have a:=h n (Jg n);have:=tY n (l.erase n) λj b=>(Ly (by lia)).mpr (h j (by lia));rw[Jl a]at this;have:0<l.length:=Jv a;lia
theorem C2{t:SetTable}(hd:t.dummies = #[])(h:t.place.size<=t.mask):∃j,j<=t.mask/\t.slot j=.empty:=by
 rcases Classical.em (∃j,j<=t.mask/\t.slot j=.empty)with h1|h1
 .exact h1
 .exfalso;have:=tY (t.mask+1) t.place.toList λj a=>by
   rcases v7 hd j with h2|⟨i,h2⟩
   .exact absurd ⟨j,by lia,h2⟩ h1
   .have:=tV h2;rw[<-IZ]at this;exact Ga this
  rw[F5]at this;lia
theorem nO(t:SetTable):∀n p,(cS t n p).dummy=p.dummy
 | 0,p=>rfl
 | n+1,p=>by show(cS t n (t.advance p)).dummy=_;rw[nO t n];unfold LF;split<;>rfl
theorem CC(hd:t.dummies = #[])(hash)(h):∀K fuel p,K<fuel->p.dummy=Vo->t.slot (cS t K p).j=.empty ->
  (∃j,JX t hash h fuel p=Vn (.empty j Vo))\/∃k j i,k<K/\JX t hash h fuel p=Vn (.candidate j i (cS t (k+1) p))/\t.slot j=.live i:=by
 intro K;induction K with
 | zero=>
  intro fuel p g a hs;obtain⟨f,rfl⟩:∃f,fuel=f+1:=⟨fuel-1,by lia⟩;refine .inl ⟨p.j,?_⟩;have b:t.slot p.j=.empty:=hs;unfold JX;rw[b];rw[a]
 | succ K l=>
  intro fuel p g a hs;obtain⟨f,rfl⟩:∃f,fuel=f+1:=⟨fuel-1,by lia⟩;unfold JX;rcases v7 hd p.j with h1|⟨i,h1⟩
  .rw[h1];rw[a];exact .inl ⟨p.j,rfl⟩
  .rw[h1];dsimp only;by_cases d:(hash i == h)=true
   .rw[G5 d];exact .inr ⟨0,p.j,i,Nat.succ_pos _,rfl,h1⟩
   .rw[G0 d];have c:(t.advance p).dummy=Vo:=by have:=nO t 1 p;rw[a]at this;exact this
    rcases l f (t.advance p) (by lia) c hs with⟨j,e⟩|⟨k,j,m,o,e,n⟩
    .exact .inl ⟨j,e⟩
    .exact .inr ⟨k+1,j,m,by lia,e,n⟩
theorem um{α:Type}:∀{l:List (Option α)} {j:Nat} {k:α},l[j]?=Vn Vo->((l.set j (Vn k)).filterMap id).Perm (k::l.filterMap id)
 | [],j,k,h=>by cases h
 | x::l,0,k,h=>by
  have:x=Vo:=by simpa using h
  subst this;exact .refl _
 | x::l,j+1,k,h=>by
  have h':l[j]?=Vn Vo:=by simpa using h
  have a:=um (k:=k) h';cases x with
  | none=>exact a
  | some y=>exact(List.Perm.cons y a).trans (.swap _ _ _)
theorem y6{α:Type}(l:List (Option α)):(l.filterMap id).length+(l.filter (·.isNone)).length=l.length:=by
 induction l with
 | nil=>rfl
 | cons x l a=>
  cases x<;>simp at a ⊢<;>lia
theorem Aq(l:Mask m)(owner)(c:owner.size=m+1)(d:owner[j]?=Vn Vo):∀fuel n i p,i<=m->n<fuel->(lp m n (i,p)).1=j ->
  ∃a,Jw m owner fuel i p=Vn a/\owner[a]?=Vn Vo:=by
 intro fuel;induction fuel with
 | zero=>intro n i p _ h;lia
 | succ fuel e=>
  intro n i p hi o b;unfold Jw;split
  .rename_i k hk;have h1:=List.find?_some hk;have h2:=HK.mp (Kw hk);refine⟨i+k,rfl,?_⟩;have hb:i+k<owner.size:=by rw[c];unfold Iz at h2;split at h2<;>lia
   rw[Hv hb];have:owner.getD (i+k) (Vn 0)=owner[i+k]:=by rw[Kh,Hv hb];rfl
   rw[this]at h1;congr 1;cases f:owner[i+k]with
   | none=>rfl
   | some y=>rw[f]at h1;cases h1
  .rename_i hk;cases n with
   | zero=>
    exfalso;have g:i=j:=b;have:=List.find?_eq_none.mp hk 0 (HK.mpr (by unfold Iz;split<;>lia));rw[Nat.add_zero,g,Kh,d]at this;simp at this
   | succ n=>
    have:=yf m 1 (i,p) hi;exact e n (II m i p).1 (II m i p).2 this (by lia) b
def me(mask:Nat)(acc:Option (Array (Option Nat)×Nat))(h:Int):Option (Array (Option Nat)×Nat):=do
 let (owner,k) <-acc;let j <-Jw mask owner (Ig mask) (IM h % (mask+1)) (IM h)
 pure (owner.setIfInBounds j (Vn k),k+1)
theorem AS{l:List (Option Nat)}(h:(l.filterMap id).length<l.length):∃j:Nat,l[j]?=Vn Vo:=by
 have:=y6 l;have h1:0<(l.filter (·.isNone)).length:=by lia
 obtain⟨x,b⟩:=List.exists_mem_of_length_pos h1;obtain⟨a,c⟩:=G8.mp b;have:x=Vo:=by cases x<;>simp_all
 subst this;obtain⟨j,d⟩:=GR a;exact⟨j,d⟩
theorem wH{m:Nat}(c:Mask m):∀(hs:List Int) (owner:Array (Option Nat)) (k:Nat),owner.size=m+1->(owner.toList.filterMap id).Perm (GX k)->k+hs.length<=m ->
  ∃a,hs.foldl (me m) (Vn (owner,k))=Vn (a,k+hs.length)/\a.size=m+1/\(a.toList.filterMap id).Perm (GX (k+hs.length))
 | [],owner,k,h1,h2,g=>⟨owner,rfl,h1,h2⟩
 | h::hs,owner,k,h1,h2,g=>by
  rw[Gw]at g ⊢;have hlt:(owner.toList.filterMap id).length<owner.toList.length:=by rw[h2.length_eq,ID,F5,h1];lia
  obtain⟨j,d⟩:=AS hlt;rw[IZ]at d;have e:j<=m:=by have:=(Ko.mp d).1;lia
  have hi:IM h % (m+1)<=m:=by have:=JC (IM h) (show 0<m+1 by lia);lia
  obtain⟨n,r,i⟩:=wK c hi (vm h) e;obtain⟨f,e',b⟩:=Aq c owner h1 d (Ig m) n _ _ hi (by unfold Ig;lia) i;have step:me m (Vn (owner,k)) h=Vn (owner.setIfInBounds f (Vn k),k+1):=by unfold me;simp[e']
  rw[LW,step];have l:((owner.setIfInBounds f (some k)).toList.filterMap id).Perm (GX (k+1)):=by rw[Array.toList_setIfInBounds];rw[<-IZ]at b;refine(um b).trans ?_;rw[JA];exact(List.Perm.cons k h2).trans (Lf (l₁:=[k]))
  obtain⟨o',o,p,q⟩:=wH c hs (owner.setIfInBounds f (Vn k)) (k+1) (by simpa using h1) l (by lia);exact⟨o',by rw[o];congr 2;lia,p,by rw[show k+(hs.length+1)=k+1+hs.length by lia];exact q⟩
theorem CZ(t:SetTable)(f:Mask m)(g:Iu wanted-1=m)(l:hashes.size<=m):
  ∃t' order,t.relaid hashes wanted=Vn (t',order)/\t'.place.size=hashes.size/\t'.dummies = #[]/\t'.mask=m/\order.toList.Perm (GX hashes.size):=by
 obtain⟨o',e,h,d⟩:=wH f hashes.toList (Array.replicate (m+1) none) 0 (by simp) (by simp) (by rw[F5];lia);rw[F5,IQ]at e d;have b:SetTable.layClean m hashes=some o':=by show(hashes.foldl (me m) (some (Array.replicate (m+1) none,0))).map (·.1)=some o';rw[<-Array.foldl_toList,e];rfl
 have a:((GX (m+1)).filterMap λj=>(o'.getD j Vo).map (j,·)).map (·.2)=o'.toList.filterMap id:=by
  rw[List.map_filterMap];have:o'.toList=(GX (m+1)).map λj=>o'.getD j Vo:=by
   apply List.ext_getElem
   .rw[F5,F1,ID,h]
   .intro i h1 h2;rw[F5]at h1;simp[h1]
  rw[this,MN];congr 1;funext j;show((o'.getD j Vo).map (j,·)).map (·.2)=o'.getD j Vo;cases o'.getD j Vo<;>rfl
 have c:t.relaid hashes wanted=Vn (({ mask:=m,place:=(((GX (m+1)).filterMap λj=>(o'.getD j Vo).map (j,·)).map (·.1)).toArray,dummies:=#[],finger:=t.finger,led:=t.led,moves:=t.movedTo m,plain:=t.plain }:SetTable),(((GX (m+1)).filterMap λj=>(o'.getD j Vo).map (j,·)).map (·.2)).toArray):=by unfold SetTable.relaid;rw[g];unfold SetTable.laid;rw[b];rfl
 refine⟨_,_,c,?_,rfl,rfl,?_⟩
 .rw[F6,F1];have:=congrArg Lo a;rw[F1,d.length_eq,ID]at this;exact this
 .rw[List.toList_toArray,a];exact d
theorem oW(xs)(p)(x:α):(Ih xs p x).size=xs.size+1:=by unfold Ih;simp;lia
def Em{xs:Array α}{p:Nat}{x e:α}(h:e∈(Ih xs p x).toList):e=x\/e∈xs.toList:=by
 unfold Ih at h;simp only[Array.toList_append,Array.toList_push,Array.toList_extract,Gr,Gb]at h;rcases h with(h|h)|h
 .exact .inr (Jc (by simpa using h))
 .exact .inl h
 .exact .inr (List.mem_of_mem_drop (Jc h))
def ES:Iu 20-1=31:=by decide +kernel
def Fs:Iu 76-1=127:=by decide +kernel
def CW:Iu 308-1=511:=by decide +kernel
end L2.Og.Tb
namespace L2.Og
open PySem PySem.Spec PyProof.Rows
section
variable {P:Vd} {w:Ve} {A:Vi} {E:Va->Vc->Prop} {s:Vc} {K:Type} [DecidableEq K] {knd:KeyKind P w K}
def uv{ks:List K}{vs:List Va}(h:ItemsAre knd ks vs):∀v∈vs,∀b,v≠.ref b:=λv a b e=>by have:=h.byValue v a;subst e;cases this
def DB(n){v:Va}(h:∀b,v≠.ref b):ofAClassStatement n v=pure false:=by
 cases v with
 | ref b=>exact absurd rfl (h b)
 | _=>unfold ofAClassStatement;rfl
def w4{ks:List K}{b:Vb}{Q:Bool->Vc->Prop}(c:IsTupleKey knd s.heap ks b)(h:Q false s):Vf (Vg P w) A (ofAClassStatement 8 (.ref b)) Q E s:=by
 have d:=c.typeIs;obtain⟨o,items,n,ho,f,hd,hi⟩:=c;unfold ofAClassStatement;refine FV (wpAny_typeOf d ?_);refine FV (FW ?_);refine FV (wpAny_seqItems ho hd ?_);refine FV ?_;rw[<-MO];refine wpAny_forIn_list _ (λrest r s'=>r.1=none/\s'=s/\∀v∈rest,∀b,v≠.ref b) _ ?_ ?_ _ _ ⟨rfl,rfl,uv hi⟩
 .rintro v rest r s' ⟨a,rfl,hall⟩;rw[DB _ (hall v F7)];refine FV (FW ?_);exact FW ⟨rfl,rfl,λu e=>hall u (F4 _ e)⟩
 .rintro⟨r1,g⟩ s' ⟨a,rfl,_⟩;subst a;exact FW h
def DL{ks:List K}{b:Vb}{l:List Va}{Q:Bool->Vc->Prop}(f:IsTupleKey knd s.heap ks b)(g:∀y∈l,∃a c,y=.ref a/\IsTupleKey knd s.heap c a)(h:Q false s):Vf (Vg P w) A (searchCouldBeSeen (.ref b) l) Q E s:=by
 refine FV ?_;refine wpAny_forIn_list _ (λrest r s'=>r.1=Vo/\s'=s/\∀y∈rest,∃a c,y=.ref a/\IsTupleKey knd s.heap c a) _ ?_ ?_ _ _ ⟨rfl,rfl,g⟩
 .rintro v rest r s' ⟨e,rfl,hall⟩;obtain⟨a,c,rfl,d⟩:=hall v F7;have next:∀y∈rest,∃a c,y=.ref a/\IsTupleKey knd s'.heap c a:=λy i=>hall y (F4 _ i)
  dsimp only;split
  .exact FW ⟨rfl,rfl,next⟩
  .refine FV (wpAny_eqIsQuiet_tuple f ?_);refine FV (wpAny_eqIsQuiet_tuple d ?_);refine FV (w4 f ?_);refine FV (w4 d ?_);exact FW ⟨rfl,rfl,next⟩
 .rintro⟨r1,j⟩ s' ⟨e,rfl,_⟩;subst e;exact FW h
theorem BF{b:Vb}{k:List K}{h:Int}{es:Array (Int×Va)}{t:SetTable}(M:A.units<cLine)(z:IsTupleKey knd s.heap k b)(ho:s.heap.get? a=Vn o)(hd:o.data=.set es ep t)(p:t.fits es.size=true)(R:Tb.Mask t.mask)(B:t.dummies = #[])
  (hall:∀e∈es.toList,∃l d,e.2=.ref l/\IsTupleKey knd s.heap d l/\d≠k) {Q:SetFound->Vc->Prop} (S:∀j,Q (.free j false) s) :
  ∀(K fuel:Nat) (c:Option SetTable.Probe),K<fuel->K<10*Ig t.mask->(c.getD (t.probeStart h)).dummy=Vo->t.slot (Tb.cS t K (c.getD (t.probeStart h))).j=.empty ->
   Vf (Vg P w) A (setSearchFrom a (.ref b) h true fuel c) Q E s:=by
 intro K;induction K using IS with
 | ind K T=>
  intro fuel c U W q hs;obtain⟨f,rfl⟩:∃f,fuel=f+1:=⟨fuel-1,by lia⟩;refine FV (GV ho hd p ?_);dsimp only;have X:t.gaveWay=false:=by unfold SetTable.gaveWay;rcases R with e|e|e|e<;>rw[e]<;>rfl
  have C:t.place.size=es.size:=by simp only[K4,GI,beq_iff_eq]at p;exact p.1
  have u:t.sameMemory t.moves t.mask=Vn true:=by unfold SetTable.sameMemory;rw[G5 (beq_self_eq_true _)]
  rw[X];generalize n:t.probe _ h (c.getD (t.probeStart h))=r;obtain⟨g,n⟩:∃g,JX t g h (10*Ig t.mask) (c.getD (t.probeStart h))=r:=⟨_,n⟩;rcases Tb.CC B g h K _ _ W q hs with⟨j,e⟩|⟨d,j,i,Y,e,F⟩
  .rw[e]at n;subst n;exact FW (S j)
  .rw[e]at n;subst n;have G:=Tb.tV F;have hi:i<es.size:=by rw[<-C];exact(Ko.mp G).1
   have hmem:es[i]∈es.toList:=by simp
   obtain⟨l,k2,H,v,hne⟩:=hall _ hmem;have m:es[i]?=some (es[i].1,.ref l):=by rw[Hv hi,<-H]
   have I:∀y∈((es.filter λx=>x.1 == h).toList.map λx=>x.2),∃l d,y=Value.ref l/\IsTupleKey knd s.heap d l:=λy H=>by
    obtain⟨N,J,rfl⟩:=G6.mp H;have L:N∈es.toList:=by have:=KC.mp J;exact KC.mpr (Array.mem_filter.mp this).1
    obtain⟨b3,k3,h1,h2,_⟩:=hall N L;exact⟨b3,k3,h1,h2⟩
   have again:Vf (Vg P w) A (setSearchFrom a (.ref b) h true f (Vn (Tb.cS t (d+1) (c.getD (t.probeStart h))))) Q E s:=by
    refine T (K-(d+1)) (by omega) f _ (by omega) (by omega) ?_ ?_
    .show(Tb.cS t (d+1) _).dummy=Vo;rw[Tb.nO];exact q
    .show t.slot (Tb.cS t (K-(d+1)) (Tb.cS t (d+1) _)).j=_;rw[<-Tb.oa,show d+1+(K-(d+1))=K by omega];exact hs
   have same:isSame (Value.ref l) (Value.ref l)=pure true:=by unfold isSame;simp
   dsimp only;cases O:t.led
   .simp only[Bool.not_false,if_true];refine FV (DL z I ?_);simp only[GP,if_false];rw[m];dsimp only;refine FV (wpAny_holding (wpAny_eqBool_tuple M v z ?_));rw[GY hne];refine FV (GV ho hd p ?_);dsimp only;simp only[Kl,GP,if_false,u,if_true,F,m,same];exact FV (FW (FV (FW again)))
   .simp only[Bool.not_true,GP,if_false];rw[m];dsimp only;refine FV (wpAny_holding (wpAny_eqBool_tuple M v z ?_));rw[GY hne];refine FV (GV ho hd p ?_);dsimp only;simp only[Kl,GP,if_false,u,if_true,F,m,same];exact FV (FW (FV (FW again)))
def gF(knd:KeyKind P w K)(h:Vh)(a:Vb)(ks:List (List K)):Prop:=
 ∃o es ep t,h.get? a=Vn o/\o.ExactSet/\o.data=.set es ep t/\t.place.size=es.size/\t.dummies = #[]/\Tb.Mask t.mask/\es.size*5<t.mask*3/\es.size=ks.length/\∀e∈es.toList,∃b k,e.2=.ref b/\k∈ks/\IsTupleKey knd h k b
def oA{b:Vb}{k:List K}{es:Array (Int×Va)}{t:SetTable}(e:IsTupleKey knd h k b)(ho:h.get? a=Vn o)(hd:o.data=.set es ep t)(hs:Ip a h h'):IsTupleKey knd h' k b:=by
 obtain⟨o',items,n,c,f,d,hi⟩:=e;have hne:b≠a:=by rintro rfl;rw[ho]at c;cases c;rw[hd]at d;cases d
 exact⟨o',items,n,(hs.2 b hne).trans c,f,d,hi⟩
def CV(n){v:Va}(h:∀b,v≠.ref b):∃c,hashByValue n v=pure c:=by
 cases v with
 | ref b=>exact absurd rfl (h b)
 | _=>exact⟨_,by cases n<;>unfold hashByValue<;>rfl⟩
def BS{ks:List K}{b:Vb}{Q:Bool->Vc->Prop}(e:IsTupleKey knd s.heap ks b)(h:∀c,Q c s):Vf (Vg P w) A (hashByValue 8 (.ref b)) Q E s:=by
 have f:=e.typeIs;obtain⟨o,items,n,ho,i,hd,hi⟩:=e;refine FV (wpAny_specialOf f F.slot_tuple_hash.lookup ?_);refine FV (wpAny_seqItems ho hd ?_);dsimp only[Option.getD_some];refine FV ?_;rw[<-MO];refine wpAny_forIn_list _ (λrest r s'=>(r.1=none\/∃c,r.1=some c)/\s'=s/\∀v∈rest,∀b,v≠.ref b) _ ?_ ?_ _ _ ⟨.inl rfl,rfl,uv hi⟩
 .rintro v rest r s' ⟨a,rfl,hall⟩;obtain⟨c,d⟩:=CV 7 (hall v F7);rw[d];refine FV (FW ?_);cases c
  .exact FW (FW (h false))
  .exact FW ⟨.inl rfl,rfl,λu g=>hall u (F4 _ g)⟩
 .rintro⟨r1,j⟩ s' ⟨a,rfl,_⟩;rcases a with rfl|⟨c,rfl⟩
  .exact FW (h true)
  .exact FW (h c)
def C5{α:Type}{es:Array α}{order:Array Nat}(h:order.toList.Perm (GX es.size)):(order.filterMap (es[·]?)).size=es.size/\∀e∈(order.filterMap (es[·]?)).toList,e∈es.toList:=by
 have key:∀l:List Nat,(∀i∈l,i<es.size)->(l.filterMap (es[·]?)).length=l.length/\∀e∈l.filterMap (es[·]?),e∈es.toList:=by
  intro l;induction l with
  | nil=>intro _;exact⟨rfl,λe c=>by cases c⟩
  | cons x l d=>
   intro b;obtain⟨i1,i2⟩:=d λi hi=>b i (F4 _ hi);have f:=b x F7;have e:(x::l).filterMap (es[·]?)=es[x]::l.filterMap (es[·]?):=by rw[Il];simp[f]
   rw[e];refine⟨by rw[Gw,Gw,i1],λy a=>?_⟩;rcases Gh.mp a with rfl|a
   .simp
   .exact i2 y a
 have hlt:∀i∈order.toList,i<es.size:=λi hi=>HK.mp (h.mem_iff.mp hi);obtain⟨k1,k2⟩:=key order.toList hlt;rw[LO];refine⟨?_,k2⟩;rw[<-F5,LO,k1,h.length_eq,ID]
theorem Bw{es c:Array (Int×Va)}{t d:SetTable}{ks1:List (List K)}{Q:Bool->Vc->Prop}(ho:s.heap.get? a=Vn o)(hex:o.ExactSet)(hd:o.data=.set es ep t)(j:c.size=n+1)(v:d.place.size=c.size)(r:d.dummies = #[])
  (x:Tb.Mask d.mask) (y:n*5<d.mask*3) (hn:n<200) (hlen:ks1.length=n+1) (z:∀e∈c.toList,∃b k,e.2=.ref b/\k∈ks1/\IsTupleKey knd s.heap k b)
  (h:∀h',Ip a s.heap h'->gF knd h' a ks1->Q true { s with heap:=h' }) :
  Vf (Vg P w) A (do
   storeSet a c d
   if(!false && d.tooFull)=true then do
    setRelay a (Jd (n+1))
    pure true
   else pure true) Q E s:=by
 have L:n+1<=sizeLine:=GC (show n+1<=1000 by lia) (by decide);refine FV (wpAny_storeSet_of ho hd ?_ (by lia));have i:(s.heap.update a (J7 c d)).get? a=Vn { o with data:=.set c (ep+1) d }:=by have:=IA (J7 c d) ho (by rw[putSet_of c d hd];rfl);rw[putSet_of c d hd]at this;exact this
 have g:=Im s.heap a (J7 c d);generalize s.heap.update a (J7 c d)=h1 at i g;have l:∀e∈c.toList,∃b k,e.2=.ref b/\k∈ks1/\IsTupleKey knd h1 k b:=λe M=>by obtain⟨b,k,N,O,R⟩:=z e M;exact⟨b,k,N,O,oA R ho hd g⟩
 have f:d.fill=n+1:=by unfold MF;rw[r,v,j];rfl
 by_cases G:d.tooFull=true
 .rw[G];have B:d.mask*3<=(n+1)*5:=by unfold Mg at G;rw[f]at G;simpa using G
  obtain⟨m,U,W,X,hlt⟩:∃m,Tb.Mask m/\Iu (Jd (n+1))-1=m/\n+1<=m/\(n+1)*5<m*3/\Iu (Jd (n+1))<=sizeLine:=by
   have Y:Jd (n+1)=(n+1)*4:=by unfold Jd;rw[G0 (by lia)]
   rcases x with e|e|e|e<;>rw[e]at y B
   .obtain rfl:n=4:=by lia
    exact⟨31,.inr (.inl rfl),Tb.ES,by lia,by lia,by decide +kernel⟩
   .obtain rfl:n=18:=by lia
    exact⟨127,.inr (.inr (.inl rfl)),Tb.Fs,by lia,by lia,by decide +kernel⟩
   .obtain rfl:n=76:=by lia
    exact⟨511,.inr (.inr (.inr rfl)),Tb.CW,by lia,by lia,by decide +kernel⟩
   .omega
  have C:d.fits c.size=true:=by simp only[K4,GI,beq_iff_eq,decide_eq_true_eq];refine⟨v,?_⟩;rw[f];rcases x with e|e|e|e<;>lia
  obtain⟨F,order,H,I,S,J,p⟩:=Tb.CZ d (hashes:=c.map (·.1)) U W (by rw[Lz];lia);rw[Lz]at I p;obtain⟨r1,Z⟩:=C5 p;refine FV ?_;unfold setRelay;refine FV (GV (s:={ s with heap:=h1 }) i rfl C ?_);dsimp only;rw[G0 (Nat.not_lt.mpr hlt.2),H];refine FV ?_;show Vf _ _ (do
   if(order.filterMap (c[·]?)).size != c.size then unsupported "internal:set-table-lost-an-element"
   pure (order.filterMap (c[·]?),F)) _ _ _
  rw[r1];simp only[bne_self_eq_false,GP,if_false];refine FW ?_;dsimp only;refine wpAny_storeSet_of (s:={ s with heap:=h1 }) i rfl ?_ (by rw[r1];lia);have T:(h1.update a (J7 (order.filterMap (c[·]?)) F)).get? a=Vn { o with data:=.set (order.filterMap (c[·]?)) (ep+1+1) F }:=by have:=IA (J7 (order.filterMap (c[·]?)) F) i (by rw[putSet_of _ _ (o:={ o with data:=.set c (ep+1) d }) rfl];rfl);rw[putSet_of _ _ (o:={ o with data:=.set c (ep+1) d }) rfl]at this;exact this
  have u:=Im h1 a (J7 (order.filterMap (c[·]?)) F);refine FW (h _ (g.trans u) ⟨_,_,_,F,T,hex,rfl,by rw[r1];exact I,S,by rw[J];exact U,by rw[r1,J,j];exact hlt.1,by rw[r1,j,hlen],λe M=>?_⟩);obtain⟨b,k,N,O,R⟩:=l e (Z e M);exact⟨b,k,N,O,oA R i rfl u⟩
 .have q:d.tooFull=false:=by simpa using G
  rw[q];simp only[Kl,GP,if_false];have B:(n+1)*5<d.mask*3:=by unfold Mg at q;rw[f]at q;simpa using q
  exact FW (h h1 g ⟨_,c,_,d,i,hex,rfl,v,r,x,by rw[j];exact B,by rw[j,hlen],l⟩)
theorem E5{b:Vb}{k:List K}{ks:List (List K)}{d:Int}{Q:Bool->Vc->Prop}(F:A.units<cLine)(v:IsTupleKey knd s.heap k b)(G:gF knd s.heap a ks)(hnew:k∉ks)(hsz:ks.length<200)
  (h:∀h',Ip a s.heap h'->gF knd h' a (k::ks)->Q true { s with heap:=h' }):Vf (Vg P w) A (setAddHashed a (.ref b) d) Q E s:=by
 obtain⟨o,es,ep,t,ho,hex,hd,r,f,u,m,hlen,hall⟩:=G;have hle:es.size<=t.mask:=by lia
 have x:t.fits es.size=true:=by simp only[K4,GI,beq_iff_eq,decide_eq_true_eq];refine⟨r,?_⟩;unfold MF;rw[f,r];simpa using hle
 obtain⟨S,y,B⟩:=Tb.C2 f (by rw[r];exact hle);obtain⟨N,H,I⟩:=Tb.CP u y d;have n:∀e∈es.toList,∃g i,e.2=.ref g/\IsTupleKey knd s.heap i g/\i≠k:=λe p=>by obtain⟨g,i,h1,h2,J⟩:=hall e p;exact⟨g,i,h1,J,λz=>hnew (z ▸ h2)⟩
 refine wpAny_holding (FV (GV ho hd x ?_));dsimp only;have C:10*Ig t.mask<100000:=by unfold Ig;rcases u with e|e|e|e<;>rw[e]<;>decide
 refine FV (BF F v ho hd x u f n (λj=>?_) N 100000 Vo (by lia) H rfl (by show t.slot (Tb.cS t N (t.probeStart d)).j=_;rw[I];exact B));refine FV (GV ho hd x ?_);dsimp only;have l:(t.put j).1.place.size=es.size+1/\(t.put j).1.dummies = #[]/\(t.put j).1.mask=t.mask:=by
  refine⟨?_,?_,rfl⟩
  .show(Ih t.place (SetTable.below t.place j) j).size=_;rw[Tb.oW,r]
  .show(if SetTable.has t.dummies j=true then _ else t.dummies) = #[];rw[f,Tb.xJ];rfl
 have q:∀e∈(Ih es (t.put j).2 (d,Value.ref b)).toList,∃g i,e.2=.ref g/\i∈k::ks/\IsTupleKey knd s.heap i g:=λe p=>by
  rcases Tb.Em p with rfl|p
  .exact⟨b,k,rfl,F7,v⟩
  .obtain⟨g,i,L,M,O⟩:=hall e p;exact⟨g,i,L,F4 _ M,O⟩
 have fin:∀c:Bool,Vf (Vg P w) A (do
   storeSet a (Ih es (t.put j).2 (d,Value.ref b)) (if c=true then(t.put j).1 else{ (t.put j).1 with plain:=false })
   if(!false && (if c=true then(t.put j).1 else{ (t.put j).1 with plain:=false }).tooFull)=true then do
    setRelay a (Jd (es.size+1))
    pure true
   else pure true) Q E s:=λc=>by
  refine Bw ho hex hd (Tb.oW _ _ _) ?_ ?_ ?_ ?_ (by lia) (by rw[Gw,hlen]) q h
  .rw[Tb.oW];cases c<;>exact l.1
  .cases c<;>exact l.2.1
  .cases c<;>exact u
  .cases c<;>exact m
 cases R:(t.put j).1.plain
 .exact FV (FW (fin true))
 .exact FV (BS v fin)
end
section
variable {P:Vd} {w:Ve} {A:Vi} {K:Type} [DecidableEq K] {knd:KeyKind P w K} {I:Vb} {fp wr:List Vb} {G:Array GenState->Array GenState->Prop} {n:Nat} {Pz:Nat->Va->Prop} {St:Nat->Vc->Prop}
def gF.moved{ks:List (List K)}{wr:List Vb}(i:gF knd h a ks)(f:∀b o,b∉wr->h.get? b=Vn o->h'.get? b=Vn o)(ha:a∉wr)(j:∀b∈wr,∀o,h.get? b=Vn o->∃vs,o.data=.fields vs):gF knd h' a ks:=by obtain⟨o,es,ep,t,ho,hex,hd,h1,h2,l,n,p,hall⟩:=i;refine⟨o,es,ep,t,f a o ha ho,hex,hd,h1,h2,l,n,p,λe q=>?_⟩;obtain⟨b,k,r,s,o',items,m,c,u,d,hi⟩:=hall e q;refine⟨b,k,r,s,o',items,m,f b o' (λhb=>?_) c,u,d,hi⟩;obtain⟨vs,g⟩:=j b hb o' c;rw[d]at g;cases g
theorem Dl(W:WalksS P w A.in1 I fp wr G n Pz St)(S:Vb)(hS:S∉fp)(hu:A.in1.units<cLine)(bs:List Vb)(kk:List (List K))(E:kk.length=n)(H:kk.Nodup)(hsz:n<200)
  (r:∀i v,Pz i v->∃b,v=.ref b/\bs[i]?=Vn b) (hwr:∀i s,St i s->∀b∈wr,∀o,s.heap.get? b=Vn o->∃vs,o.data=.fields vs) {R:Result->Vc->Prop} :
  ∀(m i:Nat) (s:Vc),n-i=m->i<=n->St i s->gF knd s.heap S (kk.take i).reverse->(∀(j:Nat) (b:Vb) (k:List K),bs[j]?=Vn b->kk[j]?=Vn k->IsTupleKey knd s.heap k b) ->
   (∀s',Moved (S::wr) G s s'->gF knd s'.heap S kk.reverse->R (.ok (.ret .none)) s') ->
   codeAny (Vg P w) A (.builtin "set.update.loop" ⟨[.ref S,.ref I],[]⟩) R s:=by
 have u:S∉wr:=λz=>hS (W.sub _ z);have more:∀b∈wr,b∈S::wr:=λb z=>F4 _ z;intro m;induction m with
 | zero=>
  intro i s hm hi d a f J;obtain rfl:i=n:=by lia
  refine codeAny_builtin LG ?_;rw[Je Jp _];show Vf _ A.in1 (pyNext (.ref I) >>= _) _ _ s;refine FV (W.done s _ _ d λs' p=>?_);rw[<-E,Gx]at a;exact FW (J s' (p.mono more) (a.moved p.heap u (hwr _ s d)))
 | succ m ih=>
  intro i s hm hi d a f J;have hlt:i<n:=by lia
  refine codeAny_builtin LG ?_;rw[Je Jp _];show Vf _ A.in1 (pyNext (.ref I) >>= _) _ _ s;refine FV (W.item i s _ _ hlt d λv s' hP x p=>?_);obtain⟨b,rfl,hb⟩:=r i v hP;have h:kk[i]?=Vn kk[i]:=F2 (by lia);have g:=a.moved p.heap u (hwr _ s d);have hkeys':∀(j:Nat) (b:Vb) (k:List K),bs[j]?=Vn b->kk[j]?=Vn k->IsTupleKey knd s'.heap k b:=λj b k L M=>by obtain⟨o',items,q,y,B,C,N⟩:=f j b k L M;refine⟨o',items,q,p.heap b o' (λO=>?_) y,B,C,N⟩;obtain⟨vs,hv⟩:=hwr _ s d b O o' y;rw[C]at hv;cases hv
  show Vf _ A.in1 (holding [Value.ref b] (setAdd S (.ref b)) >>= _) _ _ s';refine FV (wpAny_holding ?_);unfold setAdd;refine wpAny_holding (FV (wpAny_pyHash_tuple hu (hkeys' i b _ hb h) ?_));have hnew:kk[i]∉(kk.take i).reverse:=by rw[List.mem_reverse];intro z;obtain⟨q,hq,e⟩:=KI.mp z;rw[GU]at hq;rw[List.getElem_take]at e;have:=(List.getElem_inj H).mp e;lia
  have Q:(kk.take (i+1)).reverse=kk[i]::(kk.take i).reverse:=by rw[G7,h,MB];rfl
  refine E5 (s:={ s' with toks:=s'.toks+(kk[i].length+1) }) hu (hkeys' i b _ hb h) g hnew (by rw[Hz,GU];lia) λh' T l=>?_;obtain⟨oS,a1,a2,tS,U,_,X,_⟩:=id g;refine FW ⟨plainId_quiet Jp _,ih (i+1) _ (by lia) hlt (W.frame _ s' _ _ x (Ib _ _) λc B o e=>?_) (by rw[Q];exact l) (λj c k L M=>oA (hkeys' j c k L M) U X T) λY Z a0=>?_⟩
  .rw[T.2 c (λz:c=S=>hS (z ▸ B))];exact e
  .refine J Y (Moved.trans W.gtrans ((p.mono more).then_heap (Ib _ _) λc o B e=>?_) Z) a0;rw[T.2 c (λz:c=S=>B (by rw[z];exact F7))];exact e
end
end L2.Og
namespace L2.Og
open PySem PySem.Spec PyProof.Rows
section
variable {P:Vd} {w:Ve} {A:Vi} {E:Va->Vc->Prop} {s:Vc} {K:Type} [DecidableEq K] {knd:KeyKind P w K}
abbrev g9(led:Bool):Obj:={ cls:=.type "set",dict:=Vo,data:=.set #[] 0 (.fresh 0 0 led) }
def vQ(knd:KeyKind P w K)(s:Vc)(kk:List (List K))(h':Vh):Prop:=
 gF knd h' s.heap.objs.size kk.reverse/\∀b o,b<s.heap.objs.size->s.heap.get? b=Vn o->h'.get? b=Vn o
def Cr:isSubtype (.type "tuple") (.type "frozenset")=pure false:=by
 rw[isSubtype_type]
 kernel_rfl
theorem DU{t:Vb}{bs:List Vb}{kk:List (List K)}(hA:A.handled=Vo)(hu:A.units+5<cLine)(gt:s.heap.IsTuple t ys)(hb:ys.toList=bs.map Value.ref)
  (N:kk.length=ys.size) (p:kk.Nodup) (O:ys.size<200) (f:∀(j:Nat) (b:Vb) (k:List K),bs[j]?=Vn b->kk[j]?=Vn k->IsTupleKey knd s.heap k b)
  (h:∀(h':Vh) (tk:Nat),vQ knd s kk h'->Q (.ref s.heap.objs.size) { s with heap:=h',toks:=tk }):Vf (Vg P w) A (call (.type "set") [.ref t]) Q E s:=by
 have x1:=JM.notType;have x2:=JM.canCreate;have x3:=F.typeCall_set_1 (.ref t);have x4:=JM.made;have x5:=JM.sub;obtain⟨c,tl,x6⟩:=JM.mro;refine wpAny_call (codeAny_of_tree ?_);show Vf _ _ (callAny (.type "set") _) _ _ _;refine FW ⟨Code.quiet_builtin _ (by decide +kernel),codeAny_builtin F.entry_type_call ?_⟩;rw[Around.under_plain (weight_type_call_type "set" [.ref t] []) rfl]
 repeat (any_goals (first|assumption|wp_step))
 refine codeAny_mono (code_set_new_1 (.ref t) (E:=E) (Q₁:=λv s1=>∃led,v=.ref s.heap.objs.size/\s1={ s with heap:=s.heap.push (g9 led) }) λled=>⟨led,rfl,rfl⟩) λr s1 u=>?_;cases r with
 | error e=>exact u
 | ok S=>
  cases S with
  | ret v=>
   obtain⟨led,rfl,rfl⟩:=u;have M:(s.heap.push (g9 led)).get? s.heap.objs.size=Vn (g9 led):=FZ _ rfl;have T:Shared.TypeIs { s with heap:=s.heap.push (g9 led) } (.ref s.heap.objs.size) "set":=⟨_,M,rfl⟩;have x7:=JM.init.lookup;have x8:=JM.init.bind (.ref s.heap.objs.size)
   repeat (any_goals (first|assumption|wp_step))
   refine codeAny_mono (codeAny_call_builtin (R:=wants (λr s2=>r=.none/\∃h' tk,s2={ s with heap:=h',toks:=tk }/\vQ knd s kk h') E) JM.init.plain F.entry_set_init (check_set_init_1 T ?_)) λU s2 a=>?_
   .have x:(s.heap.push (g9 led)).IsTuple t ys:=gt.push _;have hlt:t<s.heap.objs.size:=by obtain⟨o,ho,_⟩:=gt;exact F0 ho
    obtain⟨ol,W,hcl,nl,g⟩:=id x;obtain⟨c0,d0,dt,sl⟩:=ol;simp only at hcl g;subst hcl g;have y1:=F.sub_tuple_set;have y2:=Cr;have y3:(Value.type "tuple" == Value.type "dict")=false:=by decide
    unfold Builtin.«set.__init__» noKeywords Builtin.Frozenset.updateFrom;generalize hit:pyIter=PI
    wp_walk
    subst hit;refine wpAny_pyIter_tuple x ?_;refine FV (wpAny_runValue ?_);have l:(s.heap.push (g9 led)).objs.size=s.heap.objs.size+1:=Hh _ _;have y:A.in1.in1.in1.handled=Vo:=by simp[hA]
    have hne:t≠(s.heap.push (g9 led)).objs.size:=by rw[l];exact Gm (JW hlt)
    have B:s.heap.objs.size∉[(s.heap.push (g9 led)).objs.size,t]:=by
     intro z;rcases Gh.mp z with z|z
     .rw[l]at z;exact Gm (Jg _) z
     .exact IC hlt (Gb.mp z)
    have C:∀i:Nat,ys[i]?=(bs[i]?).map Value.ref:=λi=>by rw[<-IZ,hb,F3]
    refine Dl (knd:=knd) ((Walks.tuple y _ t hne ys).toS) s.heap.objs.size B (by simp only[Around.in1_units];lia) bs kk N p O (λi v X=>?_) (λi s' hs b G o ho=>?_) (ys.size-0) 0 _ (by lia) (HM _) ⟨⟨_,FZ _ rfl,rfl,rfl⟩,x.push _⟩ ⟨g9 led,#[],0,_,FY _ M,⟨rfl,rfl,rfl⟩,rfl,rfl,rfl,  .inl rfl,(show 0*5<7*3 by decide),rfl,λe Y=>by simp at Y⟩ (λj b k l Z=>?_) λs' n d=>?_
    .have m:ys[i]?=Vn v:=X;rw[C i]at m;obtain⟨b,e,rfl⟩:=Ge.mp m;exact⟨b,rfl,e⟩
    .cases Gb.mp G;obtain⟨o',H,_,I⟩:=hs.1;rw[H]at ho;cases ho;exact⟨_,I⟩
    .obtain⟨o,items,q,ho,r⟩:=f j b k l Z;exact⟨o,items,q,FY _ (FY _ ho),r⟩
    .obtain⟨h',g',d',J,L⟩:=s';have q1:g'=s.gens:=n.gens;have q2:d'=s.drawn:=n.drawn;have q3:L=s.os:=n.os;subst q1 q2 q3;show Vf _ _ _ _ _ _;refine FW ?_;show Vf _ _ (ret Value.none) _ _ _;refine FW ⟨rfl,h',J,rfl,d,λb o hb e=>n.heap b o (λz=>?_) (FY _ (FY _ e))⟩;rcases Gh.mp z with z|z
     .exact Gm hb z
     .have z:=Gb.mp z;rw[l]at z;exact Gm (JW hb) z
   .cases U with
    | error e=>exact a
    | ok f2=>
     cases f2 with
     | ret r=>
      obtain⟨rfl,h',tk,rfl,d⟩:=a
      repeat (any_goals (first|assumption|wp_step))
      exact h _ _ d
     | _=>exact a.elim
  | _=>exact u.elim
end
end L2.Og
namespace L2.Og
open PySem PySem.Spec PyProof.Rows
def jJ(a:Vb)(n:Nat):HO:=.ext λh=>∃o es ep t,h.get? a=Vn o/\o.ExactSet/\o.data=.set es ep t/\t.fits es.size=true/\es.size=n
theorem DJ(S:gF (cR P w) h a ks):bI P w H h a (jJ a ks.length):=by
 obtain⟨o,es,ep,t,ho,hex,hd,g,b,j,c,hlen,_⟩:=S;refine⟨⟨o,es,ep,t,ho,hex,hd,?_,hlen⟩,⟨o,ho⟩,λh1 h2 z k=>?_⟩
 .simp only[K4,GI,beq_iff_eq,decide_eq_true_eq];refine⟨g,?_⟩;unfold MF;rw[b,g];have:es.size<=t.mask:=by lia
  simpa using this
 .obtain⟨o',d,e,i,f,r⟩:=z;exact⟨o',d,e,i,k _ f,r⟩
def cq(H:Hp)(p:Vb)(kk:List (List Key)):Prop:=∃bs:List Vb,H p=Vn (.tup (bs.map V.ref))/\bs.length=kk.length/\∀(j:Nat) (b:Vb) (k:List Key),bs[j]?=Vn b->kk[j]?=Vn k->H b=Vn (.tup (k.map kV))
theorem qG:∀{bs:List Vb} {us:List Va},Vals (bs.map V.ref) us->us=bs.map Value.ref
 | [],_,.nil=>rfl
 | b::bs,_,.cons r t=>by rw[Hr,<-qG (bs:=bs) t];exact congrArg (· :: _) r
section
variable {X:Cx}
def xU:List V->Hp->VK->Prop:=λxs H Q=>∃p a,xs=[.ref p]/\cq H p a/\a.Nodup/\a.length<200/\∀l,H l=Vo->Q (.ref l) (upd H l (jJ l a.length))
theorem call_setT(c:Room k X.A):cP X (.type "set") xU:=by
 intro pins s σ H xs us Q I r h;obtain⟨p,kk,rfl,⟨bs,h1,h2,f⟩,a,g,q⟩:=h;obtain⟨u,rfl,i⟩:=vals1 r;cases i;obtain⟨_,l,m,gt⟩:=I.hok p _ h1;have v:=qG m;subst v;have C:=c.units;have hA:=c.hd;refine DU (knd:=cR X.prog X.w) hA (by lia) (gt) rfl (by simp[h2]) a (by simp[h2];exact g) (λj b k x y=>?_) λh' tk d=>?_
 .obtain⟨_,E,z,o,ho,B,n,hd⟩:=I.hok b _ (f j b k x y);exact⟨o,_,n,ho,B,hd,n6 z⟩
 .have hok:=DJ (H:=upd H s.heap.objs.size (jJ s.heap.objs.size kk.length)) d.1;rw[Hz]at hok;exact⟨.ref s.heap.objs.size,_,I.laid (λb o e=>d.2 b o (F0 e) e) (Gn _) hok,rfl,q _ (I.hok.fresh (Gn _))⟩
def xr:List V->Hp->VK->Prop:=λxs H Q=>∃p n,xs=[.ref p]/\H p=Vn (jJ p n)/\n<200/\Q (.int n) H
theorem call_lenSet:cP X (.builtin "len") xr:=by intro pins s σ H xs us Q I r h;obtain⟨p,n,rfl,a,d,q⟩:=h;obtain⟨u,rfl,b⟩:=vals1 r;cases b;obtain⟨⟨o,es,ep,t,ho,hex,hd,c,hs⟩,_⟩:=I.hok p _ a;refine call_len_set ho hex hd c (by lia) ⟨.int n,H,I.tok _,⟨s.toks+1,by rw[hs]⟩,q⟩
def rd_setOf{Q:VK}{kk:List (List Key)}(h:cq H p kk)(a:kk.Nodup)(b:kk.length<200)(q:∀l H',Ext H H'->H' l=Vn (jJ l kk.length)->Q (.ref l) H'):xU [.ref p] H Q:=
 ⟨p,kk,rfl,h,a,b,λl c=>q l _ (bh c) aE⟩
def rd_lenSet{Q:VK}(h:H p=Vn (jJ p n))(a:n<200)(q:Q (.int n) H):xr [.ref p] H Q:=⟨p,n,rfl,h,a,q⟩
end
end L2.Og
namespace L2.Ti
open PySem PySem.Spec PyProof.Rows
end L2.Ti
namespace L2
open PySem PySem.Spec PyProof.Rows
section
variable {X:Cx} {pins:List (Vb×Obj)} {σ:St} {H:Hp} {s:Vc}
def di{i:Nat}{y:Vm}{py:Pos}{pos c:Pos}(own:List Vm)(js:List Nat){M:TI}{te:TE}(U:X.N.Nodup)(d:X.N[i]?=Vn y)(Z:Loc X.env.scope y)
  (hi:PI X tg iter M) (hg:∀z,PG (de X sc own js z) tg g) (ht:∀z,jY (de X sc own js z) ifs tc)
  (he:∀z,PE (de X sc own js z) elt te) (f:swapsWith (.ListComp elt [⟨tg,iter,ifs,0⟩] sc pos) (Vn (.Name y py)) c.line X.env=pure true:=by rfl) (hc:X.calm=true:=by rfl) (O:sc.kind=.function:=by rfl) (hb:fA sc X.env.scope=true:=by rfl) (hj:lH sc X.N js=true:=by rfl)
  (hs:∀x,foldedSetIterable iter X.env x=pure x:=by intro _;rfl) (j:X.fn y=true\/X.env.scope.names.lookup y=Vn .local:=by first|exact .inl rfl|exact .inr rfl|assumption) :
  PS X (.Assign [.Name y py] (.ListComp elt [⟨tg,iter,ifs,0⟩] sc pos) c) (lS (oE own.length js M g tc te) (jR i)):=by
 intro pins s σ H l I h;rw[exec_Assign_Name_used _ _ _ _ f];refine FV (wpAny_standAt (FV ?_));refine FV (wpAny_mono (wpAny_comprehension_free rfl hs (pj λp n j=>I.ok.has p.1 (lQ hb n j)) O (λp n hl=>vM hb n hl)
  (aJ (hi pins s σ H _ I h) λv s1 h1=>aJ h1 λa0 s2 h2=>?_)) (λ_ s' hq=>FW (FW hq)) λ_ _ e=>e)
 obtain⟨it,fp,tn,J,H2,e,I2,T,r,P,W,w0,turn⟩:=h2;subst e;refine xK (Q:=λx H1=>jR i x σ H1 l.nx) O hb hj (λ_=>hg _) (λ_=>ht _) (λ_=>he _) I2 (λC=>Turn.at_ T hc) r P w0 turn ?_;intro D C s' ys H' nD I' hC ⟨m,hm⟩ a1 q;refine wpAny_assign_Name (vd I' U d Z (v:=.ref D) rfl (λu B ⟨a,E,ha⟩=>?_) j);obtain⟨f0,R,P,f3,S,f5⟩:=hC;have F:a≠C:=by
  rcases ha with rfl|ha
  .exact HQ R
  .exact S y a ha
 refine⟨m,hm.sameBut E (HQ F),λh' G=>?_⟩;exact⟨_,_,B.turned (λb o L e=>(G.2 b L).trans e) f0 R f3 S f5,q⟩
end
section
variable {X:Cx}
theorem B6{xs:Array (Int×Tok)}(g:A.handled=Vo)(a:s.heap.IsTuple l (intItems xs))(hne:0<xs.size)
  (h:∀v h' tk,(intItems xs)[argBest (λi j=>decide (numAt xs i>numAt xs j)) (xs.size-1)]?=Vn v->(∀b o,s.heap.get? b=Vn o->h'.get? b=Vn o)->Q v { s with heap:=h',toks:=tk }) :
  Vf (Vg prog w) A (call (Value.builtin "max") [Value.ref l]) Q E s:=by
 have hlt:l<s.heap.objs.size:=by obtain⟨o,e,_⟩:=a;exact F0 e
 have hs:(intItems xs).size=xs.size:=Lz;refine call_max_walk (iter_tuple a ⟨s.heap.objs.size,[s.heap.objs.size,l],[s.heap.objs.size],(intItems xs).size,λi v=>(intItems xs)[i]?=Vn v,λi h=>h.IsTupleIter s.heap.objs.size l i/\h.IsTuple l (intItems xs),_,rfl,Walks.tuple (A:=A.in1) g _ l (Gm hlt) _,?_,?_,by lia,CmpOf.ints_gt (numAt xs) λ_ _=>intItems_at,λv h' tk f m=>?_⟩)
 .refine⟨⟨_,FZ s.heap rfl,rfl,rfl⟩,?_⟩;obtain⟨o,e,c,d⟩:=a;exact⟨o,FY _ e,c,d⟩
 .intro b hb;rw[Hh];rcases Gh.mp hb with rfl|hb
  .exact Jg _
  .cases Gb.mp hb;exact JW hlt
 .rw[hs]at f;refine h v h' tk f λb o hb=>m b o (λz=>?_) ?_
  .cases Gb.mp z;exact absurd (F0 hb) (Hy _)
  .exact FY _ hb
def xC(K:FX):List V->Hp->VK->Prop:=λxs H Q=>∃(p:Vb) (ns:List Int),xs=[.ref p]/\ax K H p (ns.map V.int)/\0<ns.length/\∀M,M∈ns->(∀a,a∈ns->a<=M)->Q (.int M) H
def zQ(K:FX)(j:X.calm=true)(l:X.K=K:=by rfl):cP X (.builtin "max") (xC K):=by
 subst l;intro pins s σ H xs us Q I r h;obtain⟨p,ns,rfl,m,A,q⟩:=h;obtain⟨u,rfl,n⟩:=vals1 r;cases n;obtain⟨c,o,pl,d⟩:=I.tuple m;have i1:IntsAre c ns:=intsAre_of o;obtain⟨a,g⟩:=i1.allInts.items;have e:ns=a.toList.map (·.1):=(i1.numsOf.symm.trans (by rw[<-g])).trans (nums_intItems a);have f:a.toList.length=a.size:=F5;have ln:ns.length=a.size:=by rw[e,F1,f]
 have v:s.heap.IsTuple p (intItems a):=g ▸ pl;refine B6 (I.ok.hd j) v (by omega) λbest h' tk b kept=>?_;obtain⟨tok,w⟩:=intItems_at b;subst w;have am:=argBest_gt (numAt a) (a.size-1);refine⟨.int _,H,I.kept kept,⟨tok,rfl⟩,q _ ?_ λz d=>?_⟩
 .rw[e];rw[numAt_eq];exact getD_mem (by rw[F1,f];omega)
 .rw[e]at d;obtain⟨k,i,x⟩:=mem_getD d;subst x;have y:k<a.size:=by rw[F1,f]at i;exact i
  have:=am.2 k (by omega);rw[numAt_eq]at this;exact this
def wA(K:FX):List V->Hp->VK->Prop:=λxs H Q=>∃(p:Vb) (ns:List Int),xs=[.ref p]/\af K H p (ns.map V.int)/\0<ns.length/\∀M,M∈ns->(∀a,a∈ns->M<=a)->Q (.int M) H
def zX(K:FX)(j:X.calm=true)(l:X.K=K:=by rfl):cP X (.builtin "min") (wA K):=by
 subst l;intro pins s σ H xs us Q I r h;obtain⟨p,ns,rfl,m,A,q⟩:=h;obtain⟨u,rfl,n⟩:=vals1 r;cases n;obtain⟨c,o,pl,d⟩:=I.list m;have i1:IntsAre c ns:=intsAre_of o;obtain⟨a,g⟩:=i1.allInts.items;have e:ns=a.toList.map (·.1):=(i1.numsOf.symm.trans (by rw[<-g])).trans (nums_intItems a);have f:a.toList.length=a.size:=F5;have ln:ns.length=a.size:=by rw[e,F1,f]
 have v:s.heap.IsList p (intItems a):=g ▸ pl.isList;refine min_intList (I.ok.hd j) v (by omega) λbest h' tk b kept=>?_;obtain⟨tok,w⟩:=intItems_at b;subst w;have am:=argBest_lt (numAt a) (a.size-1);refine⟨.int _,H,I.kept kept,⟨tok,rfl⟩,q _ ?_ λz d=>?_⟩
 .rw[e];rw[numAt_eq];exact getD_mem (by rw[F1,f];omega)
 .rw[e]at d;obtain⟨k,i,x⟩:=mem_getD d;subst x;have y:k<a.size:=by rw[F1,f]at i;exact i
  have:=am.2 k (by omega);rw[<-numAt_eq];exact this
def CL{K:FX}{Q:VK}{ns:List Int}(e:ax K H p (ns.map V.int))(b:0<ns.length)(h:∀M,M∈ns->(∀a,a∈ns->a<=M)->Q (.int M) H):xC K [.ref p] H Q:=⟨p,ns,rfl,e,b,h⟩
def CD{K:FX}{Q:VK}{ns:List Int}(e:af K H p (ns.map V.int))(b:0<ns.length)(h:∀M,M∈ns->(∀a,a∈ns->M<=a)->Q (.int M) H):wA K [.ref p] H Q:=⟨p,ns,rfl,e,b,h⟩
end
end L2
namespace L2.Md
open PySem PySem.Spec PyProof.Rows
def sx(P:Nat->Va->Prop)(val:Nat->Int)(j:Nat):Option Va->Prop
 | none=>j=0
 | some v=>∃i,i<j/\P i v/\∀a,a<j->val a<=val i
def two:Option Va->Array Va
 | none=>#[]
 | some v=>#[v,v]
section
variable {prog:Vd} {w:Ve} {A:Vi} {R:Result->Vc->Prop} {I:Vb} {fp wr:List Vb} {n:Nat} {P:Nat->Va->Prop} {St:Nat->Vh->Prop}
theorem loop(W:Walks prog w A.in1 I fp wr n P St)(val:Nat->Int)(S:∀i v,P i v->∃t,v=.int (val i) t)(B:Vb)(H:B∉fp)(d:Va):∀(k j:Nat) (s:Vc) (o:Option Va) (c:Nat),n-j=k->j<=n->St j s.heap->sx P val j o ->
  s.heap.get? B=Vn { cls:=.type "list",dict:=Vo,data:=.seq (two o) c,slots:=#[] } ->
  (∀v h' tk,(n=0/\v=d)\/sx P val n (Vn v)->(∀b u,b∉wr->b≠B->s.heap.get? b=Vn u->h'.get? b=Vn u)->R (.ok (.ret v)) { s with heap:=h',toks:=tk }) ->
  codeAny (Vg prog w) A (.builtin "max.loop" ⟨[.ref I,.none,.ref B],[("default",d)]⟩) R s:=by
 have N:=λh=>H (W.sub _ h);have nm:(toString "max" ++ toString ".loop":String) = "max.loop":=by decide
 have cm:=CmpOf.ints_gt (prog:=prog) (w:=w) (A:=A.in1) (P:=P) val S;intro k;induction k with
 | zero=>
  intro j s o c T U p hb y x;have e:j=n:=by lia
  subst e;refine codeAny_builtin F.entry_max_loop ?_;rw[Je JI _];show Vf _ A.in1 (seqItems? (.ref B) >>= _) _ _ s;refine FV (wpAny_seqItems y rfl ?_);show Vf _ A.in1 (tryCatch (pyNext (.ref I)) _ >>= _) _ _ s;refine FV (wpAny_tryCatch (W.done s _ _ p λh' tk kp=>?_));cases o with
  | none=>
   have hb:j=0:=hb;refine FV (wpAny_rule ?_);exact FW (x d h' tk (.inl ⟨hb,rfl⟩) λb u h1 _ e=>kp b u h1 e)
  | some v=>
   have f:=kp B _ N y;show Vf _ A.in1 (updateSeq B (λ_=>#[]) >>= _) _ _ _;have J:h'.get? B=Vn { cls:=.type "list",dict:=Vo,data:=.seq #[v,v] c,slots:=#[] }:=f;refine FV (wpAny_updateSeq J rfl (FV (wpAny_letGo (FW ?_))));exact x v _ tk (.inr hb) λb u h1 h2 e=>(Hq _ _ (HQ h2)).trans (kp b u h1 e)
 | succ k L=>
  intro j s o c T U p hb y x;have lt:j<n:=by lia
  refine codeAny_builtin F.entry_max_loop ?_;rw[Je JI _];show Vf _ A.in1 (seqItems? (.ref B) >>= _) _ _ s;refine FV (wpAny_seqItems y rfl ?_);show Vf _ A.in1 (tryCatch (pyNext (.ref I)) _ >>= _) _ _ s;refine FV (wpAny_tryCatch (W.item j s _ _ lt p λv h' tk pv r kp=>?_));have f:=kp B _ N y;cases o with
  | none=>
   have hb:j=0:=hb;subst hb;show Vf _ A.in1 (updateSeq B (λ_=>#[v,v]) >>= _) _ _ _;refine FV (wpAny_updateSeq f rfl ?_);rw[nm];refine FW ⟨plainId_quiet JI _,L 1 _ (Vn v) _ (by lia) lt (W.frame _ _ _ r λb M u e=>(Hq _ _ (λz:B=b=>H (by rw[z];exact M))).trans e) ⟨0,by lia,pv,λa ha=>by rw[show a=0 by lia];exact IU _⟩ (IA _ f rfl) λC l g q m=>?_⟩;exact x C l g q λb u h1 h2 e=>m b u h1 h2 ((Hq _ _ (HQ h2)).trans (kp b u h1 e))
  | some E=>
   obtain⟨i,hi,O,G⟩:=id hb;have f:h'.get? B=Vn { cls:=.type "list",dict:=Vo,data:=.seq #[E,E] c,slots:=#[] }:=f;show Vf _ A.in1 (tryCatch (holding [v,v] (richCompare .Gt v E >>= _)) _ >>= _) _ _ _;refine FV (wpAny_tryCatch (wpAny_holding (FV (cm j i v E _ _ _ pv O ?_))));refine FV (wpAny_holding (wpAny_truthy_bool ?_));refine FV (wpAny_letGo (FW ?_));dsimp only;by_cases Q:val j>val i
   .rw[GZ Q];simp only[if_true];refine FV (wpAny_updateSeq f rfl (FV (wpAny_letGo ?_)));rw[nm];refine FW ⟨plainId_quiet JI _,L (j+1) _ (Vn v) _ (by lia) lt (W.frame _ _ _ r λb M u e=>(Hq _ _ (λz:B=b=>H (by rw[z];exact M))).trans e) ⟨j,by lia,pv,λa ha=>?_⟩ (IA _ f rfl) λC l g q m=>?_⟩
    .by_cases e:a=j
     .subst e;exact IU _
     .have:=G a (by lia);lia
    .exact x C l g q λb u h1 h2 e=>m b u h1 h2 ((Hq _ _ (HQ h2)).trans (kp b u h1 e))
   .rw[GY Q];simp only[GP,if_false];refine FV (wpAny_letGo ?_);rw[nm];refine FW ⟨plainId_quiet JI _,L (j+1) _ (Vn E) c (by lia) lt r ⟨i,by lia,O,λa ha=>?_⟩ f λC l g q m=>?_⟩
    .by_cases e:a=j
     .subst e;lia
     .exact G a (by lia)
    .exact x C l g q λb u h1 h2 e=>m b u h1 h2 (kp b u h1 e)
end
def C7(a d):argsOk "max" ⟨[a],[("default",d)]⟩:=by kernel_rfl
section
variable {P:Vd} {w:Ve} {A:Vi} {E:Va->Vc->Prop} {s:Vc}
def DT{id:String}(c:builtinKind id=Vo)(d:plainId id=true)(hb:entryFor table id=Vn b)(ha:argsOk id ⟨args,kw⟩)
  (a:Vf (Vg P w) A.in1 (b ⟨args,kw⟩) (λfin s'=>match fin with
   | .done f=>(match (Except.ok f:Result)with|.ok (.ret v)=>Q v s'|.ok _=>False|.error e=>E e s')
   | .again c'=>c'.quiet=true/\codeAny (Vg P w) A c' (λr s'=>match r with|.ok (.ret v)=>Q v s'|.ok _=>False|.error e=>E e s') s') E s):Vf (Vg P w) A (call (.builtin id) args kw) Q E s:=by
 refine wpAny_call (codeAny_call_builtin d hb ?_);simp only[checkBuiltinCall,c];cases hs:Manifest.signature? id with
 | none=>exact FW a
 | some sig=>
  have h2:Bind.checkArgs id sig ⟨args,kw⟩=pure ():=by simpa only[argsOk,hs]using ha
  show Vf _ A.in1 (Bind.checkArgs id sig ⟨args,kw⟩) _ _ s;rw[h2];exact FW a
theorem max_d{xs:Array (Int×Tok)}{d:Va}(j:A.handled=Vo)(m:s.heap.IsList l (intItems xs))
  (h:∀v h' tk,(xs.size=0/\v=d)\/(∃i,i<xs.size/\(∃t,v=.int (numAt xs i) t)/\∀a,a<xs.size->numAt xs a<=numAt xs i)->(∀b o,s.heap.get? b=Vn o->h'.get? b=Vn o)->Q v { s with heap:=h',toks:=tk }) :
  Vf (Vg P w) A (call (.builtin "max") [.ref l] [("default",d)]) Q E s:=by
 have nm:(toString "max" ++ toString ".loop":String) = "max.loop":=by decide
 refine DT F.kind_max F.plain_max F.entry_max (C7 _ _) ?_;refine FV (wpAny_of_eq (show Builtin.Builtins.bindParams "max" ["key","default"] 0 ⟨[],[("default",d)]⟩=pure [Vo,Vn d]from rfl) ?_);refine FV (FW ?_);refine FV (iter_intList m λg e st hfp c=>?_);subst e;refine FV (wpAny_newObj_type ?_);have W:=Ml (prog:=P) (w:=w) (A:=A.in1) j _ l c (intItems xs);have sz:(intItems xs).size=xs.size:=by simp[intItems]
 rw[sz]at W;refine FW ⟨plainId_quiet JI _,loop W (numAt xs) (λ_ _=>intItems_at) _ (λf=>Hy _ (hfp _ f)) d _ 0 _ Vo _ rfl (HM _) (W.frame _ _ _ st λb _ o e=>FY _ e) rfl (FZ _ rfl) λv h' tk n kp=>?_⟩;refine h v h' tk ?_ λb o e=>?_
 .rcases n with q|⟨i,h1,h2,p⟩
  .exact .inl q
  .exact .inr ⟨i,h1,intItems_at h2,p⟩
 .have hlt:=F0 e;refine kp b o (λf=>?_) (λz=>?_) (FY _ (FY _ e))
  .rw[Gb.mp f]at hlt;exact Hy _ hlt
  .rw[z]at hlt;have:(s.heap.push { cls:=.type "list_iterator",data:=.fields #[.ref l,.int 0 0] }).objs.size=s.heap.objs.size+1:=Hh ..;have h2:(s.heap.push { cls:=.type "list_iterator",data:=.fields #[.ref l,.int 0 0] }).objs.size<s.heap.objs.size:=hlt;lia
end
end L2.Md
namespace L2
open PySem PySem.Spec PyProof.Rows
section
variable {X:Cx}
def lZ(K:FX):List V->V->Hp->VK->Prop:=λxs d H Q=>∃(p:Vb) (ns:List Int) (z:Int),xs=[.ref p]/\d=.int z/\af K H p (ns.map V.int)/\∀M,(ns=[]/\M=z)\/(M∈ns/\∀a,a∈ns->a<=M)->Q (.int M) H
theorem BY(n:X.calm=true){d:V}{Q:VK}(I:Inv X pins σ H s)(r:Vals xs us)(o:RelV d u)(h:lZ X.K xs d H Q):
  Vf (Vg X.prog X.w) X.A (call (.builtin "max") us [("default",u)]) (EP X pins σ Q) X.xe s:=by
 obtain⟨p,ns,z,rfl,rfl,x,q⟩:=h;obtain⟨G,rfl,y⟩:=vals1 r;cases y;obtain⟨c,B,pl,J⟩:=I.list x;have i1:IntsAre c ns:=intsAre_of B;obtain⟨b,l⟩:=i1.allInts.items;have e:ns=b.toList.map (·.1):=(i1.numsOf.symm.trans (by rw[<-l])).trans (nums_intItems b);have f:b.toList.length=b.size:=F5;have ln:ns.length=b.size:=by rw[e,F1,f]
 have C:s.heap.IsList p (intItems b):=l ▸ pl.isList;refine Md.max_d (I.ok.hd n) C λv h' tk E kept=>?_;rcases E with⟨L,rfl⟩|⟨i,hi,⟨t,rfl⟩,g⟩
 .refine⟨.int z,H,I.kept kept,o,q z (.inl ⟨?_,rfl⟩)⟩;exact KN (by lia)
 .refine⟨.int _,H,I.kept kept,⟨t,rfl⟩,q _ (.inr ⟨?_,λa ha=>?_⟩)⟩
  .rw[e,numAt_eq];exact getD_mem (by rw[F1,f];lia)
  .rw[e]at ha;obtain⟨k,m,F⟩:=mem_getD ha;subst F;have j:k<b.size:=by rw[F1,f]at m;exact m
   have:=g k j;rw[numAt_eq]at this;exact this
def wQ(K:FX)(t:TA)(td:TE):TE:=λσ H Q=>t σ H λvs H1=>td σ H1 λd H2=>lZ K vs d H2 Q
def Dm(K:FX){e d:Vk}{es:List Vk}{t:TA}{p p3 pos:Pos}(b:X.calm=true)(c:Gl X "max")(f:X.mg "max" = Vo)(ha:PA X (e::es) t)(hd:PE X d td)
  (g:starEach (e::es) X.env=(false,eval e X.env)::starEach es X.env:=by rfl) (a:(backTo pos (starEach (e::es) X.env)).any (·.1)=false:=by rfl) (i:X.K=K:=by rfl):PE X (.Call (.Name "max" p) (e::es) [⟨Vn "default",d,p3⟩] pos) (wQ K t td):=by
 subst i;intro pins s σ H Q I h;refine wpAny_Call_Name_kw (fu I c f IK ?_ (by decide) (by decide));refine PyProof.Rows.callWith_kw (aJ (ha pos pins s σ H _ I h) λus s1 ⟨vs,H1,j,r1,l⟩=>?_) (by rw[g];rfl) a rfl rfl;refine FV (FV (aJ (hd pins s1 σ H1 _ j l) λu s2 ⟨q,H2,m,n,o⟩=>?_));refine FV (wpAny_standAt (FW ?_));refine FV (wpAny_holding ?_);refine FW (FW ?_);exact BY b m r1 n o
end
def rd_maxD{K:FX}{Q:VK}(h:t σ H λvs H1=>td σ H1 λd H2=>lZ K vs d H2 Q):wQ K t td σ H Q:=h
def Ad{K:FX}{Q:VK}(e:af K H p (ns.map V.int))(h:∀M,(ns=[]/\M=z)\/(M∈ns/\∀a,a∈ns->a<=M)->Q (.int M) H):lZ K [.ref p] (.int z) H Q:=⟨p,ns,z,rfl,rfl,e,h⟩
def kL(d:Vb)(od:Obj)(kvs:List (List Key×V))(bs:List Vb):It:=⟨λi H=>H d=Vn (.frz od (.dT kvs))/\i<bs.length,λi H x H'=>H'=H/\∃b,bs[i]?=Vn b/\x=.ref b,λi H=>H d=Vn (.frz od (.dT kvs))/\bs.length<=i⟩
def nS{d:Vb}{u:HO}(ok:bE P w H h)(e:H d=Vn (.frz od u)):h.get? d=Vn od:=(ok d _ e).1
def B9{K:FX}(d it)(a:od.data=.dict es ep)(hb:∀i:Nat,(es[i]?).map Mn=(bs[i]?).map Value.ref)(y:es.size=bs.length):
  Turn P w K tg (kL d od kvs bs) [it] it (λi h=>h.IsKeyIter it d i es.size ep) where
 mem:=by simp
 obj:=λi h st b hb=>by
  have e:b=it:=by simpa using hb
  subst e;obtain⟨o,e,c,d⟩:=st;exact⟨o,e,λv z=>by rw[d]at z;cases z⟩
 keep:=λi h h' st k=>st.at λo e=>k it (by simp) o e
 item:=by
  intro X j l m A i pins s σ H E I g st n;obtain⟨hd,hi⟩:=n;obtain⟨p,q,B,r,u,x⟩:=g it (by simp);have hlt:i<es.size:=by rw[y];exact hi
  have C:es[i].key=.ref bs[i]:=by have:=hb i;rw[Hv hlt,F2 hi]at this;exact GK this
  refine BH st (nS I.hok hd) a hlt λh' f F=>?_;have G:Inv X pins σ H { s with heap:=h' }:=I.turned (t':=s.toks) (λb o hb e=>(F.2 b hb).trans e) p q r u x;obtain⟨o,e,c,J⟩:=id f;rw[C];exact⟨_,rfl,ka e c J (by decide) ⟨.ref bs[i],H,G,rfl,⟨rfl,_,F2 hi,rfl⟩,f,λb hb=>(g b hb).1⟩⟩
 done:=by intro X j l m A i pins s σ H E I g st n;obtain⟨hd,hi⟩:=n;obtain⟨p,q,B,r,u,x⟩:=g it (by simp);exact Bc (I.ok.hd A) st (nS I.hok hd) a (by rw[y];exact hi) λh' L=>⟨rfl,I.turned (λb o hb e=>L b o hb e) p q r u x⟩
 self:=λ_ _ _ _ _ st h=>wpAny_pyIter_keyiter st h
def zw{d:Vb}{o:HO}(e:H d=Vn o):upd H d o=H:=funext λb=>by
 by_cases h:b=d
 .subst h;rw[aE,e]
 .rw[aA h]
section
variable {X:Cx} {tg:Vk}
def wJ(tl:TE):TI:=λσ H R=>tl σ H λx H1=>∃d kvs,x=.ref d/\Rd H1 d (.dT kvs)/\∀od (bs:List Vb),Paired (λb (kv:List Key×V)=>H1 b=Vn (.tup (kv.1.map kV))) bs kvs->R (kL d od kvs bs) (upd H1 d (.frz od (.dT kvs)))
def lT{l:Vk}(y:PE X l tl):PI X tg l (wJ tl):=by
 intro pins s σ H R I h;refine aJ (y pins s σ H _ I h) λv s1 ⟨x,H1,g,r1,A⟩=>?_;obtain⟨d,kvs,rfl,hd,q⟩:=A;cases r1;obtain⟨B,r,xs,rel,od,es,ep,ho,u,c,f,j⟩:=(show bI X.prog X.w H1 s1.heap d (.dT kvs)from mU g.hok hd);refine zb r ho u c ?_;have m:es.size=(xs.map (·.2.1)).length:=by rw[<-F5,f,F1,F1]
 have n:∀i:Nat,(es[i]?).map Mn=((xs.map (·.2.1))[i]?).map Value.ref:=λi=>by rw[<-IZ,f,F3,F3,Option.map_map,Option.map_map];rfl
 have p:Inv X pins σ (upd H1 d (.frz od (.dT kvs))) s1:=by
  rcases hd with hd|⟨o',hd⟩
  .refine mC g (by rw[hd];exact True.intro) ⟨rfl,λ_ _=>rfl⟩ ⟨_,ho⟩ ⟨ho,B,r,xs,Paired.mapP rel λa b h=>⟨h.1,?_,h.2.2⟩,od,es,ep,ho,u,c,f,j⟩;rw[aA (bA h.2.1 hd (by intro z;cases z))];exact h.2.1
  .have e:o'=od:=GK ((nS g.hok hd).symm.trans ho);subst e;rw[zw hd];exact g
 refine⟨s1.heap.objs.size,[s1.heap.objs.size],_,_,_,rfl,p.kept λb o e=>FY _ e,B9 d _ c n m,⟨_,FZ _ rfl,rfl,rfl⟩,λb hb=>?_,q od _ (Dc rel)⟩;have e:b=s1.heap.objs.size:=by simpa using hb
 subst e;exact p.fpOk (Gn _) (p.hok.fresh (Gn _))
end
def rd_iDF(h:te σ H λx H1=>∃d kvs,x=.ref d/\Rd H1 d (.dT kvs)/\∀od (bs:List Vb),Paired (λb (kv:List Key×V)=>H1 b=Vn (.tup (kv.1.map kV))) bs kvs->R (kL d od kvs bs) (upd H1 d (.frz od (.dT kvs)))):wJ te σ H R:=h
theorem pR{d:Vb}(Pv:Nat->St->Hp->Prop)(e:Pv 0 σ H)(c:∀i σ H,Pv i σ H->H d=Vn (.frz od (.dT kvs)))
  (hs:∀i b σ H,bs[i]?=Vn b->Pv i σ H->g (.ref b) σ H λa H2=>tb ⟨Pv (i+1),D.rt,D.nx,Pv (i+1)⟩ a H2) (hd:∀σ H,Pv bs.length σ H->D.nx σ H):iL (kL d od kvs bs) g tb D σ H:=by
 refine⟨λi m σ H=>m=bs.length-i/\i<=bs.length/\Pv i σ H,⟨_,rfl,HM _,e⟩,?_⟩;rintro i m σ H ⟨rfl,hi,p⟩;rcases GQ i bs.length with l|l
 .refine .inr ⟨⟨c i σ H p,l⟩,Pv (i+1),λf H' q=>⟨bs.length-(i+1),by lia,rfl,l,q⟩,?_⟩;rintro x H' ⟨rfl,b,hb,rfl⟩;exact hs i b σ H' hb p
 .have:i=bs.length:=by lia
  subst this;exact .inl ⟨⟨c _ σ H p,l⟩,hd σ H p⟩
theorem BK{d:Vb}{Q:VK}(Pv:Nat->List V->Hp->Prop)(u:bs.length<=sizeLine)(f:Pv 0 [] H)(h:∀i ys H,Pv i ys H->H d=Vn (.frz od (.dT kvs))/\ys.length<=i)
  (hs:∀i b ys H,bs[i]?=Vn b->Pv i ys H->g (.ref b) (dv n js σ) H λa j=>tc a j λb c=>if b=true then te a c λv o=>Pv (i+1) (ys++[v]) o else Pv (i+1) ys c)
  (hd:∀ys H p,Pv bs.length ys H->H p=Vo->Q (.ref p) (upd H p (.lst ys))):hJ (kL d od kvs bs) n js g tc te σ H Q:=by
 refine⟨λi m ys H=>m=bs.length-i/\i<=bs.length/\Pv i ys H,⟨bs.length,by simp,HM _,f⟩,?_⟩;rintro i m ys H ⟨rfl,hi,p⟩;have e:=h i ys H p;rcases GQ i bs.length with l|l
 .refine .inr ⟨⟨e.1,l⟩,by lia,Pv (i+1),λr H' q=>⟨bs.length-(i+1),by lia,rfl,l,q⟩,?_⟩;rintro x H' ⟨rfl,b,hb,rfl⟩;exact hs i b ys H' hb p
 .have:i=bs.length:=by lia
  subst this;exact .inl ⟨⟨e.1,l⟩,λq s=>hd ys H q p s⟩
def nW(q:Vd)(loose:List Vm)(c:(Vm->Option Va)->Vh->Prop)(e:Ve->Vh->Prop)(r:PySem.W.RowW)(d:DefRec)(a:List (Vm×Vk))(run:Va->List Va->Sem Va)(w:Ve):Prop:=JT q loose c (λb h=>e b h/\b=w) r d a run
def uQ{q:Vd}{b:(Vm->Option Va)->Vh->Prop}{c:Ve->Vh->Prop}{r:PySem.W.RowW}{d:DefRec}{a:List (Vm×Vk)}{run:Va->List Va->Sem Va}{e:Prop}(f:Params->FX)(_:JT q loose b c r d a run->e):FX:=@Classical.epsilon FX ⟨default⟩ λK=>∃w:Ve,f w.params=K/\¬nW q loose b c r d a run w
def Br{c:(Vm->Option Va)->Vh->Prop}{f:Ve->Vh->Prop}{r:PySem.W.RowW}{d:DefRec}{a:List (Vm×Vk)}{run:Va->List Va->Sem Va}(g)(T:JT q loose c f r d a run->j)
  (h:JT q loose c (λw h=>f w h/\g w.params=uQ g T) r d a run):JT q loose c f r d a run:=by
 have key:∀w,nW q loose c f r d a run w:=λw=>HL λl=>by obtain⟨o,e,i⟩:=@Classical.epsilon_spec FX (λK=>∃w:Ve,g w.params=K/\¬nW q loose c f r d a run w) ⟨_,w,rfl,l⟩;refine i λm s₀ b mg mb G Y=>?_;obtain⟨n,rfl⟩:=Y;exact h m s₀ b mg mb G ⟨n,e⟩
 exact λw s₀ b mg mb G Y=>key w w s₀ b mg mb G ⟨Y,rfl⟩
def A1{l:PySem.W.OpenLaw}{d:DefRec}{K:Params->FX}{sp:Ve->Sp}(xs:List Vm)
  (L:l.most=Vn n) (A:n<=sizeLine) (B:d.params.defaults=[]) (M:Room k callerA)
  (N:∀w h,z w h->(K w.params).In h) (O:∀w:Ve,Lv (K w.params)=true) (hrec:∀y∈xs,((recsOf q).find? (λe=>e.name == y)).isSome=true) (htab:∀(w:Ve),∀y∈xs,(Hm (K w.params) y).isSome=true)
  (F:∀w mg r h,z w h->(K w.params).In h->h.Ns Vj mg->mg d.name=Vn (.ref r) ->
   ∃fd,(∀s u,BindsTo s fd ⟨[u],[]⟩ [(x,u)]) ∧
    ∀base,(K w.params).In base->base.Ns Vj mg->(∀y∈xs,∃c T,Tab (K w.params) mg base y c T)->FnOk l.prog w (K w.params) mg base cQ k r fd [x] (sp w))
  (hsp:∀w H a (ns:List Int),ns.length<=n->(∀y∈xs,∀c T,Hm (K w.params) y=Vn (c,T)->H T=Vn (.tbl #[]))->af (K w.params) H a (ns.map V.int)->sp w [.ref a] H (λv _=>v=.bl true) λ_ _ _=>False) :
  JT q loose J z l.row.toRowW d [] (λf vs=>Mk f vs):=by
 refine Att.BA L B λw s₀ j mg mb r o pm cd doc a vs ns G Y ho hd P C m hints hlen Q=>?_;have E:=N w _ Y;obtain⟨fd,hb,R⟩:=F w mg r _ Y E G.T.g C;have S:PySem.W.TabsAt (xs.filterMap (Hm (K w.params))) j.heap:=λp U=>by obtain⟨y,i,e⟩:=Ia.mp U;obtain⟨dr,X⟩:=HV.mp (hrec y i);exact PySem.W.tab_of G.T E X e
 refine EM E (O w) S G.T.g G.T.b G.T.builtins G.T.nolimit G.T.bmain Q m hints (GC hlen A) M (λbase I nb tb=>R base I nb λy i=>?_) hb λH Z hS=>hsp w H a ns hlen (λy i c T e=>Z (c,T) (Ia.mpr ⟨y,i,e⟩)) hS;obtain⟨⟨c,T⟩,e⟩:=HV.mp (htab w y i);obtain⟨h1,h2,h3⟩:=tb (c,T) (Ia.mpr ⟨y,i,e⟩);exact⟨c,T,e,h1,h2,h3,I,nb⟩
def lN(N P:List Vm)(sc:Scope):Bool:=(match sc.kind with|.function=>true|_=>false) && !sc.isCoroutine && !sc.isGenerator && decide N.Nodup && decide (N.take P.length=P) && (P.all λx=>match sc.names.lookup x with|some .local=>true|some .cell=>true|_=>false) && sc.names.all λy=>match y.2 with|.free=>false|_=>true
def lX{P:List Vm}(h:lN N P sc=true):FnScope N P sc:=by
 unfold lN at h;simp only[GI,Bool.not_eq_true',decide_eq_true_eq,GF]at h;obtain⟨⟨⟨⟨⟨⟨h1,h2⟩,a⟩,b⟩,c⟩,d⟩,f⟩:=h;refine⟨?_,h2,a,b,c,λx g=>?_,λy i e=>?_⟩
 .revert h1
  cases sc.kind<;>intro h1<;>first|rfl|cases h1
 .have:=d x g
  revert this
  cases sc.names.lookup x with
  | none=>intro z;cases z
  | some k=>cases k<;>intro z<;>first|exact .inl rfl|exact .inr rfl|cases z
 .have:=f y i;rw[e]at this;cases this
def oi{α:Type}{a:α}:a=a\/q:=.inl rfl
def oj{α:Type}{a:α}:q\/a=a:=.inr rfl
section
variable {P:Vd} {w:Ve} {K:FX} {mg:Vm->Option Va} {base:Vh}
def Dfn.oS{x:Vm}{st:Stmt}{k:Nat}(D:Dfn K mg x st ps)(N:List Vm)
  (a:∀{f cdv A outer s H E},Room k (eP cQ P w K mg base N x (cJ st) f cdv A outer s H E).nox.A->N.Nodup->∀(H':Hp) (vs:List V) (Q:VK) (b:XK),sp vs H' Q b ->
   ∃t,cM (eP cQ P w K mg base N x (cJ st) f cdv A outer s H E).nox (eY st) t/\t { nx:=λ_ H'=>Q .non H',rt:=Q } (start N vs) H')
  (len:∀vs H Q E,sp vs H Q E->vs.length=ps.length:=by intro _ _ _ _ h;cases h;subst_vars;rfl) (h:lN N ps (cJ st)=true:=by decide +kernel):Cal P w K mg base x (k+1) ps sp:=
 D.ok (lX h) len λX c H' vs Q b hs=>by obtain⟨f,cdv,A,outer,s,H,E,rfl,d⟩:=c;exact a d (lX h).nd H' vs Q b hs
def Dfn.oL{x:Vm}{st:Stmt}{k:Nat}{T:Vb}(D:Dfn K mg x st ps)(B:Tab K mg base x c T)(N:List Vm)
  (a:∀{f A outer s H E},Room k (eP cQ P w K mg base N x (cJ st) f (.ref c) A outer s H E).nox.A->N.Nodup->∀(H':Hp) (vs:List V) (Q:VK) (b:XK),sp vs H' Q b ->
   ∃t,cM (eP cQ P w K mg base N x (cJ st) f (.ref c) A outer s H E).nox (eY st) t/\t { nx:=λ_ H'=>Q .non H',rt:=Q } (start N vs) H')
  (len:∀vs H Q E,sp vs H Q E->vs.length=ps.length:=by intro _ _ _ _ h;cases h;subst_vars;rfl) (h:lN N ps (cJ st)=true:=by decide +kernel):Cal P w K mg base x (k+1) ps sp:=
 D.okL B (lX h) len λX d H' vs Q b hs=>by obtain⟨f,A,outer,s,H,E,rfl,e⟩:=d;exact a e (lX h).nd H' vs Q b hs
end
section
variable {X:Cx} {e:Vk} {es:List Vk} {te:TE} {t:TA}
def ag(ha:PE X e te)(a:PA X es t)(hs:starEach (e::es) X.env=(false,eval e X.env)::starEach es X.env):PA X (e::es) (mO te t):=ao ha a hs
end
end L2
namespace St
def iR(lo hi:Int)(xs:List Int):Prop:=xs.Pairwise (· < ·)/\∀x∈xs,lo<=x/\x<hi
structure Ok(b s:Int)(o a:List Int):Prop where
 hb:0<=b
 hs:1<=s
 ho:iR 0 b o
 ha:iR b (b+s) a
def mem(b s:Int)(o a:List Int)(x:Int):Bool:=if x<b then o.contains x else a.contains (b+(x-b) % s)
section
variable {b s:Int} {o a:List Int}
def lL(x)(h:x<b):mem b s o a x=o.contains x:=G5 h
theorem kS(x)(h:b<=x):mem b s o a x=a.contains (b+(x-b) % s):=G0 (by lia)
end
end St
namespace St
def bj(f:Nat->Bool)(b d:Nat):Prop:=∀x,b<=x->f (x+d)=f x
theorem bj.mul{f:Nat->Bool}{b d:Nat}(h:bj f b d):∀k x,b<=x->f (x+k*d)=f x
 | 0,x,a=>by simp
 | k+1,x,a=>by rw[JB,<-JD,h _ (by lia),h.mul k x a]
theorem bj.mono{b c:Nat}(h:bj f b d)(a:b<=c):bj f c d:=λx e=>h x (by lia)
def bj.times(h:bj f b d)(k):bj f b (k*d):=λx a=>h.mul k x a
theorem bj.down{b s a:Nat}(h:bj f b s)(hs:1<=s)(h':bj f a d):bj f b d:=λx c=>by have e:=h.mul a (x+d) (by lia);have g:=h.mul a x c;rw[<-e,<-g,show x+d+a*s=(x+a*s)+d by lia];exact h' _ (by have:a*1<=a*s:=MC _ hs;lia)
theorem bj.mod{b s:Nat}(h:bj f b s)(h':bj f b d):bj f b (s % d):=λx a=>by have e:=(h'.times (s / d)) (x+s % d) (by lia);rw[<-e,show x+s % d+s / d*d=x+s by have:=JQ s d;rw[Hx]at this;lia];exact h x a
structure Least(f:Nat->Bool)(st low:Nat):Prop where
 pos:1<=st
 per:bj f low st
 step:∀d b,1<=d->bj f b d->st<=d
 base:∀b,bj f b st->low<=b
def Least.one{st b a:Nat}(h:Least f st low)(h':Least f b a):st=b/\low=a:=by have e:st=b:=LY (h.step b a h'.pos h'.per) (h'.step st low h.pos h.per);subst e;exact⟨rfl,LY (h.base a h'.per) (h'.base low h.per)⟩
def Alike(f:Nat->Bool)(b s d:Nat):Prop:=s % d=0/\∀i,i+d<s->f (b+i+d)=f (b+i)
theorem Alike.per{b s:Nat}(h:bj f b s)(hs:1<=s)(hd:1<=d)(a:Alike f b s d):bj f b d:=by
 obtain⟨q,rfl⟩:∃q,s=d*q:=⟨s / d,by have:=JQ s d;rw[a.1]at this;lia⟩;have o:1<=q:=by
  cases q with
  | zero=>simp at hs
  | succ q=>lia
 have inner:∀k i,i<d->k<q->f (b+i+k*d)=f (b+i):=by
  intro k;induction k with
  | zero=>intro i _ _;simp
  | succ k c=>
   intro i hi p;have e:=a.2 (i+k*d) (by have:(k+1+1)*d<=q*d:=L0 _ (by lia);rw[JB,JB,Hx q d]at this;lia)
   rw[show b+i+(k+1)*d=b+(i+k*d)+d by rw[JB];lia,e,<-JD];exact c i hi (by lia)
 have all:∀n,f (b+n)=f (b+n % d):=λn=>by
  have g:f (b+n)=f (b+n % (d*q)):=by have:=h.mul (n / (d*q)) (b+n % (d*q)) (by lia);rw[<-this];congr 1;have:=JQ n (d*q);rw[Hx (d*q)]at this;lia
  rw[g];have hlt:n % (d*q)<d*q:=JC _ (by lia);have j:n % (d*q)=n % (d*q) % d+n % (d*q) / d*d:=by have:=JQ (n % (d*q)) d;rw[Hx]at this;lia
  have l:n % (d*q) % d=n % d:=J3 n d q;have m:=Nat.div_lt_of_lt_mul hlt;rw[j,<-JD,inner _ _ (JC _ (by lia)) m,l]
 intro x r;obtain⟨n,rfl⟩:∃n,x=b+n:=⟨x-b,by lia⟩;rw[JD,all (n+d),all n,JY]
theorem bj.alike{b s:Nat}(h:bj f b d)(a:s % d=0):Alike f b s d:=⟨a,λi _=>h (b+i) (by lia)⟩
theorem E8{b s:Nat}(h:bj f b s)(hs:1<=s)(hd:1<=d)(a:Alike f b s d)(first:∀e,1<=e->e<d->¬Alike f b s e):bj f b d/\∀e g,1<=e->bj f g e->d<=e:=by
 have i:=a.per h hs hd;refine⟨i,λe g j pe=>?_⟩;have c:=h.down hs pe;have go:∀n e,e<=n->1<=e->bj f b e->d<=e:=by
  intro n;induction n with
  | zero=>intro e h1 h2;lia
  | succ n l=>
   intro e h1 h2 pe;by_cases m:s % e=0
   .rcases GQ e d with hlt|hge
    .exact absurd (pe.alike m) (first e h2 hlt)
    .exact hge
   .have hlt:s % e<e:=JC _ (by lia);have:=l (s % e) (by lia) (by lia) (h.mod pe);lia
 exact go e e (Gn _) j c
def Bk{b s:Nat}(h:bj f b s)(hs:1<=s)(hd:1<=d)(a:Alike f b s d)(first:∀e,1<=e->e<d->¬Alike f b s e)(m:low<=b)
  (down:∀x,low<=x->x<b->f x=f (x+d)) (stop:low=0\/f (low-1)≠f (low-1+d)):Least f d low:=by
 obtain⟨g,c⟩:=E8 h hs hd a first
 refine⟨hd,λx i=>?_,c,λj l=>?_⟩
 .rcases GQ x b with hlt|hge
  .exact(down x i hlt).symm
  .exact g x hge
 .rcases stop with n|hne
  .omega
  .rcases GQ j low with hlt|hge
   .exact absurd (l (low-1) (by omega)).symm hne
   .exact hge
def row(f:Nat->Bool)(lo n:Nat):List Int:=((GX n).filter λi=>f (lo+i)).map λi=>((lo+i:Nat):Int)
end St
namespace St
def lC(f)(lo n):row f lo (n+1)=row f lo n++if f (lo+n)then[((lo+n:Nat):Int)]else[]:=by unfold row;rw[JA,Hc,Gj];congr 1;by_cases h:f (lo+n)=true<;>simp[h]
def ve(f)(lo n):(row f lo n).length<=n:=by unfold row;rw[F1];exact GC (HJ _ _) (by simp)
theorem i9{lo:Nat}:x∈row f lo n↔(lo:Int)<=x/\x<lo+n/\f x.toNat=true:=by
 unfold row;simp only[G6,G8,HK];constructor
 .rintro⟨i,⟨hi,a⟩,rfl⟩;refine⟨by lia,by lia,?_⟩;exact a
 .rintro⟨h1,h2,b⟩;refine⟨x.toNat-lo,⟨by omega,?_⟩,by omega⟩;rw[show lo+(x.toNat-lo)=x.toNat by omega];exact b
theorem qT(f)(lo n:Nat):iR lo (lo+n) (row f lo n):=by refine⟨?_,λx c=>⟨(i9.mp c).1,(i9.mp c).2.1⟩⟩;unfold row;rw[Ii];refine List.Pairwise.imp (R:=λa b=>a<b) (λh=>by lia) ?_;exact L3 _ JN
def ye{lo:Nat}(h1:(lo:Int)<=x)(h2:x<lo+n):(row f lo n).contains x=f x.toNat:=by
 rw[GH,HZ,i9];constructor
 .exact λh=>h.2.2
 .exact λh=>⟨h1,h2,h⟩
theorem vx(f)(b s:Nat)(hs:1<=s):Ok b s (row f 0 b) (row f b s):=
 ⟨by lia,by lia,by have:=qT f 0 b;simpa using this,qT f b s⟩
theorem va{b s:Nat}(hs:1<=s)(h:bj f b s)(x:Nat):mem b s (row f 0 b) (row f b s) x=f x:=by
 by_cases a:x<b
 .rw[lL _ (by lia),ye (by lia) (by lia),Gf]
 .rw[kS _ (by lia)];have r0:0<=((x:Int)-b) % s:=Hi _ (by lia);have r1:((x:Int)-b) % s<s:=Hd _ (by lia);rw[ye (by lia) (by lia)];have e:((b:Int)+((x:Int)-b) % s).toNat=b+(x-b) % s:=by
   have:((x:Int)-b) % s=(((x-b) % s:Nat):Int):=by rw[show (x:Int)-b=((x-b:Nat):Int) by lia];rfl
   lia
  rw[e];have:=h.mul ((x-b) / s) (b+(x-b) % s) (by lia);rw[<-this];congr 1;have:=JQ (x-b) s;rw[Hx]at this;lia
def fn(b s:Int)(o a:List Int)(n:Nat):Bool:=mem b s o a n
theorem Fg{b s:Int}{o a:List Int}(S:Ok b s o a):bj (fn b s o a) b.toNat s.toNat:=λx c=>by
 have hs:=S.hs;unfold fn;rw[kS _ (by lia),kS _ (by lia)];congr 2;have:((x+s.toNat:Nat):Int)-b=(x:Int)-b+s*1:=by lia
 rw[this,Kp]
theorem Bp{b s:Int}{o a:List Int}(S:Ok b s o a)(i:0<=y):(o.contains y || a.any λx=>decide (x<=y) && (y-x) % s == 0)=mem b s o a y:=by
 have hs:=S.hs;by_cases h:y<b
 .rw[lL _ h];have:(a.any λx=>decide (x<=y) && (y-x) % s == 0)=false:=by rw[List.any_eq_false];intro x c;have:=S.ha.2 x c;simp;lia
  rw[this,JR]
 .rw[kS _ (by lia)];have:o.contains y=false:=by rw[IY];intro d;rw[HZ]at d;have:=S.ho.2 y d;lia
  rw[this,Bool.false_or,GH,GG,HZ];have j:=J4 (y-b) s;have f:0<=(y-b) / s:=Iy (by lia) (by lia);have l:0<=s*((y-b) / s):=Gy (by lia) f;constructor
  .rintro⟨x,c,d⟩;simp only[GI,decide_eq_true_eq,beq_iff_eq]at d;have hb:=S.ha.2 x c;have e:(y-b) % s=x-b:=by
    have g:y-b=(x-b)+s*((y-x) / s):=by have:=J4 (y-x) s;lia
    rw[g,Kp,K0 (by lia) (by lia)]
   rw[e,show b+(x-b)=x by lia];exact c
  .intro c;refine⟨_,c,?_⟩;simp only[GI,decide_eq_true_eq,beq_iff_eq];refine⟨by lia,?_⟩;rw[show y-(b+(y-b) % s)=s*((y-b) / s) by lia];exact Int.mul_emod_right _ _
def FG(f)(lo m n):row f lo (m+n)=row f lo m++row f (lo+m) n:=by
 induction n with
 | zero=>simp[row]
 | succ n a=>rw[<-JD,lC,a,lC,Hu,JD]
end St
namespace St
def cm(a b:Nat):Nat:=a / Iv a b*b
def Ba(a b):cm a b=b / Iv a b*a:=by unfold cm;have ha:Iv a b*(a / Iv a b)=a:=ME (J8 a b);have hb:Iv a b*(b / Iv a b)=b:=ME (Nat.gcd_dvd_right a b);generalize c:Iv a b=g at *;generalize a / g=x at *;generalize b / g=y at *;rw[<-ha,<-hb,Hx y,Hx g y,Hx g x,Nat.mul_assoc,Hx g y,<-Nat.mul_assoc]
def BN{a b:Nat}(ha:1<=a)(hb:1<=b):1<=cm a b:=by have h1:0<a / Iv a b:=Nat.div_pos (Jm ha (J8 a b)) (LH b ha);exact Nat.mul_pos h1 hb
def pairF(g:Bool->Bool->Bool)(a b:Nat->Bool):Nat->Bool:=λx=>g (a x) (b x)
theorem Fx{g:Bool->Bool->Bool}{a b:Nat->Bool}{c s1 s2:Nat}(h1:bj a c s1)(h2:bj b d s2):bj (pairF g a b) (max c d) (cm s1 s2):=λx h=>by
 unfold pairF;have e:a (x+cm s1 s2)=a x:=by rw[Ba];exact h1.mul _ x (by lia)
 have f:b (x+cm s1 s2)=b x:=h2.mul _ x (by lia);rw[e,f]
def zU(x y:Nat):Iv y (x % y)=Iv x y:=by rw[Nat.gcd_comm x y,Nat.gcd_rec y x,Nat.gcd_comm]
end St
namespace St
theorem Least.dvd{l b s:Nat}(h:Least f d l)(a:bj f b s):d ∣ s:=by
 have hd:=h.pos;have p1:bj f (max b l) s:=a.mono (by lia);have p2:bj f (max b l) d:=h.per.mono (by lia);have p3:=p1.mod p2;rcases Kq (s % d)with z|z
 .exact LP z
 .have h1:=h.step (s % d) _ z p3;have h2:s % d<d:=JC _ hd;lia
end St
namespace Bfs
theorem iV:∀(N:Nat) (l:List Nat),l.Nodup->(∀x∈l,x<N)->l.length<=N
 | 0,l,_,h=>by
  cases l with
  | nil=>exact Gn _
  | cons x l=>exact absurd (h x F7) (Ha _)
 | N+1,l,a,h=>by
  have b:=iV N (l.erase N) (a.erase N) (λx c=>by
   have:=h x (List.mem_of_mem_erase c);have hne:x≠N:=λe=>by subst e;exact(List.Nodup.not_mem_erase a) c
   lia)
  by_cases d:N∈l
  .rw[Jl d]at b;lia
  .rw[List.erase_of_not_mem d]at b;lia
abbrev Pl:=Int×Int
def inR(T:Int)(x:Pl):Prop:=0<=x.1/\x.1<12/\0<=x.2/\x.2<=T
theorem EY{T:Int}{l:List Pl}(o:T<=2000)(d:l.Nodup)(h:∀x∈l,inR T x):l.length<=24012:=by
 have c:(l.map λx=>(x.1*2001+x.2).toNat).Nodup:=by unfold LQ at d ⊢;rw[Ii];refine JE ?_ d;intro a b ha hb hab e;obtain⟨f,g,i,j⟩:=h a ha;obtain⟨p,q,b3,r⟩:=h b hb;refine hab (IG ?_ ?_)<;>lia
 have:=iV 24012 _ c (λy m=>by obtain⟨x,n,rfl⟩:=G6.mp m;obtain⟨f,g,i,j⟩:=h x n;lia)
 rwa [F1]at this
section
variable (nx:Pl->Nat->Option Pl) (s:Pl)
inductive Wk:Nat->Pl->Prop
 | zero:Wk 0 s
 | succ {n:Nat} {x y:Pl} {k:Nat}:Wk n x->nx x k=Vn y->Wk (n+1) y
def cF(n:Nat)(x:Pl):Prop:=Wk nx s n x/\∀m,m<n->¬Wk nx s m x
def cF.uniq(h:cF nx s n x)(g:cF nx s m x):n=m:=by
 rcases JZ n m with l|l|l
 .exact absurd h.1 (g.2 n l)
 .exact l
 .exact absurd g.1 (h.2 m l)
abbrev Ent:=Pl×Nat×Option (Pl×Nat)
structure QI(q:List Ent)(i B:Nat):Prop where
 nd:(q.map (·.1)).Nodup
 par:∀e∈q,(e.2.2=Vo/\e.1=s/\e.2.1=0)\/∃p k d o,e.2.2=Vn (p,k)/\nx p k=Vn e.1/\e.2.1=d+1/\(p,d,o)∈q
 le:∀e∈q,e.2.1<=B+1
 lo:∀j e,q[j]?=Vn e->i<=j->B<=e.2.1
 srt:q.Pairwise λa b=>a.2.1<=b.2.1
 cl:∀j e,j<i->q[j]?=Vn e->∀k y,nx e.1 k=Vn y->∃e'∈q,e'.1=y/\e'.2.1<=e.2.1+1
 s0:(s,0,Vo)∈q
def QI.begin:QI nx s [(s,0,Vo)] 0 0:=by
 refine⟨by simp,?_,?_,?_,by simp,?_,by simp⟩
 .intro e a;rw[Gb]at a;subst a;exact .inl ⟨rfl,rfl,rfl⟩
 .intro e a;rw[Gb]at a;subst a;simp
 .intro j e _ _;exact HM _
 .intro j e b;exact absurd b (Ha _)
variable {nx s}
theorem QI.wk{q:List Ent}{i B:Nat}(h:QI nx s q i B):∀(d:Nat) (e:Ent),e∈q->e.2.1=d->Wk nx s d e.1
 | 0,e,a,hd=>by
  rcases h.par e a with⟨_,hs,_⟩|⟨p,k,d,o,_,_,b,_⟩
  .rw[hs];exact .zero
  .omega
 | d+1,e,a,hd=>by
  rcases h.par e a with⟨_,_,g⟩|⟨p,k,d',o,_,c,b,f⟩
  .omega
  .have:d'=d:=by lia
   subst this;exact .succ (QI.wk h d' _ f rfl) c
theorem QI.all(h:QI nx s q i B):∀n y,Wk nx s n y->(n<=B\/i=q.length)->∃e∈q,e.1=y/\e.2.1<=n:=by
 intro n y w;induction w with
 | zero=>intro _;exact⟨_,h.s0,rfl,Gn _⟩
 | @succ n x y k w f g=>
  intro a;obtain⟨e,m,o,hd⟩:=g (a.imp (λh=>by lia) id);obtain⟨j,b⟩:=GR m;have c:j<i:=by
   rcases a with a|a
   .rcases GQ j i with l|l
    .exact l
    .have:=h.lo j e b l;lia
   .rw[a];exact(F9.mp b).1
  obtain⟨e',d,p,r⟩:=h.cl j e c b k y (by rw[o];exact f);exact⟨e',d,p,by lia⟩
def DC{q:List Ent}(c:(q.map (·.1)).Nodup)(h:e∈q)(h':e'∈q)(d:e.1=e'.1):e=e':=by
 induction q with
 | nil=>cases h
 | cons a q f=>
  rw[Hr,Hs]at c;rcases Gh.mp h with r|r<;>rcases Gh.mp h' with b|b
  .rw[r,b]
  .subst r;exact absurd (G6.mpr ⟨e',b,d.symm⟩) c.1
  .subst b;exact absurd (G6.mpr ⟨e,r,d⟩) c.1
  .exact f c.2 r b
theorem QI.dist(h:QI nx s q i B)(a:e∈q):cF nx s e.2.1 e.1:=by refine⟨h.wk _ e a rfl,λm d w=>?_⟩;have:=h.le e a;obtain⟨e',b,c,hd⟩:=h.all m e.1 w (.inl (by lia));have:=DC h.nd b a c;subst this;lia
def QI.done(h:QI nx s q q.length B)(a:y∉q.map (·.1))(n):¬cF nx s n y:=λd=>by obtain⟨e,b,c,_⟩:=h.all n y d.1 (.inr rfl);exact a (G6.mpr ⟨e,b,c⟩)
theorem qH{q:List Ent}(hs:q.Pairwise λa b=>a.2.1<=b.2.1){i j:Nat}{a b:Ent}(ha:q[i]?=Vn a)(hb:q[j]?=Vn b)(c:i<=j):a.2.1<=b.2.1:=by
 rcases GQ i j with l|l
 .obtain⟨h1,d⟩:=F9.mp ha;obtain⟨h2,e⟩:=F9.mp hb;have:=Iw.mp hs i j h1 h2 l;rw[d,e]at this;exact this
 .have:i=j:=by lia
  subst this;rw[ha]at hb;cases hb;exact Gn _
theorem QI.deepAt(h:QI nx s q i B):∀j (e:Ent),q[j]?=Vn e->e.2.1<=j:=by
 intro j;induction j using IS with
 | _ j f=>
  intro e c;rcases h.par e (Ga c)with⟨_,_,m⟩|⟨p,k,d,o,_,_,hd,g⟩
  .omega
  .obtain⟨b,a⟩:=GR g;have hlt:b<j:=by
    rcases GQ b j with l|l
    .exact l
    .have:=qH h.srt c a l;dsimp only at this;lia
   have:=f b hlt _ a;dsimp only at this;lia
theorem QI.deep(h:QI nx s q i B)(b:e∈q):e.2.1<=q.length:=by obtain⟨j,a⟩:=GR b;have h1:=h.deepAt j e a;have h2:=(F9.mp a).1;lia
structure QF(q:List Ent)(i:Nat)(h:Ent)(ks:List Nat)(m:Nat):Prop where
 at_:q[i]?=Vn h
 nd:(q.map (·.1)).Nodup
 par:∀e∈q,(e.2.2=Vo/\e.1=s/\e.2.1=0)\/∃p k d o,e.2.2=Vn (p,k)/\nx p k=Vn e.1/\e.2.1=d+1/\(p,d,o)∈q
 le:∀e∈q,e.2.1<=h.2.1+1
 srt:q.Pairwise λa b=>a.2.1<=b.2.1
 cl:∀j e,j<i->q[j]?=Vn e->∀k y,nx e.1 k=Vn y->∃e'∈q,e'.1=y/\e'.2.1<=e.2.1+1
 ch:∀k∈ks.take m,∀y,nx h.1 k=Vn y->∃e'∈q,e'.1=y/\e'.2.1<=h.2.1+1
 s0:(s,0,Vo)∈q
theorem QI.look{h:Ent}(H:QI nx s q i B)(ha:q[i]?=Vn h)(ks):QF (nx:=nx) (s:=s) q i h ks 0:=by refine⟨ha,H.nd,H.par,λe a=>?_,H.srt,H.cl,λk b=>by simp at b,H.s0⟩;have:=H.le e a;have:=H.lo i h ha (Gn _);lia
theorem QF.next{h:Ent}(H:QF (nx:=nx) (s:=s) q i h ks ks.length)(d:∀k y,nx h.1 k=Vn y->k∈ks):QI nx s q (i+1) h.2.1:=by
 refine⟨H.nd,H.par,H.le,λj e b f=>qH H.srt H.at_ b (by lia),H.srt,λj e b c k y a=>?_,H.s0⟩;rcases GQ j i with l|l
 .exact H.cl j e l c k y a
 .have:j=i:=by lia
  subst this;have e':=H.at_;rw[c]at e';cases e';exact H.ch k (by rw[Gx];exact d k y a) y a
def QF.skip{h:Ent}(H:QF (nx:=nx) (s:=s) q i h ks m)(f:ks[m]?=Vn k)(g:∀y,nx h.1 k=Vn y->y∈q.map (·.1)):QF (nx:=nx) (s:=s) q i h ks (m+1):=by
 refine⟨H.at_,H.nd,H.par,H.le,H.srt,H.cl,λc a y b=>?_,H.s0⟩;rw[Kr,f]at a;rcases Gr.mp a with z|z
 .exact H.ch c z y b
 .have:c=k:=by simpa using z
  subst this;obtain⟨e,d,j⟩:=G6.mp (g y b);exact⟨e,d,j,H.le e d⟩
theorem QF.add{h:Ent}(H:QF (nx:=nx) (s:=s) q i h ks m)(v:ks[m]?=Vn k)(u:nx h.1 k=Vn y)(w:y∉q.map (·.1)):
  QF (nx:=nx) (s:=s) (q++[(y,h.2.1+1,Vn (h.1,k))]) i h ks (m+1):=by
 have n:=(F9.mp H.at_).1;have hmem:h∈q:=Ga H.at_;refine⟨by rw[Gu n];exact H.at_,?_,?_,?_,?_,?_,?_,GN _ H.s0⟩
 .rw[Gj,HP];refine⟨H.nd,by simp,λa ha b hb e=>?_⟩;have:b=y:=by simpa using hb
  subst this;subst e;exact w ha
 .intro e f;rcases Gr.mp f with z|z
  .rcases H.par e z with p|⟨p,g,d,o,h1,h2,x,A⟩
   .exact .inl p
   .exact .inr ⟨p,g,d,o,h1,h2,x,GN _ A⟩
  .have:e=(y,h.2.1+1,Vn (h.1,k)):=by simpa using z
   subst this;exact .inr ⟨h.1,k,h.2.1,h.2.2,rfl,u,rfl,GN _ hmem⟩
 .intro e f;rcases Gr.mp f with z|z
  .exact H.le e z
  .have:e=(y,h.2.1+1,Vn (h.1,k)):=by simpa using z
   subst this;exact Gn _
 .rw[List.pairwise_append];refine⟨H.srt,by simp,λa ha b hb=>?_⟩;have:b=(y,h.2.1+1,Vn (h.1,k)):=by simpa using hb
  subst this;exact H.le a ha
 .intro j e B f g r c;rw[Gu (by lia)]at f;obtain⟨e',h1,h2⟩:=H.cl j e B f g r c;exact⟨e',GN _ h1,h2⟩
 .intro g l r c;rw[Kr,v]at l;rcases Gr.mp l with z|z
  .obtain⟨e',h1,h2⟩:=H.ch g z r c;exact⟨e',GN _ h1,h2⟩
  .have:g=k:=by simpa using z
   subst this;rw[u]at c;cases c;exact⟨_,GL _ F7,rfl,Gn _⟩
def gone:Pl->List Nat->Option Pl
 | x,[]=>Vn x
 | x,k::r=>(nx x k).bind λy=>gone y r
theorem lr{y z:Pl}{k:Nat}:∀{r:List Nat} {x:Pl},gone (nx:=nx) x r=Vn y->nx y k=Vn z->gone (nx:=nx) x (r++[k])=Vn z
 | [],x,h,b=>by cases h;show(nx y k).bind _=_;rw[b];rfl
 | a::r,x,h,b=>by
  show(nx x a).bind _=_;have h':(nx x a).bind (λy=>gone (nx:=nx) y r)=Vn y:=h;cases e:nx x a with
  | none=>rw[e]at h';cases h'
  | some u=>
   rw[e]at h';exact lr h' b
end
end Bfs
namespace Bfs
inductive Rw(S:Pl->Pl->Prop):Nat->Pl->Pl->Prop
 | nil {x:Pl}:Rw S 0 x x
 | snoc {n:Nat} {x y z:Pl}:Rw S n x y->S y z->Rw S (n+1) x z
def Rw.trans(h:Rw S n x y)(g:Rw S k y z):Rw S (n+k) x z:=by
 induction g with
 | nil=>exact h
 | snoc _ hs a=>exact .snoc (a h) hs
def Rw.imp(d:∀a c,S a c->b a c)(h:Rw S n x y):Rw b n x y:=by
 induction h with
 | nil=>exact .nil
 | snoc _ hs e=>exact .snoc e (d _ _ hs)
theorem Rw.cons{S}{n}{x y z}(h:S x y)(g:Rw S n y z):Rw S (n+1) x z:=by
 have:=Rw.trans (.snoc .nil h) g
 rwa [show 0+1+n=n+1 by lia]at this
theorem Rw.fn(h:Rw S n x y):∃w:Nat->Pl,w 0=x/\w n=y/\∀i,i<n->S (w i) (w (i+1)):=by
 induction h with
 | @nil x=>exact⟨λ_=>x,rfl,rfl,λi hi=>absurd hi (Ha _)⟩
 | @snoc n x y z _ hs a=>
  obtain⟨w,b,c,d⟩:=a;refine⟨λi=>if i<=n then w i else z,by simp[b],(by show(if n+1<=n then w (n+1)else z)=z;rw[G0 (by lia)]),λi hi=>?_⟩
  try dsimp only
  rcases GQ i n with l|l
  .rw[G5 (by lia),G5 (by lia)];exact d i l
  .have:i=n:=by lia
   subst this;rw[G5 (Gn _),G0 (by lia),c];exact hs
theorem w5{S:Pl->Pl->Prop}{w:Nat->Pl}{i:Nat}:∀(k:Nat),(∀j,i<=j->j<i+k->S (w j) (w (j+1)))->Rw S k (w i) (w (i+k))
 | 0,_=>.nil
 | k+1,h=>.snoc (w5 k λj h1 h2=>h j h1 (by lia)) (h (i+k) (by lia) (by lia))
theorem kr{w:Nat->Pl}(a:i<=j)(h:∀k,i<=k->k<j->S (w k) (w (k+1))):Rw S (j-i) (w i) (w j):=by
 have:=w5 (S:=S) (w:=w) (i:=i) (j-i) (λk h1 h2=>h k h1 (by lia))
 rwa [show i+(j-i)=j by lia]at this
theorem kQ{h:Nat->Int}{l:Int}:∀(P:Nat),(∀i,i<P->h (i+1)<=h i+1)->h 0<=l->l<=h P->∃u,u<=P/\h u=l/\∀i,u<i->i<=P->l<h i
 | 0,_,a,b=>⟨0,Gn _,by lia,λi h1 h2=>by lia⟩
 | P+1,hs,a,b=>by
  by_cases e:h (P+1)=l
  .exact⟨P+1,Gn _,e,λi h1 h2=>by lia⟩
  .have:=hs P (by lia);obtain⟨u,d,c,hi⟩:=kQ P (λi hi=>hs i (by lia)) a (by lia);refine⟨u,by lia,c,λi h1 h2=>?_⟩;rcases GQ P i with g|g
   .have:i=P+1:=by lia
    subst this;lia
   .exact hi i h1 g
theorem tp{h:Nat->Int}{l:Int}{P:Nat}(f:P<=n)(hs:∀i,P<=i->i<n->h i<=h (i+1)+1)(c:h n<=l)(e:l<=h P):∃d,P<=d/\d<=n/\h d=l/\∀i,P<=i->i<d->l<h i:=by
 obtain⟨u,g,a,b⟩:=kQ (n-P) (λi hi=>by
  have:=hs (n-(i+1)) (by lia) (by lia)
  rwa [show n-(i+1)+1=n-i by lia]at this) (by simpa using c) (by
  rw[show n-(n-P)=P by lia];exact e)
 refine⟨n-u,by lia,by lia,a,λi h1 h2=>?_⟩;have:=b (n-i) (by lia) (by lia)
 (try dsimp only at this)
 rwa [show n-(n-i)=i by lia]at this
theorem code_inj{m r s b s':Int}(hs:0<=s)(c:s<m)(d:0<=s')(a:s'<m)(e:r*m+s=b*m+s'):r=b/\s=s':=by
 have h1:s=s':=by
  have:=congrArg (· % m) e
  (try dsimp only at this)
  rw[Int.add_comm,Ki,Int.add_comm (b*m),Ki,K0 hs c,K0 d a]at this;exact this
 refine⟨?_,h1⟩;have h2:r*m=b*m:=by omega
 exact Int.eq_of_mul_eq_mul_right (by lia) h2
theorem mW{m r s:Int}(a:0<=r)(b:r<m)(hs:0<=s)(c:s<m):0<=r*m+s/\r*m+s<m*m:=by have h1:0<=r*m:=Gy a (by lia);have h2:(r+1)*m<=m*m:=JJ (by lia) (by lia);rw[Mi,Int.one_mul]at h2;lia
theorem twice(code:Nat->Nat)(h:∀j,j<=K->code j<K):∃i j,i<j/\j<=K/\code i=code j:=by
 refine HL λno=>?_;have c:((GX (K+1)).map code).Nodup:=by unfold LQ;rw[Ii];refine JE ?_ (JN);intro a b ha hb hab e;exact no ⟨a,b,hab,by have:=HK.mp hb;lia,e⟩
 have:=iV K _ c (λx d=>by obtain⟨j,f,rfl⟩:=G6.mp d;exact h j (by have:=HK.mp f;lia))
 rw[F1,ID]at this;lia
def cut{m:Int}(hm:0<m)(h1:∀x y,S x y->y.2<=x.2+1/\x.2<=y.2+1)(h2:∀x y c,S x y->0<=c->1<=x.2-c->1<=y.2-c->S (x.1,x.2-c) (y.1,y.2-c))
  (Z:∀x y,S x y->0<=y.1/\y.1<m)  (hb:0<=b):∀n x g,Rw S n x g->0<=x.1->x.1<m->x.2<=b->g.2<=b->∃C,C<=n/\Rw (λa c=>S a c/\c.2<=b+m*m) C x g:=by
 intro n;induction n using IS with
 | _ n ih=>
  intro x g hw T U xb gb;obtain⟨w,e,f,hws⟩:=hw.fn;by_cases hall:∀i,i<=n->(w i).2<=b+m*m
  .refine⟨n,Gn _,?_⟩;have:=kr (S:=λa c=>S a c/\c.2<=b+m*m) (w:=w) (HM n) (λk _ E=>⟨hws k E,hall (k+1) (by omega)⟩);rw[e,f]at this;exact this
  .obtain⟨P,W⟩:=Classical.not_forall.mp hall;obtain⟨I,a0⟩:P<=n/\b+m*m<(w P).2:=by
    by_cases c:P<=n
    .exact⟨c,by
      by_cases d:(w P).2<=b+m*m
      .exact absurd (λ_=>d) W
      .omega⟩
    .exact absurd (λz=>absurd z c) W
   have a5:0<=m*m:=Gy (by omega) (by omega);have room:∀i,i<=n->0<=(w i).1/\(w i).1<m:=by
    intro i hi;cases i with
    | zero=>rw[e];exact⟨T,U⟩
    | succ i=>exact Z _ _ (hws i (by omega))
   have r:∀j:Nat,∃u,(j<=(m*m).toNat->u<=P/\(w u).2=b+1+j/\∀i,u<i->i<=P->b+1+j<(w i).2):=by
    intro j;by_cases q:j<=(m*m).toNat
    .obtain⟨u,F,G,J⟩:=kQ (h:=λi=>(w i).2) (l:=b+1+j) P (λi hi=>(h1 _ _ (hws i (by omega))).1) (by(try dsimp only);rw[e];omega) (by(try dsimp only);omega);exact⟨u,λ_=>⟨F,G,J⟩⟩
    .exact⟨0,λz=>absurd z q⟩
   have hd:∀j:Nat,∃d,(j<=(m*m).toNat->P<=d/\d<=n/\(w d).2=b+1+j/\∀i,P<=i->i<d->b+1+j<(w i).2):=by
    intro j;by_cases q:j<=(m*m).toNat
    .obtain⟨d,F,G,J,a4⟩:=tp (h:=λi=>(w i).2) (l:=b+1+j) I (λi _ hi=>(h1 _ _ (hws i hi)).2) (by(try dsimp only);rw[f];omega) (by(try dsimp only);omega);exact⟨d,λ_=>⟨F,G,J,a4⟩⟩
    .exact⟨0,λz=>absurd z q⟩
   obtain⟨u,r⟩:=JK r;obtain⟨d,hd⟩:=JK hd;obtain⟨i,j,a6,v,o⟩:=twice (K:=(m*m).toNat) (λj=>((w (u j)).1*m+(w (d j)).1).toNat) (λj q=>by
    have F:=r j q;have G:=hd j q;have r1:=room (u j) (by omega);have p:=room (d j) (by omega);have:=mW r1.1 r1.2 p.1 p.2
    try dsimp only
    omega)
   obtain⟨L,M,a9⟩:=r i (by omega);obtain⟨ab,ac,A⟩:=r j v;obtain⟨N,O,ad,ah⟩:=hd i (by omega);obtain⟨ai,aj,Q,B⟩:=hd j v;have X:(w (u i)).1=(w (u j)).1/\(w (d i)).1=(w (d j)).1:=by
    have r1:=room (u i) (by omega);have p:=room (d i) (by omega);have Y:=room (u j) (by omega);have H:=room (d j) (by omega);have c1:=mW r1.1 r1.2 p.1 p.2;have c2:=mW Y.1 Y.2 H.1 H.2
    (try dsimp only at o)
    exact code_inj p.1 p.2 H.1 H.2 (by omega)
   have ak:u i<u j:=by
    rcases JZ (u i) (u j)with z|z|z
    .exact z
    .rw[z]at M;omega
    .have:=A (u i) z L;omega
   have am:d j<d i:=by
    rcases JZ (d j) (d i)with z|z|z
    .exact z
    .rw[z]at Q;omega
    .have:=B (d i) N z;omega
   have s1:Rw S (u i-0) (w 0) (w (u i)):=kr (HM _) (λk _ E=>hws k (by omega));have s3:Rw S (n-d i) (w (d i)) (w n):=kr O (λk _ E=>hws k E);have hi:∀k,u j<=k->k<=d j->b+1+j<=(w k).2:=by
    intro k k1 k2;rcases GQ k P with z|z
    .rcases GQ (u j) k with y|y
     .have:=A k y (by omega);omega
     .have:k=u j:=by omega
      subst this;omega
    .rcases GQ k (d j)with y|y
     .have:=B k z y;omega
     .have:k=d j:=by omega
      subst this;omega
   have s2:Rw S (d j-u j) ((w (u j)).1,(w (u j)).2-(j-i:Nat)) ((w (d j)).1,(w (d j)).2-(j-i:Nat)):=
    kr (S:=S) (w:=λk=>((w k).1,(w k).2-(j-i:Nat))) (show u j<=d j by omega) (λk k1 k2=>h2 _ _ _ (hws k (by omega)) (by omega) (by have:=hi k k1 (by omega);omega) (by have:=hi (k+1) (by omega) (by omega);omega))
   have e1:((w (u j)).1,(w (u j)).2-((j-i:Nat):Int))=w (u i):=IG X.1.symm (by(try dsimp only);omega);have e2:((w (d j)).1,(w (d j)).2-((j-i:Nat):Int))=w (d i):=IG X.2.symm (by(try dsimp only);omega);rw[e1,e2]at s2;have s:=(s1.trans s2).trans s3;rw[e,f]at s;obtain⟨C,an,R⟩:=ih _ (by omega) x g s T U xb gb;exact⟨C,by omega,R⟩
def Wk.rw{s y:Pl}(h:Wk nx s n y):Rw (λa c=>∃k,nx a k=Vn c) n s y:=by
 induction h with
 | zero=>exact .nil
 | succ _ b d=>exact .snoc d ⟨_,b⟩
def Rw.wk{s y:Pl}(d:∀a c,S a c->∃k,nx a k=Vn c)(h:Rw S n s y):Wk nx s n y:=by
 induction h with
 | nil=>exact .zero
 | snoc _ b e=>
  obtain⟨k,b⟩:=d _ _ b;exact .succ e b
theorem cF.each{s y:Pl}(d:cF nx s n y):∀j,j<=n->∃x,cF nx s (n-j) x:=by
 intro j;induction j with
 | zero=>intro _;exact⟨y,d⟩
 | succ j b=>
  intro g;obtain⟨x,w,a⟩:=b (by lia);rw[show n-j=(n-(j+1))+1 by lia]at w a;cases w with
  | @succ h c i k w e=>exact⟨c,w,λm l f=>a (m+1) (by lia) (.succ f e)⟩
theorem EJ{a b m T:Int}(e:0<=T)(c:0<=a)(f:a<m)(g:0<=b)(h:b<=T):0<=a*(T+1)+b/\a*(T+1)+b<m*(T+1):=by have i:0<=a*(T+1):=Gy c (by lia);have d:(a+1)*(T+1)<=m*(T+1):=JJ (by lia) (by lia);rw[Mi,Int.one_mul]at d;lia
theorem Cy{a b:Int}(h:0<=a/\a<b):a.toNat<b.toNat:=by lia
theorem CS{a b:Int}(h:0<=a)(g:0<=b)(e:a.toNat=b.toNat):a=b:=by lia
theorem C3{c:Int}(no:¬(n:Int)<=c-1):c.toNat<=n:=by lia
def cF.few{s y:Pl}{m T:Int}(A:0<m)(q:0<=T)(d:cF nx s n y)(hin:∀k z,Wk nx s k z->0<=z.1/\z.1<m/\0<=z.2/\z.2<=T):(n:Int)<=m*(T+1)-1:=by
 have r:∀j,∃x,(j<=n->cF nx s j x):=by
  intro j;by_cases b:j<=n
  .obtain⟨x,h⟩:=d.each (n-j) (by omega);rw[show n-(n-j)=j by omega]at h;exact⟨x,λ_=>h⟩
  .exact⟨s,λz=>absurd z b⟩
 obtain⟨f,g⟩:=JK r;refine HL λno=>?_;have p:=C3 no;have cl:∀z:Pl,0<=z.1/\z.1<m/\0<=z.2/\z.2<=T->0<=z.1*(T+1)+z.2/\z.1*(T+1)+z.2<m*(T+1):=λz h=>EJ q h.1 h.2.1 h.2.2.1 h.2.2.2;obtain⟨i,j,c,b,u⟩:=twice (K:=(m*(T+1)).toNat) (λj=>((f j).1*(T+1)+(f j).2).toNat) (λj b=>Cy (cl (f j) (hin j (f j) (g j (GC b p)).1)));have a:=GC b p;have hi:=g i (GC (Io c) a);have l:=hin i (f i) hi.1;have o:=hin j (f j) (g j a).1;obtain⟨v,w⟩:=code_inj (m:=T+1) l.2.2.1 (L4 l.2.2.2) o.2.2.1 (L4 o.2.2.2) (CS (cl _ l).1 (cl _ o).1 u);have e:=cF.uniq (nx:=nx) (s:=s) hi (by rw[show f i=f j from IG v w];exact g j a);exact Gm c e
theorem BX{s y:Pl}:∀n,Wk nx s n y->∃k,k<=n/\cF nx s k y:=by
 intro n;induction n using IS with
 | _ n c=>
  intro w;by_cases h:∃k,k<n/\Wk nx s k y
  .obtain⟨k,a,b⟩:=h;obtain⟨d,h1,h2⟩:=c k a b;exact⟨d,by lia,h2⟩
  .exact⟨n,Gn _,w,λk a b=>h ⟨k,a,b⟩⟩
end Bfs
namespace Bfs
end Bfs
namespace Rnd
inductive Wg{α:Type}(S:α->α->Prop):Nat->α->α->Prop
 | nil {x:α}:Wg S 0 x x
 | snoc {n:Nat} {x y z:α}:Wg S n x y->S y z->Wg S (n+1) x z
def Wg.trans{S:α->α->Prop}{x y z:α}(h:Wg S n x y)(g:Wg S k y z):Wg S (n+k) x z:=by
 induction g with
 | nil=>exact h
 | snoc _ hs a=>exact .snoc (a h) hs
theorem Wg.fn{S:α->α->Prop}{x y:α}(h:Wg S n x y):∃w:Nat->α,w 0=x/\w n=y/\∀i,i<n->S (w i) (w (i+1)):=by
 induction h with
 | @nil x=>exact⟨λ_=>x,rfl,rfl,λi hi=>absurd hi (Ha _)⟩
 | @snoc n x y z _ hs a=>
  obtain⟨w,b,c,d⟩:=a;refine⟨λi=>if i<=n then w i else z,by simp[b],(by show(if n+1<=n then w (n+1)else z)=z;rw[G0 (by lia)]),λi hi=>?_⟩
  try dsimp only
  rcases GQ i n with l|l
  .rw[G5 (by lia),G5 (by lia)];exact d i l
  .have:i=n:=by lia
   subst this;rw[G5 (Gn _),G0 (by lia),c];exact hs
theorem tN{α:Type}{S:α->α->Prop}{w:Nat->α}{i:Nat}:∀(k:Nat),(∀j,i<=j->j<i+k->S (w j) (w (j+1)))->Wg S k (w i) (w (i+k))
 | 0,_=>.nil
 | k+1,h=>.snoc (tN k λj h1 h2=>h j h1 (by lia)) (h (i+k) (by lia) (by lia))
theorem seg{S:α->α->Prop}{w:Nat->α}(a:∀k,k<n->S (w k) (w (k+1)))(b:i<=j)(c:j<=n):Wg S (j-i) (w i) (w j):=by
 have:=tN (S:=S) (w:=w) (i:=i) (j-i) (λk h1 h2=>a k (by lia))
 rwa [show i+(j-i)=j by lia]at this
theorem Bn{S:α->α->Prop}{I:α->Prop}{N:Nat}(code:α->Nat)(n:∀a,I a->code a<N)(inj:∀a b,I a->I b->code a=code b->a=b)(o:∀a b,S a b->I b):∀k x y,I x->Wg S k x y->∃d,d<N/\Wg S d x y:=by
 intro k;induction k using IS with
 | _ k p=>
  intro x y f h;by_cases q:k<N
  .exact⟨k,q,h⟩
  .obtain⟨w,g,r,c⟩:=h.fn;have hIn:∀i,i<=k->I (w i):=λi hi=>by
    cases i with
    | zero=>rw[g];exact f
    | succ i=>exact o _ _ (c i (by lia))
   obtain⟨i,j,s,u,e⟩:=Bfs.twice (K:=N) (λj=>code (w j)) (λj u=>n _ (hIn j (by lia)));have e':=inj _ _ (hIn i (by lia)) (hIn j (by lia)) e;have v:=seg c (HM i) (by lia);have l:=seg c (show j<=k by lia) (Gn k);rw[<-e']at l;have m:=v.trans l;rw[g,r]at m;exact p _ (by lia) x y f m
section
variable {n:Nat} {A:Nat->Nat->Prop} (hA:∀i j,A i j->i<n/\j<n)
def Pr(A:Nat->Nat->Prop)(c:Nat)(a b:Nat×Nat):Prop:=A a.1 b.1/\b.2=(a.2+1) % c
def lift{c k:Nat}(h:Wg A k i j):Wg (Pr A c) k (i,0 % c) (j,k % c):=by
 induction h with
 | nil=>exact .nil
 | @snoc k x y z _ hs a=>exact .snoc a ⟨hs,by show(k+1) % c=(k % c+1) % c;rw[Nat.mod_add_mod]⟩
def drop{c k:Nat}{a b:Nat×Nat}(h:Wg (Pr A c) k a b):a.2 % c=a.2->Wg A k a.1 b.1/\b.2=(a.2+k) % c:=by
 induction h with
 | nil=>exact λe=>⟨.nil,e.symm⟩
 | @snoc k x y z _ hs d=>
  intro e;obtain⟨h1,h2⟩:=d e;refine⟨.snoc h1 hs.1,?_⟩;rw[hs.2,h2,Nat.mod_add_mod,JD]
include hA
theorem vf{c k i j:Nat}(o:1<=c)(hi:i<n)(h:Wg A k i j):∃d,d<n*c/\d % c=k % c/\Wg A d i j:=by
 obtain⟨d,f,g⟩:=Bn (I:=λa=>a.1<n/\a.2<c) (λa=>a.1*c+a.2) (λa ha=>by
   have:(a.1+1)*c<=n*c:=L0 _ ha.1;rw[JB]at this;show a.1*c+a.2<n*c;lia) (λa b ha hb e=>by
   have e':a.1*c+a.2=b.1*c+b.2:=e;have l:a.2=b.2:=by
    have:=congrArg (· % c) e'
    rwa [Ks,Ks,Nat.mod_eq_of_lt ha.2,Nat.mod_eq_of_lt hb.2]at this
   have m:a.1=b.1:=Nat.eq_of_mul_eq_mul_right (show 0<c by lia) (by lia);exact IG m l) (λa b h=>⟨(hA _ _ h.1).2,by rw[h.2];exact JC _ (by lia)⟩) k _ _ ⟨hi,JC _ (by lia)⟩ (lift h)
 obtain⟨h1,h2⟩:=drop g (Nat.mod_mod _ _);refine⟨d,f,?_,h1⟩;rw[Nat.zero_mod,IQ]at h2;exact h2.symm
def tX(hi:i<n)(h:Wg A k i j):j<n:=by
 cases h with
 | nil=>exact hi
 | snoc _ hs=>exact(hA _ _ hs).2
def Sm(A:Nat->Nat->Prop)(u v:Nat):Prop:=(∃k,Wg A k u v)/\∃k,Wg A k v u
omit hA in
def Sm.symm{u v:Nat}(h:Sm A u v):Sm A v u:=⟨h.2,h.1⟩
omit hA in
theorem Sm.trans{u v z:Nat}(h:Sm A u v)(g:Sm A v z):Sm A u z:=by obtain⟨⟨a,ha⟩,b,hb⟩:=h;obtain⟨⟨c,e⟩,d,hd⟩:=g;exact⟨⟨_,ha.trans e⟩,_,hd.trans hb⟩
omit hA in
def Sm.refl{u:Nat}:Sm A u u:=⟨⟨0,.nil⟩,0,.nil⟩
omit hA in
def tP{P:Nat->Prop}:∀k,P k->∃q,P q/\∀u,P u->q<=u:=by
 intro k;induction k using IS with
 | _ k b=>
  intro c;by_cases h:∃u,u<k/\P u
  .obtain⟨u,a,pu⟩:=h;exact b u a pu
  .exact⟨k,c,λu a=>HL λz=>h ⟨u,by omega,a⟩⟩
def Rp(A:Nat->Nat->Prop)(q:Nat):Prop:=(∃k,1<=k/\Wg A k q q)/\∀u,Sm A q u->q<=u
omit hA in
def A4{u k:Nat}(f:1<=k)(h:Wg A k u u):∃q,Rp A q/\Sm A u q:=by obtain⟨q,c,d⟩:=tP (P:=λq=>Sm A u q) u Sm.refl;obtain⟨⟨a,ha⟩,b,hb⟩:=id c;exact⟨q,⟨⟨b+k+a,by omega,(hb.trans h).trans ha⟩,λv e=>d v (c.trans e)⟩,c⟩
theorem ring(o:q<n)(h:Rp A q):∃(c:Nat) (L:List Nat),1<=c/\Wg A c q q/\L.length=c/\L.Nodup/\∀v∈L,v<n/\Sm A q v:=by
 obtain⟨⟨k,p,r⟩,_⟩:=h;obtain⟨c,⟨s,a⟩,u⟩:=tP (P:=λk=>1<=k/\Wg A k q q) k ⟨p,r⟩;obtain⟨w,g,l,f⟩:=a.fn;refine⟨c,(GX c).map w,s,a,by simp,?_,?_⟩
 .unfold LQ;rw[Ii];refine JE ?_ (JN);intro i j hi x y e;have z:=HK.mp x;have b:=seg f (HM i) (by lia);have d:=seg f (show j<=c by lia) (Gn c);rw[<-e]at d;have m:=b.trans d;rw[g,l]at m;have:=u _ ⟨by lia,m⟩;lia
 .intro v B;obtain⟨i,hi,rfl⟩:=G6.mp B;have C:=HK.mp hi;have b:=seg f (HM i) (by lia);have d:=seg f (show i<=c by lia) (Gn c);rw[g]at b;rw[l]at d;exact⟨tX hA o b,⟨_,b⟩,_,d⟩
theorem rings(F:n<=12):∀k,k<=n->∃(L:List Nat) (P:Nat),L.Nodup/\(∀v∈L,v<n/\∃q,q<k/\Rp A q/\Sm A q v)/\1<=P/\P ^ 3<=3 ^ L.length/\∀q,q<k->Rp A q->∃c,1<=c/\c<=n/\c ∣ P/\Wg A c q q:=by
 intro k;induction k with
 | zero=>exact λ_=>⟨[],1,IF,λv h=>(nomatch h),Gn _,by decide,λq h=>absurd h (Ha _)⟩
 | succ k y=>
  intro G;obtain⟨L,P,nd,m,s,f,u⟩:=y (by lia);by_cases l:Rp A k
  .obtain⟨c,M,w,B,x,g,hMs⟩:=ring hA (show k<n by lia) l;have o:c<=n:=by rw[<-x];exact Bfs.iV n M g λv i=>(hMs v i).1
   refine⟨L++M,P*c,?_,?_,Nat.mul_pos s w,?_,?_⟩
   .rw[HP];refine⟨nd,g,λa ha b hb e=>?_⟩;subst e;obtain⟨_,q,j,hqr,p⟩:=m a ha;have hs:Sm A k q:=(hMs a hb).2.trans p.symm;have:=l.2 q hs;lia
   .intro v i;rcases Gr.mp i with z|z
    .obtain⟨h1,q,h2,f⟩:=m v z;exact⟨h1,q,by lia,f⟩
    .exact⟨(hMs v z).1,k,by lia,l,(hMs v z).2⟩
   .rw[Nat.mul_pow,Gk,x,Nat.pow_add];have r:∀c,c<13->c ^ 3<=3 ^ c:=by decide
    exact Jx f (r c (by lia))
   .intro q j hqr;by_cases e:q=k
    .subst e;exact⟨c,w,o,⟨P,Hx _ _⟩,B⟩
    .obtain⟨d,h1,h2,C,E⟩:=u q (by lia) hqr;exact⟨d,h1,h2,Nat.dvd_trans C ⟨c,rfl⟩,E⟩
  .refine⟨L,P,nd,λv i=>?_,s,f,λq j hqr=>?_⟩
   .obtain⟨h1,q,h2,f⟩:=m v i;exact⟨h1,q,by lia,f⟩
   .by_cases e:q=k
    .subst e;exact absurd hqr l
    .exact u q (by lia) hqr
omit hA in
theorem times{c q:Nat}(h:Wg A c q q):∀t,Wg A (t*c) q q
 | 0=>by rw[Nat.zero_mul];exact .nil
 | t+1=>by rw[JB];exact(times h t).trans h
theorem round(G:n<=12):∃P,1<=P/\P<=81/\∀s r k f,s<n->n<=k->2*(n*n)<=f->k % P=f % P->Wg A k s r->Wg A f s r:=by
 obtain⟨L,P,nd,H,I,J,M⟩:=rings hA G n (Gn _);have hl:L.length<=n:=Bfs.iV n L nd λv N=>(H v N).1;refine⟨P,I,?_,?_⟩
 .refine HL λz=>?_;have h1:82 ^ 3<=P ^ 3:=Nat.pow_le_pow_left (by lia) 3;have h2:3 ^ L.length<=3 ^ 12:=L5 (by decide) (by lia);have:82 ^ 3<=3 ^ 12:=GC h1 (GC J h2);exact absurd this (by decide)
 .intro s r k f hs hk O g h;obtain⟨w,B,o,m⟩:=h.fn;have hIn:∀i,i<=k->w i<n:=λi hi=>by
   cases i with
   | zero=>rw[B];exact hs
   | succ i=>exact(hA _ _ (m i (by lia))).2
  obtain⟨i,j,p,Q,e⟩:=Bfs.twice (K:=n) w (λj Q=>hIn j (by lia));have loop:=seg m (Io p) (show j<=k by lia);rw[<-e]at loop;obtain⟨q,R,⟨⟨a,ha⟩,b,hb⟩⟩:=A4 (by lia) loop;have l:q<n:=tX hA (hIn i (by lia)) ha;obtain⟨c,C,u,x,y⟩:=M q l R;have E:=seg m (HM i) (show i<=k by lia);have F:=seg m (show i<=k by lia) (Gn k);rw[B]at E;rw[o]at F;have S:=E.trans ha;have T:=(hb.trans (times (ha.trans hb) (c-1))).trans F;obtain⟨p1,l1,m1,U⟩:=vf hA C hs S;obtain⟨p2,l2,W,X⟩:=vf hA C l T;have Y:n*c<=n*n:=MC _ u;have hle:p1+p2<=f:=by lia
  have Z:(p1+p2) % c=f % c:=by
   have e1:(p1+p2) % c=((i-0+a)+(b+(c-1)*(a+b)+(k-i))) % c:=by rw[Nat.add_mod,m1,W,<-Nat.add_mod]
   have e2:(i-0+a)+(b+(c-1)*(a+b)+(k-i))=k+c*(a+b):=by obtain⟨d,rfl⟩:∃d,c=d+1:=⟨c-1,by lia⟩;rw[Kt,JB];lia
   rw[e1,e2,Nat.add_mul_mod_self_left];obtain⟨d,rfl⟩:=x;rw[<-J3 k c d,g,J3]
  obtain⟨t,ht⟩:∃t,f=p1+p2+t*c:=by refine⟨(f-(p1+p2)) / c,?_⟩;have hd:(f-(p1+p2)) % c=0:=(Nat.sub_mod_eq_zero_of_mod_eq Z.symm);have:=JQ (f-(p1+p2)) c;rw[hd,Hx]at this;lia
  rw[ht,show p1+p2+t*c=p1+t*c+p2 by lia];exact(U.trans (times y t)).trans X
end
open St in
def rh{st b P:Nat}(h:Least f st low)(d:1<=P)(a:bj f b P):st ∣ P/\low<=b:=by
 have hd:st ∣ P:=by
  have p1:bj f (max b low) P:=λx c=>a x (by omega);have p2:bj f (max b low) st:=λx c=>h.per x (by omega);have p3:=p1.mod p2;have hs:=h.pos;by_cases z:P % st=0
  .exact LP z
  .have:=h.step (P % st) _ (by omega) p3;have:=JC P (show st>0 by omega);omega
 refine⟨hd,h.base b λx c=>?_⟩;have e:=a.times low x c;have g:=a.times low (x+st) (by omega);have hge:low<=low*P:=LI low d;have i:=h.per (x+low*P) (by omega);rw[<-e,<-g,<-i];congr 1;omega
end Rnd
namespace Bfs
def Lw(S:Pl->Pl->Prop)(x:Pl)(n:Nat):Prop:=(∃y,Rw S n x y)/\∀k y,Rw S k x y->k<=n
theorem Rw.head(h:Rw S (n+1) x z):∃y,S x y/\Rw S n y z:=by
 generalize a:n+1=k at h;induction h generalizing n with
 | nil=>cases a
 | @snoc k x y z h hs b=>
  have a:n=k:=by lia
  subst a;cases n with
  | zero=>
   cases h;exact⟨z,hs,.nil⟩
  | succ n=>
   obtain⟨u,h1,h2⟩:=b rfl;exact⟨u,h1,.snoc h2 hs⟩
theorem Lw.uniq(h:Lw S x n)(g:Lw S x k):n=k:=by obtain⟨y,a⟩:=h.1;obtain⟨z,b⟩:=g.1;have:=g.2 _ _ a;have:=h.2 _ _ b;lia
theorem vH{S:Pl->Pl->Prop}{x:Pl}:∀(B:Nat),(∀k y,Rw S k x y->k<=B)->∃n,n<=B/\Lw S x n
 | 0,h=>⟨0,Gn _,⟨x,.nil⟩,h⟩
 | B+1,h=>by
  by_cases a:∃y,Rw S (B+1) x y
  .exact⟨B+1,Gn _,a,h⟩
  .obtain⟨n,d,c⟩:=vH B λk y b=>by
    have:=h k y b;by_cases e:k=B+1
    .subst e;exact absurd ⟨y,b⟩ a
    .omega
   exact⟨n,by lia,c⟩
def Lw.next(h:Lw S x n)(hs:S x y):∃k,k<n/\Lw S y k:=by
 have h1:=h.2 1 y (.snoc .nil hs);obtain⟨k,a,b⟩:=vH (S:=S) (x:=y) (n-1) λk z a=>by have:=h.2 (k+1) z (.cons hs a);omega
 exact⟨k,by omega,b⟩
theorem oN{f:Pl->Nat}(c:∀y,S x y->Lw S y (f y))(h1:(∀y,¬S x y)->M=0)(h2:∀y,S x y->f y+1<=M)(d:(∃y,S x y)->∃y,S x y/\M=f y+1):Lw S x M:=by
 constructor
 .by_cases h:∃y,S x y
  .obtain⟨y,a,e⟩:=d h;obtain⟨z,b⟩:=(c y a).1;rw[e];exact⟨z,.cons a b⟩
  .rw[h1 λy a=>h ⟨y,a⟩];exact⟨x,.nil⟩
 .intro k z g;cases k with
  | zero=>lia
  | succ k=>
   obtain⟨y,a,b⟩:=g.head;have:=(c y a).2 _ _ b;have:=h2 y a;lia
def Ct{C:Pl->Prop}{Kn:Pl->Prop}(d:∀x y,C x->S x y->C y)(h:∀x,C x->(∀y,S x y->Kn y)->Kn x):∀n x,C x->Lw S x n->Kn x:=by
 intro n;induction n using IS with
 | _ n e=>
  intro x b f;refine h x b λy c=>?_;obtain⟨k,g,a⟩:=f.next c;exact e k g y (d _ _ b c) a
end Bfs
namespace My
open PySem L2 St
variable {P:Vd} {w:Ve} {mg:Vm->Option Va} {base:Vh}
@[irreducible] noncomputable def K:FX:=L2.uQ _root_.My.top.heap_39 _root_.My.top
def stq (i : Nat) : Stmt := PySem.Challenge.pw_stairrooms_k73_whole_first_step.main.body.getD i (.Pass ⟨0, 0, 0, 0⟩)
local macro_rules|`(tactic| walk_at "cond") => `(tactic| first|decide|omega|(dsimp only; omega)|(unfold kD; omega)|(unfold sZ; exact ⟨by decide, by decide, by decide⟩)|(dsimp only; exact ⟨by omega, by omega⟩)|exact .inr ⟨by decide, by decide⟩|exact .inl ⟨by decide, by decide⟩|(unfold jL; omega))
local macro_rules|`(tactic| walk_at"") => do
 let ts <- ("seq ret retN asg drop ifS next name var c op un CB cons nil ints test B exb not and or andV orV notV ifE yes I0 I U EqI NeI EqB NeB call BM tup lst sl noPart part exi chain comp iL iT i1 i2 i3 for tTru intB max2 min2 sub gcons gnil aug ipI zip rev par par2 lam calV raise fs try bseq bnext bplain bif bcall enum gget gin revL leS disp dget lrev disp1 din dnin dput min3 iS iD bm0 revS iD2 iLT thaw iD3 iDL dgt2 fs3 fs5 iDF maxD".splitOn " ").toArray.mapM λn =>
  let i := Lean.mkIdent (.mkSimple ("rd_" ++ n))
  if n == "var" || n == "aug" then `(tacticSeq| ((with_reducible apply $i); (exact rfl)))
  else if n == "I" then `(tacticSeq| ((with_reducible apply $i); (walk_at "cond")))
  else `(tacticSeq| with_reducible refine $i ?_)
 `(tactic| repeat (first $[| $ts]*|dsimp only))
def cq(H:Hp)(p:Vb)(kk:List (List Key)):Prop:=∃bs:List Vb,H p=Vn (.tup (bs.map V.ref))/\bs.length=kk.length/\∀(j:Nat) (b:Vb) (k:List Key),bs[j]?=Vn b->kk[j]?=Vn k->H b=Vn (.tup (k.map kV))
def cq.ext{kk:List (List Key)}(e:Ext H H')(h:cq H p kk):cq H' p kk:=by obtain⟨bs,h1,h2,a⟩:=h;exact⟨bs,e _ _ h1,h2,λj b k c d=>e _ _ (a j b k c d)⟩
structure Blt(mg:Vm->Option Va):Prop where
 len_:mg "len" = Vo
 isinstance_:mg "isinstance" = Vo
 tuple_:mg "tuple" = Vo
 list_:mg "list" = Vo
 int_:mg "int" = Vo
 bool_:mg "bool" = Vo
 range_:mg "range" = Vo
 zip_:mg "zip" = Vo
 max_:mg "max" = Vo
 min_:mg "min" = Vo
 abs_:mg "abs" = Vo
 all_:mg "all" = Vo
 enumerate_:mg "enumerate" = Vo
 set_:mg "set" = Vo
 str_:mg "str" = Vo
 reversed_:mg "reversed" = Vo
 any_:mg "any" = Vo
def pJ:List (Key×V):=[(.inr "up",.int 1),(.inr "down",.int (-1)),(.inr "stay",.int 0),(.inr "zero",.int 0)]
def pf:List (Key×V):=[(.inr "up",.str "down"),(.inr "down",.str "up"),(.inr "stay",.str "stay"),(.inr "zero",.str "zero")]
abbrev Dq(K:FX)(mg:Vm->Option Va)(x:Vm)(st:Stmt):Prop:=∃(f:Vb) (fd:Vl),mg x=Vn (.ref f)/\Fun K x x st f fd
abbrev bd(x:Vm)(st:Stmt)(us:List Va)(r:List (Vm×Va)):Prop:=∀(kV doc pm:Va) (an:Option Vb) (cdv ct:Va),bindArgs (Iq x x (iF st) (eY st) (cJ st) .none kV doc pm an cdv ct) ⟨us,[]⟩=pure r
def cI{K:FX}{mg:Vm->Option Va}{x:Vm}{st:Stmt}{b:Vm}(d:Dq K mg x st)(h:∀c,bd x st [c] [(b,c)]:=by(repeat intro _);rfl):Dfn K mg x st [b]:=let ⟨f,fd,a,F⟩:=d;⟨f,fd,a,F,F.binds λ_ _ _ _ _ _ us e=>match us,e with|[_],_=>h _ _ _ _ _ _ _⟩
def bK{K:FX}{mg:Vm->Option Va}{x:Vm}{st:Stmt}{b p1:Vm}(d:Dq K mg x st)(h:∀c e,bd x st [c,e] [(b,c),(p1,e)]:=by(repeat intro _);rfl):Dfn K mg x st [b,p1]:=let ⟨f,fd,a,F⟩:=d;⟨f,fd,a,F,F.binds λ_ _ _ _ _ _ us g=>match us,g with|[_,_],_=>h _ _ _ _ _ _ _ _⟩
def dw{K:FX}{mg:Vm->Option Va}{x:Vm}{st:Stmt}{b p1 p2:Vm}(d:Dq K mg x st)(h:∀c e g,bd x st [c,e,g] [(b,c),(p1,e),(p2,g)]:=by(repeat intro _);rfl):Dfn K mg x st [b,p1,p2]:=let ⟨f,fd,a,F⟩:=d;⟨f,fd,a,F,F.binds λ_ _ _ _ _ _ us i=>match us,i with|[_,_,_],_=>h _ _ _ _ _ _ _ _ _⟩
def sE{K:FX}{mg:Vm->Option Va}{x:Vm}{st:Stmt}{b p1 p2 p3:Vm}(d:Dq K mg x st)(h:∀c e g i,bd x st [c,e,g,i] [(b,c),(p1,e),(p2,g),(p3,i)]:=by(repeat intro _);rfl):Dfn K mg x st [b,p1,p2,p3]:=let ⟨f,fd,a,F⟩:=d;⟨f,fd,a,F,F.binds λ_ _ _ _ _ _ us j=>match us,j with|[_,_,_,_],_=>h _ _ _ _ _ _ _ _ _ _⟩
structure Bu(w:Ve)(mg:Vm->Option Va)(base:Vh):Prop extends Blt mg where
 d_staying_part:Dq K mg "staying_part" (stq 80)
 d_places_ahead:Dq K mg "places_ahead" (stq 78)
 d_known_ranks:Dq K mg "known_ranks" (stq 79)
 d_raised_by:Dq K mg "raised_by" (stq 35)
 d_led_to:Dq K mg "led_to" (stq 36)
 d_is_open:Dq K mg "is_open" (stq 34)
 d_counts_by_room:Dq K mg "counts_by_room" (stq 65)
 d_steps_by_place:Dq K mg "steps_by_place" (stq 77)
 d_walk_back:Dq K mg "walk_back" (stq 68)
 d_greatest_met:Dq K mg "greatest_met" (stq 66)
 d_found_from:Dq K mg "found_from" (stq 67)
 d_sought_walk:Dq K mg "sought_walk" (stq 69)
 d_last_met:Dq K mg "last_met" (stq 72)
 d_can_go:Dq K mg "can_go" (stq 63)
 d_places_gone:Dq K mg "places_gone" (stq 64)
 d_rising_part:Dq K mg "rising_part" (stq 73)
 d_refuse_great_stair:Dq K mg "refuse_great_stair" (stq 14)
 d_is_whole:Dq K mg "is_whole" (stq 9)
 d_is_rising_row:Dq K mg "is_rising_row" (stq 10)
 d_are_stair_places:Dq K mg "are_stair_places" (stq 11)
 d_is_stair:Dq K mg "is_stair" (stq 12)
 d_refuse_no_stair:Dq K mg "refuse_no_stair" (stq 13)
 d_refuse_bad_stair:Dq K mg "refuse_bad_stair" (stq 15)
 d_holds:Dq K mg "holds" (stq 19)
 d_unbounded_goals:Dq K mg "unbounded_goals" (stq 74)
 d_least_step:Dq K mg "least_step" (stq 17)
 d_stair_of_marks:Dq K mg "stair_of_marks" (stq 18)
 d_stair_of_room:Dq K mg "stair_of_room" (stq 54)
 d_next_level:Dq K mg "next_level" (stq 52)
 d_reached:Dq K mg "reached" (stq 49)
 d_told_pairs:Dq K mg "told_pairs" (stq 40)
 d_add_arches:Dq K mg "add_arches" (stq 43)
 d_join_walks:Dq K mg "join_walks" (stq 42)
 d_ways_of_deed:Dq K mg "ways_of_deed" (stq 39)
 d_beginning_table:Dq K mg "beginning_table" (stq 41)
 d_kept_table:Dq K mg "kept_table" (stq 44)
 d_is_sign:Dq K mg "is_sign" (stq 28)
 d_is_deed:Dq K mg "is_deed" (stq 27)
 d_is_room:Dq K mg "is_room" (stq 26)
 d_is_way:Dq K mg "is_way" (stq 29)
 d_are_ways:Dq K mg "are_ways" (stq 30)
 d_is_house:Dq K mg "is_house" (stq 31)
 d_refuse_no_house:Dq K mg "refuse_no_house" (stq 32)
 d_kept:Dq K mg "kept" (stq 45)
 d_ways_by_room:Dq K mg "ways_by_room" (stq 48)
 d_led_to_from:Dq K mg "led_to_from" (stq 37)
 d_low_beside:Dq K mg "low_beside" (stq 50)
 d_low_levels:Dq K mg "low_levels" (stq 51)
 d_risen:Dq K mg "risen" (stq 46)
 d_all_levels:Dq K mg "all_levels" (stq 53)
 d_refuse_bad_places:Dq K mg "refuse_bad_places" (stq 33)
 d_forward:Dq K mg "forward" (stq 55)
 d_greatest:Dq K mg "greatest" (stq 75)
 d_fate:Dq K mg "fate" (stq 81)
 d__law_ends:Dq K mg "_law_ends" (stq 95)
 d__law_most:Dq K mg "_law_most" (stq 94)
 d_shortest:Dq K mg "shortest" (stq 70)
 d_marks_below:Dq K mg "marks_below" (stq 16)
 d_greatest_divisor:Dq K mg "greatest_divisor" (stq 57)
 d_common_step:Dq K mg "common_step" (stq 58)
 d_refuse_bad_pair:Dq K mg "refuse_bad_pair" (stq 59)
 d_chosen:Dq K mg "chosen" (stq 60)
 d_either:Dq K mg "either" (stq 61)
 d__law_stairs_right:Dq K mg "_law_stairs_right" (stq 96)
 d__law_behind:Dq K mg "_law_behind" (stq 93)
 d__law_mixed:Dq K mg "_law_mixed" (stq 83)
 d__law_draws:Dq K mg "_law_draws" (stq 84)
 d__law_place:Dq K mg "_law_place" (stq 92)
 d__law_cell:Dq K mg "_law_cell" (stq 91)
 d__law_unlike:Dq K mg "_law_unlike" (stq 87)
 d__law_drawn_house:Dq K mg "_law_drawn_house" (stq 89)
 d__law_gate_house:Dq K mg "_law_gate_house" (stq 88)
 d__law_ring_house:Dq K mg "_law_ring_house" (stq 86)
 d__law_spare:Dq K mg "_law_spare" (stq 85)
 d__law_house:Dq K mg "_law_house" (stq 90)
 g_GREATEST_STEP:∃t,mg "GREATEST_STEP" = Vn (.int 840 t)
 g_GREATEST_BASE:∃t,mg "GREATEST_BASE" = Vn (.int 3000 t)
 g_GREATEST_WAYS:∃t,mg "GREATEST_WAYS" = Vn (.int 100 t)
 g_GREATEST_MANY:∃t,mg "GREATEST_MANY" = Vn (.int 12 t)
 g_GREATEST_NUMBER:∃t,mg "GREATEST_NUMBER" = Vn (.int 1000 t)
 h_RAISED:∃a,mg "RAISED" = Vn (.ref a)/\GDict w K a pJ
 h_TURNED:∃a,mg "TURNED" = Vn (.ref a)/\GDict w K a pf
 b_kept:∃c T,Tab K mg base "kept" c T
 b_low_levels:∃c T,Tab K mg base "low_levels" c T
 b_risen:∃c T,Tab K mg base "risen" c T
 b_either:∃c T,Tab K mg base "either" c T
def isInt:V->Bool
 | .int _=>true
 | _=>false
def Bl{n:String}(h:iT H v n):∃b c,jr n "int" = Vn b/\jr n "bool" = Vn c/\(b && !c)=isInt v:=by
 cases v with
 | non=>cases(h);exact⟨_,_,rfl,rfl,rfl⟩
 | bl b=>cases(h);exact⟨_,_,rfl,rfl,rfl⟩
 | int i=>cases(h);exact⟨_,_,rfl,rfl,rfl⟩
 | str z=>cases(h);exact⟨_,_,rfl,rfl,rfl⟩
 | ref a=>rcases h with⟨rfl,xs,e⟩|⟨rfl,xs,e⟩<;>exact⟨_,_,rfl,rfl,rfl⟩
 | _=>exact HY h
inductive yH(K:FX)(vs:List V)(H:Hp)(Q:VK)(E:XK):Prop|mk:∀v n,vs=[v]->iT H v n->Q (.bl (isInt v)) H->yH K vs H Q E
def kM(T:Bu w mg base):Cal P w K mg base "is_whole" 1 ["thing"] (yH K):=by
 refine(cI T.d_is_whole).oS ["thing"] λf nd H vs Q E h=>?_;obtain⟨v,n,rfl,a,q⟩:=h;obtain⟨b,c,hb,d,e⟩:=Bl a;refine⟨_,(az (aL (fm (bx hZ rfl T.isinstance_ Hf (ao (pv 0) (ao (ib (v:=.ty "int") rfl T.int_ PyProof.Rows.boot_int rfl) aa))) (eL (xD (bx hZ rfl T.isinstance_ Hf (ao (pv 0) (ao (ib (v:=.ty "bool") rfl T.bool_ PyProof.Rows.boot_bool rfl) aa)))))))),?_⟩;walk_at"";refine ic a hb ?_;walk_at"";cases b with
 | false=>refine aC ?_;rw[<-e]at q;exact q
 | true=>
  refine aI ?_;walk_at"";refine ic a d ?_;walk_at"";rw[<-e]at q;exact q
structure Way where
 room:Int
 deed:Vm
 other:Int
 sign:Vm
 deriving DecidableEq
abbrev Way.key(w:Way):List Key:=[.inl w.room,.inr w.deed,.inl w.other,.inr w.sign]
abbrev Way.vs(w:Way):List V:=[.int w.room,.str w.deed,.int w.other,.str w.sign]
variable {m r T top s U:Int}{ws us:List Way}{n d l:Nat}{a o:List Int}{z y g h:Bfs.Pl}{c p q:Vb}{H H2 H' H0 H1:Hp}{xs:List V}{v:V}{Q:VK}{xe:XK}{f:Nat->Bool}{ys qs R:List Bfs.Pl}{cs:List (Vb×Obj)}{σ:St}{ts:List (Int×Int×Int)}{ks:List Nat}{rs as:List Vb}{M M':Nat->Nat->Bool}{kvs:List (List Key×V)}{zas:List (Bfs.Pl×Vb)}{A:Bfs.Pl->List Bfs.Pl}{Kn:List (Bfs.Pl×Nat)}{W0 W:Bfs.Pl->Nat}
def Way.key_inj{w u:Way}(h:w.key=u.key):w=u:=by cases w;cases u;obtain⟨rfl,rfl,rfl,rfl,_⟩:=h;rfl
def w6(z:Vm):Prop:=∃c:Nat,97<=c/\c<=122/\z=⟨#[c]⟩
def cD(z:Vm):Prop:=z = "up"\/z = "down"\/z = "stay"\/z = "zero"
structure Way.Ok(m:Int)(w:Way):Prop where
 r0:0<=w.room
 r1:w.room<m
 o0:0<=w.other
 o1:w.other<m
 dd:cD w.deed
 sg:w6 w.sign
structure HOuse(m:Int)(ws:List Way):Prop where
 m1:1<=m
 m12:m<=12
 few:ws.length<=100
 ok:∀w∈ws,w.Ok m
 nd:ws.Nodup
def HOuse.keys(h:HOuse m ws):(ws.map Way.key).Nodup:=by have:=h.nd;unfold LQ at this ⊢;rw[Ii];exact this.imp λne e=>ne (Way.key_inj e)
def bq(H:Hp)(v:V)(m:Int)(ws:List Way):Prop:=∃p q,v=.ref p/\H p=Vn (.tup [.int m,.ref q])/\cq H q (ws.map Way.key)
theorem bq.ext{H H':Hp}{v:V}{m:Int}{ws:List Way}(e:Ext H H')(h:bq H v m ws):bq H' v m ws:=by obtain⟨p,q,rfl,h1,h2⟩:=h;exact⟨p,q,rfl,e _ _ h1,h2.ext e⟩
def eS(h:n<=1000):n<=sizeLine:=GC h (by decide)
inductive yo(K:FX)(vs:List V)(H:Hp)(Q:VK)(E:XK):Prop|mk:∀i m,vs=[.int i,.int m]->0<=i->i<m->Q (.bl true) H->yo K vs H Q E
def nU(T:Bu w mg base):Cal P w K mg base "is_room" 2 ["thing","many"] (yo K):=by refine(bK T.d_is_room).oS ["thing","many"] λa nd H vs Q E h=>?_;obtain⟨i,m,rfl,b,h1,q⟩:=h;refine⟨_,(az (aL (fm (aF (kM T) a (ao (pv 0) aa)) (eL (mH jm fJ ae (pv 0) (pv 1)))))),?_⟩;walk_at"";refine⟨_,"int",rfl,rfl,?_⟩;refine rd_exb ?_;refine aI ?_;walk_at"";rw[GZ b];refine aI ?_;walk_at"";rw[GZ h1];exact q
def zW{K:FX}{a:Vb}{b c d e f g i j:Tok}(h:K.lookup a=Vn (jy w [("up",b,.str "down" c),("down",d,.str "up" e),("stay",f,.str "stay" g),("zero",i,.str "zero" j)] ep))(hs:(a == sysModules)=false):GDict w K a pf:=
 ⟨⟨_,_,h,.cons ⟨rfl,⟨_,rfl⟩⟩ (.cons ⟨rfl,⟨_,rfl⟩⟩ (.cons ⟨rfl,⟨_,rfl⟩⟩ (.cons ⟨rfl,⟨_,rfl⟩⟩ .nil)))⟩,by decide +kernel,hs⟩
def y7(z:Vm):Vm:=if z = "up" then "down" else if z = "down" then "up" else z
def Fd{z:Vm}(h:cD z):aX pf (.inr z)=Vn (.str (y7 z)):=by rcases h with rfl|rfl|rfl|rfl<;>decide +kernel
inductive xX(K:FX)(vs:List V)(H:Hp)(Q:VK)(E:XK):Prop|mk:∀z,vs=[.str z]->cD z->Q (.bl true) H->xX K vs H Q E
def Fn(T:Bu w mg base):Cal P w K mg base "is_deed" 1 ["thing"] (xX K):=by obtain⟨d,a,c⟩:=T.h_TURNED;refine(cI T.d_is_deed).oS ["thing"] λf nd H vs Q E h=>?_;obtain⟨z,rfl,e,q⟩:=h;refine⟨_,(az (aL (fm (bx hZ rfl T.isinstance_ Hf (ao (pv 0) (ao (ib (v:=.ty "str") rfl T.str_ Lg rfl) aa))) (eL (Bh (CF rfl a c (pv 0)) (by with_unfolding_all rfl)))))),?_⟩;walk_at"";refine ic rfl rfl ?_;walk_at"";refine aI ?_;walk_at"";refine⟨.inr z,rfl,?_⟩;rw[Fd e];exact q
def D6{c:Nat}(h:97<=c):(!decide (([c]:List Nat)<(GJ "a").cps.toList))=true:=by
 have e:(GJ "a").cps.toList=[97]:=by decide +kernel
 rw[e,GY (λz=>by
  rw[Lh]at z;rcases z with z|⟨_,z⟩
  .omega
  .cases z)]
 rfl
def EG{c:Nat}(h:c<=122):(!decide ((GJ "z").cps.toList<([c]:List Nat)))=true:=by
 have e:(GJ "z").cps.toList=[122]:=by decide +kernel
 rw[e,GY (λz=>by
  rw[Lh]at z;rcases z with z|⟨_,z⟩
  .omega
  .cases z)]
 rfl
inductive rY(K:FX)(vs:List V)(H:Hp)(Q:VK)(E:XK):Prop|mk:∀z,vs=[.str z]->w6 z->Q (.bl true) H->rY K vs H Q E
def As(T:Bu w mg base):Cal P w K mg base "is_sign" 1 ["thing"] (rY K):=by refine(cI T.d_is_sign).oS ["thing"] λe nd H vs Q E h=>?_;obtain⟨z,rfl,⟨c,a,d,rfl⟩,q⟩:=h;refine⟨_,(az (aL (fm (bx hZ rfl T.isinstance_ Hf (ao (pv 0) (ao (ib (v:=.ty "str") rfl T.str_ Lg rfl) aa))) (fm (fU bY (bx Ep rfl T.len_ HR (ao (pv 0) aa)) ae (aT _)) (eL (mH wo wo bf (pv 0) bf)))))),?_⟩;walk_at"";refine ic rfl rfl ?_;walk_at"";refine aI ?_;walk_at"";refine⟨_,rfl,eS (show 1<=1000 by decide),?_⟩;walk_at"";refine aI ?_;walk_at"";rw[D6 a];refine aI ?_;walk_at"";rw[EG d];exact q
def qv(h:H p=Vn (.tup xs)):iT H (.ref p) "tuple":=.inr ⟨rfl,xs,h⟩
inductive rj(K:FX)(vs:List V)(H:Hp)(Q:VK)(E:XK):Prop|mk:∀p w m,vs=[.ref p,.int m]->H p=Vn (.tup (Way.vs w))->w.Ok m->Q (.bl true) H->rj K vs H Q E
def D8(T:Bu w mg base):Cal P w K mg base "is_way" 3 ["thing","many"] (rj K):=by
 refine(bK T.d_is_way).oS ["thing","many"] λc nd H vs Q E h=>?_;obtain⟨p,w,m,rfl,a,ok,q⟩:=h;refine⟨_,(av (bH (PW.pt (eQ (dR (cj (bx hZ rfl T.isinstance_ Hf (ao (pv 0) (ao (ib (v:=.ty "tuple") rfl T.tuple_ Hk rfl) aa))))) (fZ (aU gH (bx (cL K) rfl T.len_ HR (ao (pv 0) aa)) ae (aT _))))) (az (aL b9)) a8)
   (av (bH (PW.pt (eQ (dR (cj (aF (nU T) c (ao (ay (aD K) (pv 0) ae (λ_ _=>rfl)) (ao (pv 1) aa))))) (fZ (dR (cj (aF (nU T) c (ao (ay (aD K) (pv 0) ae (λ_ _=>rfl)) (ao (pv 1) aa)))))))) (az (aL b9)) a8)
   (az (aL (fm (aF (Fn T) c (ao (ay (aD K) (pv 0) ae (λ_ _=>rfl)) aa)) (eL (aF (As T) c (ao (ay (aD K) (pv 0) ae (λ_ _=>rfl)) aa)))))))),?_⟩
 walk_at"";refine ic (qv a) (b:=true) rfl ?_;walk_at"";refine aC ?_;walk_at"";refine jK (ax.of a) ?_;walk_at"";refine aC ?_;walk_at"";refine aB (ax.of a) (v:=.int w.room) rfl ?_;walk_at"";refine⟨_,_,rfl,ok.r0,ok.r1,?_⟩;walk_at"";refine aC ?_;walk_at"";refine aB (ax.of a) (v:=.int w.other) rfl ?_;walk_at"";refine⟨_,_,rfl,ok.o0,ok.o1,?_⟩;walk_at"";refine aC ?_;walk_at"";refine aB (ax.of a) (v:=.str w.deed) rfl ?_;walk_at"";refine⟨_,rfl,ok.dd,?_⟩;walk_at"";refine aI ?_;walk_at"";refine aB (ax.of a) (v:=.str w.sign) rfl ?_;walk_at"";exact⟨_,rfl,ok.sg,q⟩
def cq.item{bs:List Vb}(h:∀(j:Nat) b k,bs[j]?=Vn b->(ws.map Way.key)[j]?=Vn k->H b=Vn (.tup (k.map kV))){j:Nat}{w:Way}(a:bs[j]?=Vn b)(c:ws[j]?=Vn w):H b=Vn (.tup w.vs):=
 h j b w.key a (by rw[F3,c];rfl)
inductive ur(K:FX)(vs:List V)(H:Hp)(Q:VK)(E:XK):Prop|mk:∀q ws m,vs=[.ref q,.int m]->cq H q (ws.map Way.key)->HOuse m ws->(∀H',Ext H H'->Q (.bl true) H')->ur K vs H Q E
theorem Bo(T:Bu w mg base):Cal P w K mg base "are_ways" 4 ["thing","many"] (ur K):=by
 obtain⟨c,a⟩:=T.g_GREATEST_WAYS;refine(bK T.d_are_ways).oS ["thing","many"] λg nd H vs Q E h=>?_;obtain⟨q,ws,m,rfl,j,ok,s⟩:=h;obtain⟨bs,h1,h2,u⟩:=id j;rw[F1]at h2;have n:=ok.few;refine⟨_,(av (bH (PW.pt (eQ (dR (cj (bx hZ rfl T.isinstance_ Hf (ao (pv 0) (ao (ib (v:=.ty "tuple") rfl T.tuple_ Hk rfl) aa))))) (fZ (aU fX (bx (cL K) rfl T.len_ HR (ao (pv 0) aa)) (jz (v:=.int 100) rfl a ⟨_,rfl⟩) (aT _))))) (az (aL b9)) a8)
   (az (aL (fm (bx (Av K rfl) rfl T.all_ PyProof.Rows.boot_all (ao (eo ["way"] [1] (jH K (pv 0)) (λ_=>(aN (i:=0) (show(["way","many"]:List Vm).Nodup from by decide +kernel) rfl oi oj)) (λ_=>dn) (λ_=>(aF (D8 T) g (ao (pv 0) (ao (pv 1) aa))))) aa)) (eL (fU bY (bx Og.call_lenSet rfl T.len_ HR (ao (jZ (Og.call_setT g) rfl T.set_ PyProof.Rows.boot_set (ao (pv 0) aa)) aa)) (bx (cL K) rfl T.len_ HR (ao (pv 0) aa)) (aT _))))))),?_⟩
 walk_at"";refine ic (qv h1) (b:=true) rfl ?_;walk_at"";refine aC ?_;walk_at"";refine jK (ax.of h1) ?_;walk_at"";rw[GY (show ¬((100:Int)<((bs.map V.ref).length:Nat)) by rw[F1];lia)];refine aC ?_;walk_at"";refine jA (ax.of h1) ?_;refine xp (xs:=bs.map V.ref) (λi ys H'=>Ext H H'/\ys=(GO i true).map V.bl) (eS (by rw[F1];lia)) ⟨λ_ _ z=>z,rfl⟩ (λi ys H' hi h=>⟨ax.of (h.1 _ _ h1),by rw[h.2];simp⟩) ?_ ?_
 .rintro i x ys H' o ⟨e,rfl⟩;rw[F3]at o;obtain⟨b,hb,rfl⟩:=Ge.mp o;have hi:i<ws.length:=by rw[<-h2];exact(F9.mp hb).1
  have d:ws[i]?=Vn ws[i]:=F2 hi;walk_at"";refine aI ?_;walk_at"";refine⟨b,ws[i],m,rfl,e _ _ (cq.item u hb d),ok.ok _ (Gv hi),e,?_⟩;rw[KO,Gj];rfl
 .rintro ys H' p ⟨e,rfl⟩ y;walk_at"";have f:Ext H (upd H' p (.lst ((GO (bs.map V.ref).length true).map V.bl))):=e.trans (bh y);refine⟨p,GO (bs.map V.ref).length true,rfl,af.of aE,?_⟩;rw[show (GO (bs.map V.ref).length true).all id=true by simp];walk_at"";refine aI ?_;walk_at"";refine Og.rd_setOf (j.ext f) ok.keys (by rw[F1];lia) λl H2 r A=>?_;walk_at"";refine Og.rd_lenSet A (by rw[F1];lia) ?_;walk_at"";refine jK (ax.of ((f.trans r) _ _ h1)) ?_;walk_at"";rw[show decide (((((ws.map Way.key).length:Nat):Int))=((bs.map V.ref).length:Nat))=true by rw[F1,F1,h2];simp];exact s _ (f.trans r)
inductive wc(K:FX)(vs:List V)(H:Hp)(Q:VK)(E:XK):Prop|mk:∀v m ws,vs=[v]->bq H v m ws->HOuse m ws->(∀H',Ext H H'->Q (.bl true) H')->wc K vs H Q E
def Ax(T:Bu w mg base):Cal P w K mg base "is_house" 5 ["thing"] (wc K):=by
 obtain⟨c,a⟩:=T.g_GREATEST_MANY;refine(cI T.d_is_house).oS ["thing"] λd nd H vs Q E h=>?_;obtain⟨v,m,ws,rfl,⟨p,r,rfl,h1,h2⟩,ok,q⟩:=h;have m1:=ok.m1;have e:=ok.m12;refine⟨_,(av (bH (PW.pt (eQ (dR (cj (bx hZ rfl T.isinstance_ Hf (ao (pv 0) (ao (ib (v:=.ty "tuple") rfl T.tuple_ Hk rfl) aa))))) (fZ (aU gH (bx (cL K) rfl T.len_ HR (ao (pv 0) aa)) ae (aT _))))) (az (aL b9)) a8)
   (az (aL (fm (aF (kM T) d (ao (ay (aD K) (pv 0) ae (λ_ _=>rfl)) aa)) (fm (mH jm jm ae (ay (aD K) (pv 0) ae (λ_ _=>rfl)) (jz (v:=.int 12) rfl a ⟨_,rfl⟩)) (eL (aF (Bo T) d (ao (ay (aD K) (pv 0) ae (λ_ _=>rfl)) (ao (ay (aD K) (pv 0) ae (λ_ _=>rfl)) aa))))))))),?_⟩
 walk_at"";refine ic (qv h1) (b:=true) rfl ?_;walk_at"";refine aC ?_;walk_at"";refine jK (ax.of h1) ?_;walk_at"";refine aC ?_;walk_at"";refine aB (ax.of h1) (v:=.int m) rfl ?_;walk_at"";refine⟨_,"int",rfl,rfl,?_⟩;refine rd_exb (aI ?_);walk_at"";refine aB (ax.of h1) (v:=.int m) rfl ?_;walk_at"";rw[GZ m1];refine aI ?_;walk_at"";rw[GZ e];refine aI ?_;walk_at"";refine aB (ax.of h1) (v:=.ref r) rfl ?_;walk_at"";refine aB (ax.of h1) (v:=.int m) rfl ?_;walk_at"";exact⟨r,ws,m,rfl,h2,ok,q⟩
inductive xy(K:FX)(vs:List V)(H:Hp)(Q:VK)(E:XK):Prop|mk:∀v m ws,vs=[v]->bq H v m ws->HOuse m ws->(∀H',Ext H H'->Q .non H')->xy K vs H Q E
def lA(T:Bu w mg base):Cal P w K mg base "refuse_no_house" 6 ["thing"] (xy K):=by refine(cI T.d_refuse_no_house).oS ["thing"] λa nd H vs Q E h=>?_;obtain⟨v,m,ws,rfl,h1,ok,q⟩:=h;refine⟨_,(az (bH (dR (cj (aF (Ax T) a (ao (pv 0) aa)))) (az iZ) a8)),?_⟩;walk_at"";refine⟨v,m,ws,rfl,h1,ok,λH' e=>?_⟩;refine rd_exb (aC ?_);walk_at"";exact q H' e
def oQ{xs:List Int}{i:Nat}(h:(xs.map V.int)[i]?=Vn v):∃x,v=.int x/\xs[i]?=Vn x:=by
 rw[F3]at h;cases e:xs[i]? with
 | none=>rw[e]at h;cases h
 | some x=>rw[e]at h;exact⟨x,(GK h).symm,rfl⟩
def bU(h:n<=1000000):n<=sizeLine:=GC h (by decide)
def aO{o:HO}(h:∀p H',Ext H H'->H' p=Vn o->H p=Vo->Q (.ref p) H')(a:xs.length<=1000000:=by simp):xs.length<=sizeLine/\gD H o Q:=⟨bU a,cA h⟩
inductive nH(K:FX)(vs:List V)(H:Hp)(Q:VK)(E:XK):Prop|mk:∀(a:Vb) (ns:List Int) (k:Int),vs=[.ref a,.int k]->af K H a (ns.map V.int)->ns.length<=63->0<=k->(∀z,Q (.int z) H)->nH K vs H Q E
theorem sJ{ns:List Int}{i:Int}(a:0<=i)(h:i<ns.length):∃z,bT (ns.map V.int) i=Vn (.int z)/\ns[i.toNat]?=Vn z:=by
 have hi:i.toNat<ns.length:=by lia
 refine⟨ns[i.toNat],eO a ?_,F2 hi⟩;rw[F3,F2 hi];rfl
theorem nI(T:Bu w mg base):Cal P w K mg base "_law_cell" 1 ["_law_script","_law_k"] (nH K):=by
 refine(bK T.d__law_cell).oS ["_law_script","_law_k"] λf nd H vs Q E h=>?_;obtain⟨a,ns,k,rfl,ha,g,e,q⟩:=h;refine⟨_,(av (bH (aU bY (bx (cL K) rfl T.len_ HR (ao (pv 0) aa)) ae (aT _)) (az (aL (aH fC ae (aH bp (pv 1) ae)))) a8)
   (av (bH (aU fJ (pv 1) (bx (cL K) rfl T.len_ HR (ao (pv 0) aa)) (aT _)) (az (aL (ay (aQ K) (pv 0) (pv 1) (λ_ _=>rfl)))) a8)
   (az (aL (aH bp (ay (aQ K) (pv 0) (aH cY (pv 1) (bx (cL K) rfl T.len_ HR (ao (pv 0) aa))) (λ_ _=>rfl)) (aH fC ae (pv 1))))))),?_⟩
 walk_at"";refine dM ha ?_;walk_at"";rw[F1];by_cases c:(ns.length:Int)=0
 .rw[GZ c];refine aI ?_;walk_at"";exact q _
 .rw[GY c];refine aC ?_;walk_at"";refine dM ha ?_;walk_at"";rw[F1];by_cases h1:k<ns.length
  .rw[GZ h1];refine aI ?_;obtain⟨z,b,_⟩:=sJ e h1;walk_at"";refine aR ha b ?_;exact q _
  .rw[GY h1];refine aC ?_;walk_at"";refine dM ha ?_;rw[F1];have d:(0:Int)<ns.length:=by lia
   refine rd_I d ?_;obtain⟨z,b,_⟩:=sJ (ns:=ns) (Hi k (by lia)) (Hd k d);refine aR ha b ?_;walk_at"";exact q _
inductive rK(K:FX)(vs:List V)(H:Hp)(Q:VK)(E:XK):Prop|mk:∀c k p,vs=[.int c,.int k,.int p]->0<=k->k<100000->0<p->(∀z,0<=z->z<p->Q (.int z) H)->rK K vs H Q E
def BV(T:Bu w mg base):Cal P w K mg base "_law_mixed" 1 ["_law_cell_here","_law_k","_law_prime"] (rK K):=by
 refine(dw T.d__law_mixed).oS ["_law_cell_here","_law_k","_law_prime","_law_far"] λd nd H vs Q E h=>?_;obtain⟨c,k,p,rfl,e,a,b,q⟩:=h;refine⟨_,(av (aG (i:=3) nd rfl oi (aH cY (aH fC (aH bp (aH bp (aH bp (pv 0) (aH fC (aH fC ae (pv 1)) (pv 1))) (aH fC ae (pv 1))) ae) ae) ae))
   (av (aG (i:=3) nd rfl oi (aH cY (aH fC (pv 3) (pv 3)) ae))
   (az (aL (aH cY (aH fC (pv 3) ae) (pv 2)))))),?_⟩
 walk_at"";exact q _ (Hi _ (by omega)) (Hd _ b)
def b6{o:HO}(e:Ext H H2)(a:H q=Vo):Ext H (upd H2 q o):=λb u hb=>by rw[aA (cx hb a)];exact e b u hb
inductive qE(K:FX)(vs:List V)(H:Hp)(Q:VK)(E:XK):Prop|mk:∀(c:Int) (w:Vb) (ws:List Int) (p:Int),vs=[.int c,.ref w,.int p]->H w=Vn (.lst (ws.map V.int))->(∀x∈ws,0<x/\x<2 ^ 40)->ws.length<=10000->0<p->(∀(q:Vb) (ds:List Int) (H':Hp),Ext H H'->H' q=Vn (.lst (ds.map V.int))->H q=Vo->ds.length=ws.length->(∀(i:Nat) d x,ds[i]?=Vn d->ws[i]?=Vn x->0<=d/\d<x)->Q (.ref q) H')->qE K vs H Q E
def lB{K:FX}{c:Int}{w:Vb}{p:Int}(ws:List Int)(h1:H w=Vn (.lst (ws.map V.int)))(h2:∀x∈ws,0<x/\x<2 ^ 40)(a:ws.length<=10000)(b:0<p)
  (k:∀q (ds:List Int) H',Ext H H'->H' q=Vn (.lst (ds.map V.int))->H q=Vo->ds.length=ws.length->(∀(i:Nat) d x,ds[i]?=Vn d->ws[i]?=Vn x->0<=d/\d<x)->Q (.ref q) H'):qE K [.int c,.ref w,.int p] H Q xe:=⟨c,w,ws,p,rfl,h1,h2,a,b,k⟩
theorem kU(T:Bu w mg base):Cal P w K mg base "_law_draws" 2 ["_law_cell_here","_law_widths","_law_prime"] (qE K):=by
 refine(dw T.d__law_draws).oS ["_law_cell_here","_law_widths","_law_prime","_law_left","_law_found","_law_k"] λB nd H vs Q E h=>?_;obtain⟨c,w,ws,p,rfl,u,o,hlen,C,q⟩:=h;refine⟨_,(av (aG (i:=3) nd rfl oi ae)
   (av (cK (aU pM (pv 0) (aH jX ae ae) (aT _)) (az (aG (i:=3) nd rfl oi (aH dU (pv 0) (aH jX ae ae)))) a8)
   (av (aG (i:=4) nd rfl oi (bF aa))
   (av (bJ B2 rfl (cX rfl T.range_ (ao (bx (cL K) rfl T.len_ HR (ao (pv 1) aa)) aa)) (aN (i:=5) nd rfl oi) (az (cK (aU fX (pv 3) ae (aT _)) (av (br (bP K F8 Gp Gq bZ (pv 4) (ao (aH cY (pv 3) (ay (aQ K) (pv 1) (pv 5) (λ_ _=>rfl))) aa)))
   (az (aG (i:=3) nd rfl oi (aH nF (pv 3) (ay (aQ K) (pv 1) (pv 5) (λ_ _=>rfl)))))) (az (br (bP K F8 Gp Gq bZ (pv 4) (ao (aH cY (aF (BV T) B (ao (pv 0) (ao (pv 5) (ao (pv 2) aa)))) (ay (aQ K) (pv 1) (pv 5) (λ_ _=>rfl))) aa)))))))
   (az (aL (pv 4))))))),?_⟩
 walk_at"";refine gL (λr H'=>H'=H/\∃l,r=[Vn (.int c),Vn (.ref w),Vn (.int p),Vn (.int l),Vo,Vo]) ?_ ?_
 .walk_at"";refine gZ (λh=>?_) (λh=>?_)
  .walk_at"";exact⟨rfl,_,rfl⟩
  .walk_at"";exact⟨rfl,_,rfl⟩
 rintro r H' ⟨rfl,l,rfl⟩;walk_at"";refine aO λf H1 A F hfn=>?_;walk_at"";refine dM (af.of (A _ _ u)) ?_;rw[F1];walk_at"";refine cU (by lia) ?_;refine forR (λi σ H2=>Ext H' H2/\∃(l:Int) (k:Option V) (ds:List Int),σ=[Vn (.int c),Vn (.ref w),Vn (.int p),Vn (.int l),Vn (.ref f),k]/\H2 f=Vn (.lst (ds.map V.int))/\ds.length=i/\∀(i:Nat) d x,ds[i]?=Vn d->ws[i]?=Vn x->0<=d/\d<x)
  ⟨A,l,Vo,[],rfl,F,rfl,λi d x hd=>by simp at hd⟩ ?_ ?_
 .rintro i σ H2 hi ⟨e,l,k,ds,rfl,a,b,hb⟩;rw[Gf]at hi;have s:ws[i]?=Vn ws[i]:=F2 hi;have L:=o ws[i] (Gv hi);have hat:bT (ws.map V.int) (0+(i:Int))=Vn (.int ws[i]):=by rw[Int.zero_add];exact cO (by rw[F3,s];rfl)
  have next:∀d,0<=d->d<ws[i]->∀(j:Nat) (n x:Int),(ds++[d])[j]?=Vn n->ws[j]?=Vn x->0<=n/\n<x:=λd G h1 j n x g m=>by
   rcases GQ j ds.length with h|h
   .rw[Gu h]at g;exact hb j n x g m
   .rw[Gs h]at g;have v:j-ds.length=0:=by
     rcases Kq (j-ds.length)with h|h
     .exact h
     .rw[Hj (by simp;lia)]at g;cases g
    rw[v]at g;have y:j=i:=by lia
    subst y;rw[s]at m;cases m;have:d=n:=by simpa using g
    rw[<-this];exact⟨G,h1⟩
  walk_at"";refine cE ?_;walk_at"";refine gZ (λh=>?_) (λh=>?_)
  .have h':1<l:=by simpa using h
   walk_at"";refine⟨cH (af.of a),?_⟩;walk_at"";refine aR (af.of (e _ _ u)) hat ?_;refine rd_I (show 0<ws[i] by lia) ?_;walk_at"";refine bV a (by rw[F1];exact IE (show ds.length<=10000 by lia) (by decide)) ?_;walk_at"";refine aR (af.of (b6 e hfn _ _ u)) hat ?_;refine rd_I (show 0<ws[i]/\ws[i]<2 ^ 64 by lia) ?_;walk_at"";refine⟨b6 e hfn,_,_,ds++[l % ws[i]],rfl,?_,by rw[Gk,b];rfl,next _ (Hi _ (by lia)) (Hd _ (by lia))⟩;rw[aE,Gj];rfl
  .walk_at"";refine⟨cH (af.of a),?_⟩;walk_at"";refine⟨c,0+(i:Int),p,rfl,by lia,by lia,C,λz I J=>?_⟩;walk_at"";refine aR (af.of (e _ _ u)) hat ?_;refine rd_I (show 0<ws[i] by lia) ?_;walk_at"";refine bV a (by rw[F1];exact IE (show ds.length<=10000 by lia) (by decide)) ?_;walk_at"";refine⟨b6 e hfn,_,_,ds++[z % ws[i]],rfl,?_,by rw[Gk,b];rfl,next _ (Hi _ (by lia)) (Hd _ (by lia))⟩;rw[aE,Gj];rfl
 .rintro σ H2 ⟨e,l,k,ds,rfl,a,b,hb⟩;walk_at"";exact q f ds H2 e a hfn (by rw[b,Gf]) hb
inductive tF(K:FX)(vs:List V)(H:Hp)(Q:VK)(E:XK):Prop|mk:∀c w,vs=[.int c,.int w]->0<w->w<2 ^ 64->(∀z,Q (.int z) H)->tF K vs H Q E
def zS(T:Bu w mg base):Cal P w K mg base "_law_spare" 1 ["_law_cell_here","_law_width"] (tF K):=by
 refine(bK T.d__law_spare).oS ["_law_cell_here","_law_width"] λa nd H vs Q E h=>?_;obtain⟨c,w,rfl,h1,h2,q⟩:=h;refine⟨_,(av (bH (aU pM (pv 0) (aH jX ae ae) (aT _)) (az (aL (aH bp (aH nF (aH dU (pv 0) (aH jX ae ae)) (pv 1)) (aH jX ae ae)))) a8)
   (az (aL (aH bp (pv 0) ae)))),?_⟩
 walk_at"";refine gZ (λh=>?_) (λh=>?_)
 .walk_at"";exact q _
 .walk_at"";exact q _
def aZ(H:Hp)(bs:List Vb)(ws:List Way):Prop:=bs.length=ws.length/\∀(j:Nat) (b:Vb) (w:Way),bs[j]?=Vn b->ws[j]?=Vn w->H b=Vn (.tup w.vs)
def aZ.ext(e:Ext H H')(h:aZ H bs ws):aZ H' bs ws:=⟨h.1,λj b w a c=>e _ _ (h.2 j b w a c)⟩
def aZ.put{f:Vb}{ys:List V}(a:H f=Vn (.lst xs))(h:aZ H bs ws):aZ (upd H f (.lst ys)) bs ws:=⟨h.1,λj b w c d=>by have:=h.2 j b w c d;rw[aA (bA this a (by intro z;cases z))];exact this⟩
def aZ.nil(H):aZ H [] []:=⟨rfl,λj b w e=>by simp at e⟩
def aZ.snoc{H}{bs}{ws}{b}{w}(h:aZ H bs ws)(hb:H b=Vn (.tup w.vs)):aZ H (bs++[b]) (ws++[w]):=by
 refine⟨by simp[h.1],λj f g a c=>?_⟩;rcases GQ j bs.length with d|d
 .rw[Gu d]at a;rw[Gu (by rw[<-h.1];exact d)]at c;exact h.2 j f g a c
 .rw[Gs d]at a;rw[Gs (by rw[<-h.1];exact d),<-h.1]at c;cases e:j-bs.length with
  | zero=>
   rw[e]at a c;cases a;cases c;exact hb
  | succ k=>rw[e]at a;simp at a
def aZ.ways(h:aZ H bs ws)(c:H p=Vn (.tup (bs.map V.ref))):cq H p (ws.map Way.key):=
 ⟨bs,c,by rw[F1];exact h.1,λj b k d a=>by rw[F3]at a;obtain⟨w,e,rfl⟩:=Ge.mp a;exact h.2 j b w d e⟩
def cq.al(h:cq H p (ws.map Way.key)):∃bs,H p=Vn (.tup (bs.map V.ref))/\aZ H bs ws:=by obtain⟨bs,h1,h2,a⟩:=h;rw[F1]at h2;exact⟨bs,h1,h2,λj b w c d=>cq.item a c d⟩
abbrev Way.D(w:Way):PyData:=.tuple [.int w.room,.str w.deed,.int w.other,.str w.sign]
structure Way.Lay(w:Way):Prop where
 d:(PyData.str w.deed).canLay0=true
 s:(PyData.str w.sign).canLay0=true
def Fw:∀c:Fin 123,97<=c.1->(PyData.str ⟨#[c.1]⟩).canLay0=true:=by decide +kernel
def Way.Ok.lay{w:Way}(h:w.Ok m):w.Lay:=by
 constructor
 .rcases h.dd with e|e|e|e<;>rw[e]<;>decide +kernel
 .obtain⟨c,h1,h2,e⟩:=h.sg;rw[e];exact Fw ⟨c,Nat.lt_succ_of_le h2⟩ h1
def Way.rep{w:Way}(h:H b=Vn (.tup w.vs))(l:w.Lay):bo H 1 (.ref b) w.D:=
 .inr ⟨b,w.vs,_,rfl,.inl ⟨h,rfl⟩,.cons rfl (.cons ⟨rfl,l.d⟩ (.cons rfl (.cons ⟨rfl,l.s⟩ .nil)))⟩
theorem Way.eqv(w u:Way):IB w.D u.D=decide (w=u):=by
 simp only[IB,K5];by_cases h:w=u
 .subst h;simp
 .rw[GY h];obtain⟨a,b,c,d⟩:=w;obtain⟨f,g,c',i⟩:=u;simp only[Way.mk.injEq,not_and]at h;simp only[Bool.and_true,Li,beq_eq_false_iff_ne];by_cases h1:a=f
  .by_cases h2:b=g
   .by_cases e:c=c'
    .exact .inr (.inr (.inr (h h1 h2 e)))
    .exact .inr (.inr (.inl e))
   .exact .inr (.inl h2)
  .exact .inl h1
theorem aZ.reps{H:Hp}:∀{bs:List Vb} {ws:List Way},aZ H bs ws->(∀w∈ws,w.Lay)->Paired (bo H 1) (bs.map V.ref) (ws.map Way.D)
 | [],[],_,_=>.nil
 | [],_::_,h,_=>by cases h.1
 | _::_,[],h,_=>by cases h.1
 | b::bs,w::ws,h,l=>.cons (Way.rep (h.2 0 b w rfl rfl) (l w F7)) (aZ.reps ⟨Nat.succ.inj h.1,λj b w a c=>h.2 (j+1) b w a c⟩ λu d=>l u (F4 _ d))
def zB(ws:List Way)(w):((ws.map Way.D).any λe=>IB e w.D)=decide (w∈ws):=by
 rw[LR];induction ws with
 | nil=>rfl
 | cons u ws a=>
  rw[JS,a,MA,Way.eqv];by_cases h:w∈ws
  .simp[h]
  .by_cases e:u=w
   .simp[e]
   .have:¬w=u:=λz=>e z.symm;simp[h,e,this]
inductive tU(K:FX)(vs:List V)(H:Hp)(Q:VK)(E:XK):Prop|mk:∀l bs ws,vs=[.ref l]->H l=Vn (.lst (bs.map V.ref))->aZ H bs ws->(∀w∈ws,Way.Lay w)->ws.length<=200->(∀q H' us,Ext H H'->cq H' q (A0 Way.key us)->us.Nodup->(∀u∈us,u∈ws)->us.length<=ws.length->Q (.ref q) H')->tU K vs H Q E
theorem se(T:Bu w mg base):Cal P w K mg base "_law_unlike" 1 ["_law_ways"] (tU K):=by
 refine(cI T.d__law_unlike).oS ["_law_ways","_law_found","_law_way"] λC nd H vs Q E h=>?_;obtain⟨l,bs,ws,rfl,v,al,lay,hlen,q⟩:=h;refine⟨_,(av (aG (i:=1) nd rfl oi (bF aa))
   (av (bJ B2 rfl (bW K (pv 0)) (aN (i:=2) nd rfl oi) (az (cK (aU (tO C) (pv 2) (pv 1) (by with_unfolding_all rfl)) (az (br (bP K F8 Gp Gq bZ (pv 1) (ao (pv 2) aa)))) a8)))
   (az (aL (jZ (mz K) rfl T.tuple_ Hk (ao (pv 1) aa)))))),?_⟩
 walk_at"";refine aO λf H1 y F hfn=>?_;walk_at"";refine bX (af.of (y _ _ v)) ?_;refine forL (xs:=bs.map V.ref) (λi σ H2=>Ext H H2/\∃(k:Option V) (cs:List Vb) (us:List Way),σ=[Vn (.ref l),Vn (.ref f),k]/\H2 f=Vn (.lst (cs.map V.ref))/\aZ H2 cs us/\us.Nodup/\(∀u∈us,u∈ws)/\us.length<=i)
  ⟨y,Vo,[],[],rfl,F,aZ.nil _,IF,λu j=>by simp at j,Gn _⟩ (λi σ H2 _ h=>af.of (h.1 _ _ v)) ?_ ?_
 .rintro i x σ H2 A ⟨o,k,cs,us,rfl,d,e,m,sub2,g⟩;rw[F3]at A;obtain⟨b,hb,rfl⟩:=Ge.mp A;have hi:i<ws.length:=by rw[<-al.1];exact(F9.mp hb).1
  have r:ws[i]?=Vn ws[i]:=F2 hi;have n:=o _ _ (al.2 i b _ hb r);walk_at"";refine cE ?_;walk_at"";refine yp (Way.rep n (lay _ (Gv hi))) d (e.reps λu j=>lay u (sub2 u j)) (by decide) ?_;simp only[if_true,zB];refine rd_exb ?_;by_cases s:ws[i]∈us
  .rw[GZ s];refine aC ?_;walk_at"";exact⟨o,_,cs,us,rfl,d,e,m,sub2,by lia⟩
  .rw[GY s];refine aI ?_;walk_at"";refine⟨cH (af.of d),?_⟩;walk_at"";refine bV d (by rw[F1,e.1];exact IE (show us.length<=1000 by lia) (by decide)) ?_;walk_at"";refine⟨b6 o hfn,_,cs++[b],us++[ws[i]],rfl,by rw[aE,Gj];rfl,(e.put d).snoc ?_,?_,?_,by simp;lia⟩
   .rw[aA (bA n d (by intro z;cases z))];exact n
   .rw[HP];exact⟨m,by simp,λa ha c G=>by rw[Gb.mp G];exact λz=>s (z ▸ ha)⟩
   .intro u j;rcases Gr.mp j with j|j
    .exact sub2 u j
    .rw[Gb.mp j];exact Gv hi
 .rintro σ H2 ⟨o,k,cs,us,rfl,d,e,m,sub2,g⟩;walk_at"";refine lU (af.of d) (cA λp I B J _=>?_);exact q p I us (o.trans B) ((e.ext B).ways J) m sub2 (by rw[F1,al.1]at g;exact g)
def mf(z:Vm):Prop:=∃c:Nat,97<=c/\c<=99/\z=⟨#[c]⟩
structure Way.Ok3(m:Int)(w:Way):Prop where
 r0:0<=w.room
 r1:w.room<m
 o0:0<=w.other
 o1:w.other<m
 dd:cD w.deed
 sg:mf w.sign
structure HOuse3(m:Int)(ws:List Way):Prop where
 m1:1<=m
 m12:m<=12
 few:ws.length<=100
 ok:∀w∈ws,w.Ok3 m
 nd:ws.Nodup
theorem Way.Ok3.ok{w:Way}(h:w.Ok3 m):w.Ok m:=by obtain⟨c,h1,h2,a⟩:=h.sg;exact⟨h.r0,h.r1,h.o0,h.o1,h.dd,c,h1,by lia,a⟩
theorem Way.Ok3.lay{m:Int}{w:Way}(h:w.Ok3 m):w.Lay:=h.ok.lay
def HOuse3.house(h:HOuse3 m ws):HOuse m ws:=⟨h.m1,h.m12,h.few,λw a=>(h.ok w a).ok,h.nd⟩
theorem zD{ds:List Int}(h:i+4<=ds.length):∃a b c d,c6 (ds.map V.int) (some (i:Int)) (some ((i+4:Nat):Int))=[.int a,.int b,.int c,.int d]/\ds[i]?=some a/\ds[i+1]?=some b/\ds[i+2]?=some c/\ds[i+3]?=some d:=by refine⟨ds[i],ds[i+1],ds[i+2],ds[i+3],?_,F2 _,F2 _,F2 _,F2 _⟩;unfold c6;rw[HT.qB,HT.qB,F1,KY (by lia),KY (by lia),show i+4-i=4 by lia,<-MG,<-J9];rw[Ho (show i<ds.length by omega),Ho (show i+1<ds.length by omega),Ho (show i+1+1<ds.length by lia),Ho (show i+1+1+1<ds.length by lia)];rfl
def gh:List Int:=[8,12,13,31]++(GO 30 ([12,6,12,3]:List Int)).flatten
def zc(h:k<30):gh[4+4*k]?=Vn 12/\gh[4+4*k+1]?=Vn 6/\gh[4+4*k+2]?=Vn 12/\gh[4+4*k+3]?=Vn 3:=by
 have:∀k:Fin 30,gh[4+4*k.val]?=Vn 12/\gh[4+4*k.val+1]?=Vn 6/\gh[4+4*k.val+2]?=Vn 12/\gh[4+4*k.val+3]?=Vn 3:=by decide +kernel
 exact this ⟨k,h⟩
inductive yl(K:FX)(vs:List V)(H:Hp)(Q:VK)(E:XK):Prop|mk:∀c p,vs=[.int c,.int p]->0<p->(∀v m ws H',Ext H H'->bq H' v m ws->HOuse3 m ws->Q v H')->yl K vs H Q E
theorem BU(a:0<=e)(h1:e<6):∃z,bT ([.str "up",.str "down",.str "stay",.str "zero",.str "up",.str "down"]:List V) e=Vn (.str z)/\cD z:=by
 have:e=0\/e=1\/e=2\/e=3\/e=4\/e=5:=by lia
 rcases this with rfl|rfl|rfl|rfl|rfl|rfl
 .exact⟨_,rfl,.inl rfl⟩
 .exact⟨_,rfl,.inr (.inl rfl)⟩
 .exact⟨_,rfl,.inr (.inr (.inl rfl))⟩
 .exact⟨_,rfl,.inr (.inr (.inr rfl))⟩
 .exact⟨_,rfl,.inl rfl⟩
 .exact⟨_,rfl,.inr (.inl rfl)⟩
def Ao:(GJ "abc").cps.toList=[97,98,99]:=by decide +kernel
theorem Fu(a:0<=e)(h1:e<3):∃c,bT (GJ "abc").cps.toList e=Vn c/\97<=c/\c<=99:=by
 rw[Ao];have:e=0\/e=1\/e=2:=by lia
 rcases this with rfl|rfl|rfl
 .exact⟨97,rfl,by decide,by decide⟩
 .exact⟨98,rfl,by decide,by decide⟩
 .exact⟨99,rfl,by decide,by decide⟩
def A8(b:0<=e)(h1:e<8):∃w,bT (([4,4,4,5,3,2,5,12]:List Int).map V.int) e=Vn (.int w)/\1<=w/\w<=12:=by
 obtain⟨n,rfl⟩:=Int.eq_ofNat_of_zero_le b;have a:=Int.ofNat_lt.mp h1;have key:∀i:Fin 8,1<=([4,4,4,5,3,2,5,12]:List Int)[i]/\([4,4,4,5,3,2,5,12]:List Int)[i]<=12:=by decide
 exact⟨([4,4,4,5,3,2,5,12]:List Int)[n],cO (by rw[F3,F2 a];rfl),key ⟨n,a⟩⟩
def bq.mk(h1:H p=Vn (.tup [.int m,.ref q]))(h2:cq H q (ws.map Way.key)):bq H (.ref p) m ws:=⟨p,q,rfl,h1,h2⟩
theorem Cb(T:Bu w mg base):Cal P w K mg base "_law_drawn_house" 3 ["_law_cell_here","_law_prime"] (yl K):=by
 refine(bK T.d__law_drawn_house).oS ["_law_cell_here","_law_prime","_law_draws_here","_law_many","_law_often","_law_ways","_law_k","_law_room","_law_deed","_law_other","_law_sign","_law_word"] λhr nd H vs Q E h=>?_;obtain⟨c,p,rfl,hp,q⟩:=h;refine⟨_,(@av _ _ _ _ _ (@aG _ _ 2 _ _ _ _ nd rfl oi (aF (kU T) hr (ag (pv 0) (ag (aH j2 (@bF _ _ _ _ (j9 (.c (.c (.c (.c .n)))))) (aH ml (@bF _ _ _ _ (j9 (.c (.c (.c (.c .n)))))) ae)) (ag (pv 1) aa rfl) rfl) rfl)) rfl oi)
   (@av _ _ _ _ _ (@aG _ _ 3 _ _ _ _ nd rfl oi (aH bp ae (aH cY (@ay _ _ _ _ _ _ _ (aQ K) (pv 2) ae (λ_ _=>rfl)) (@ay _ _ _ _ _ _ _ (aQ K) (@bF _ _ _ _ (j9 (.c (.c (.c (.c (.c (.c (.c (.c .n)))))))))) (@ay _ _ _ _ _ _ _ (aQ K) (pv 2) ae (λ_ _=>rfl)) (λ_ _=>rfl)))) rfl oi)
   (@av _ _ _ _ _ (@aG _ _ 4 _ _ _ _ nd rfl oi (@ay _ _ _ _ _ _ _ (aQ K) (pv 2) ae (λ_ _=>rfl)) rfl oi)
   (@av _ _ _ _ _ (cK (aU bY (@ay _ _ _ _ _ _ _ (aQ K) (pv 2) ae (λ_ _=>rfl)) ae (aT _)) (@az _ _ _ (@aG _ _ 4 _ _ _ _ nd rfl oi (@ay _ _ _ _ _ _ _ (aQ K) (pv 2) ae (λ_ _=>rfl)) rfl oi)) a8)
   (@av _ _ _ _ _ (@aG _ _ 5 _ _ _ _ nd rfl oi (@bF _ _ _ _ aa) rfl oi)
   (@av _ _ _ _ _ (bJ B2 rfl (cX rfl T.range_ (ag (pv 4) aa rfl)) (aN (i:=6) nd rfl oi) (@av _ _ _ _ _ (@gR _ _ _ _ _ _ (ij (gW K) (pv 2) (fG (aH bp ae (aH fC ae (pv 6)))) (fG (aH bp ae (aH fC ae (pv 6))))) (AO (n:=4) K rfl (bG (aN (i:=7) nd rfl oi) (bG (aN (i:=8) nd rfl oi) (bG (aN (i:=9) nd rfl oi) (bG (aN (i:=10) nd rfl oi) dY))))) rfl rfl rfl)
   (@av _ _ _ _ _ (@aG _ _ 11 _ _ _ _ nd rfl oi (@ay _ _ _ _ _ _ _ (aQ K) (@bF _ _ _ _ (ag bf (ag bf (ag bf (ag bf (ag bf (ag bf aa rfl) rfl) rfl) rfl) rfl) rfl)) (pv 8) (λ_ _=>rfl)) rfl oi)
   (@az _ _ _ (br (bP K F8 Gp Gq bZ (pv 5) (ag (@bz _ _ _ _ _ (ag (aH cY (pv 7) (pv 3)) (ag (pv 11) (ag (aH cY (pv 9) (pv 3)) (ag (@ay _ _ _ _ _ _ _ yN bf (pv 10) (λ_ _=>rfl)) aa rfl) rfl) rfl) rfl)) aa rfl)))))))
   (@az _ _ _ (@aL _ _ _ _ (@bz _ _ _ _ _ (ag (pv 3) (ag (aF (se T) hr (ag (pv 5) aa rfl)) aa rfl) rfl)))))))))),?_⟩
 walk_at"";refine aO λw0 G1 f1 Y _=>?_;walk_at"";refine aO λw1 G2 f2 Z _=>?_;walk_at"";refine mT Z (by lia) (bU (by decide)) (cA λw2 G3 f3 a0 _=>?_);walk_at"";refine ke (f3 _ _ (f2 _ _ Y)) a0 (bU (by decide)) (cA λw3 G4 f4 a1 _=>?_);walk_at"";refine lB gh a1 (by decide +kernel) (by decide +kernel) (hp) λdq ds H1 e1 hd ai hl hb=>?_;have eH:Ext H H1:=f1.trans (f2.trans (f3.trans (f4.trans e1)));have aj:ds.length=124:=hl;have at_:∀(i:Nat) (x:Int),gh[i]?=Vn x->∃d,ds[i]?=Vn d/\0<=d/\d<x:=λi x hx=>by
  have hi:i<ds.length:=by rw[hl];exact(F9.mp hx).1
  exact⟨ds[i],F2 hi,hb i _ x (F2 hi) hx⟩
 obtain⟨d0,g0,A,B⟩:=at_ 0 8 rfl;obtain⟨d1,g1,a2,a3⟩:=at_ 1 12 rfl;obtain⟨d2,g2,C,a4⟩:=at_ 2 13 rfl;obtain⟨d3,g3,F,a5⟩:=at_ 3 31 rfl;have pick:∀{i:Nat} {d:Int},ds[i]?=Vn d->bT (ds.map V.int) (i:Int)=Vn (.int d):=λ{i d} h=>cO (by rw[F3,h];rfl);walk_at"";refine aR (af.of hd) (pick (i:=1) g1) ?_;walk_at"";refine aO λmq H2 U a6 _=>?_;walk_at"";refine aR (af.of (U _ _ hd)) (pick (i:=0) g0) ?_;obtain⟨w,hw,G,I⟩:=A8 A B;refine aR (af.of a6) hw ?_
 try refine rd_I (show(0:Int)<w by lia) ?_
 walk_at"";have r0:0<=d1 % w:=Hi _ (by lia);have r1:d1 % w<w:=Hd _ (by lia);obtain⟨m,hm,m1,m2⟩:∃m,1+d1 % w=m/\1<=m/\m<=12:=⟨_,rfl,by lia,by lia⟩;rw[hm];refine aR (af.of (U _ _ hd)) (pick (i:=2) g2) ?_;walk_at"";have a9:Ext H H2:=eH.trans U;have g:=U _ _ hd;refine gL (λJ H'=>H'=H2/\∃o:Nat,o<=30/\J=[Vn (.int c),Vn (.int p),Vn (.ref dq),Vn (.int m),Vn (.int o),Vo,Vo,Vo,Vo,Vo,Vo,Vo]) ?_ ?_
 .walk_at"";refine aR (af.of g) (pick (i:=0) g0) ?_;walk_at"";refine gZ (λh=>?_) (λh=>?_)
  .walk_at"";refine aR (af.of g) (pick (i:=3) g3) ?_;walk_at"";exact⟨rfl,d3.toNat,by lia,by rw[Gg F];rfl⟩
  .walk_at"";exact⟨rfl,d2.toNat,by lia,by rw[Gg C];rfl⟩
 rintro J H' ⟨rfl,o,ho,rfl⟩;clear hw G I r0 r1 A B a2 a3 C a4 F a5;walk_at"";refine aO λf H3 e3 hf hfn=>?_;walk_at"";refine cU (by lia) ?_;refine forR (λi σ L=>Ext H' L/\∃(k1 k2 k3 k4 k5 k6:Option V) (cs:List Vb) (us:List Way),σ=[Vn (.int c),Vn (.int p),Vn (.ref dq),Vn (.int m),Vn (.int o),Vn (.ref f),k1,k2,k3,k4,k5,k6]/\L f=Vn (.lst (cs.map V.ref))/\aZ L cs us/\(∀u∈us,u.Ok3 m)/\us.length=i)
  ⟨e3,Vo,Vo,Vo,Vo,Vo,Vo,[],[],rfl,hf,aZ.nil _,λu e=>by simp at e,rfl⟩ ?_ ?_
 .rintro i σ L hi ⟨W,k1,k2,k3,k4,k5,k6,cs,us,rfl,j,al,ok,len⟩;rw[Gf]at hi;have M:i<30:=by lia
  obtain⟨a,b,c',d,N,ga,gb,gc,gd⟩:=zD (ds:=ds) (i:=4+4*i) (by lia);obtain⟨y0,y1,y2,y3⟩:=zc M;have ba:=hb _ _ _ ga y0;have bb:=hb _ _ _ gb y1;have bc:=hb _ _ _ gc y2;have bd:=hb _ _ _ gd y3;have ab:=W _ _ g;walk_at"";refine gN (af.of ab) (cA λt H5 O X ak=>?_);rw[show (4:Int)+4*(0+(i:Int))=((4+4*i:Nat):Int) by lia,show (8:Int)+4*(0+(i:Int))=((4+4*i+4:Nat):Int) by lia,N]at X;walk_at"";refine Co (af.of X) rfl ?_;walk_at"";refine aO λu1 H6 y ac _=>?_;walk_at"";obtain⟨z,hz,ad⟩:=BU bb.1 bb.2;refine aR (af.of ac) hz ?_;walk_at"";have R:=y _ _ (O _ _ j);refine⟨cH (af.of R),?_⟩;walk_at""
  try refine rd_I (show(0:Int)<m by lia) ?_
  walk_at""
  try refine rd_I (show(0:Int)<m by lia) ?_
  walk_at"";obtain⟨s,hs,s1,s2⟩:=Fu bd.1 bd.2;refine⟨_,_,s,rfl,rfl,eS (by decide +kernel),hs,?_⟩;walk_at"";refine aO λv H7 e7 hv _=>?_;have l:=e7 _ _ R;walk_at"";refine bV l (by rw[F1,al.1,len];exact IE (show i<=1000 by lia) (by decide)) ?_;walk_at"";have ah:aZ H7 cs us:=((al.ext O).ext y).ext e7;have S:H7 v=Vn (.tup (Way.vs ⟨a % m,z,c' % m,⟨#[s]⟩⟩)):=hv;refine⟨b6 (W.trans (O.trans (y.trans e7))) hfn,_,_,_,_,_,_,cs++[v],us++[⟨a % m,z,c' % m,⟨#[s]⟩⟩],rfl,by rw[aE,Gj];rfl,(ah.put l).snoc ?_,?_,by simp[len]⟩
  .rw[aA (bA S l (by intro z;cases z))];exact S
  .intro u e;rcases Gr.mp e with e|e
   .exact ok u e
   .rw[Gb.mp e];exact⟨Hi _ (by lia),Hd _ (by lia),Hi _ (by lia),Hd _ (by lia),ad,s,s1,s2,rfl⟩
 .rintro σ L ⟨W,k1,k2,k3,k4,k5,k6,cs,us,rfl,j,al,ok,len⟩;rw[Gf]at len;walk_at"";refine⟨f,cs,us,rfl,j,al,λu e=>(ok u e).lay,by lia,λr H5 ws O hws nd sub ln=>?_⟩;walk_at"";refine aO λt H6 y X _=>?_;exact q _ m ws H6 (a9.trans (W.trans (O.trans y))) (bq.mk X (hws.ext y)) ⟨m1,m2,by lia,λu e=>ok u (sub u e),nd⟩
structure WL(H0 H:Hp)(f:Vb)(us:List Way):Prop where
 ext:Ext H0 H
 at_:∃cs:List Vb,H f=Vn (.lst (cs.map V.ref))/\aZ H cs us
theorem WL.nil{H0 H:Hp}{f:Vb}(e:Ext H0 H)(a:H f=Vn (.lst [])):WL H0 H f []:=⟨e,[],a,aZ.nil _⟩
def WL.push{f v:Vb}{w:Way}(h:WL H0 H f us)(hfn:H0 f=Vo)(e:Ext H H1)(b:H1 v=Vn (.tup w.vs)):
  ∃xs,H1 f=Vn (.lst xs)/\xs.length=us.length/\WL H0 (upd H1 f (.lst (xs++[.ref v]))) f (us++[w]):=by
 obtain⟨c,cs,d,al⟩:=h;have a:=e _ _ d;refine⟨cs.map V.ref,a,by rw[F1];exact al.1,b6 (c.trans e) hfn,cs++[v],by rw[aE,Gj];rfl,((al.ext e).put a).snoc ?_⟩;rw[aA (bA b a (by intro z;cases z))];exact b
def WL.ty{K:FX}{f:Vb}(h:WL H0 H f us)(e:Ext H H1):iC K "list" (.ref f) H1:=by obtain⟨_,cs,a,al⟩:=h;exact cH (af.of (e _ _ a))
def l4:mf "a":=⟨97,by decide,by decide,by decide +kernel⟩
def kO:mf "b":=⟨98,by decide,by decide,by decide +kernel⟩
def pE:mf "c":=⟨99,by decide,by decide,by decide +kernel⟩
def mJ:cD "up":=.inl rfl
def oM:cD "down":=.inr (.inl rfl)
def jh:cD "stay":=.inr (.inr (.inl rfl))
def nA:cD "zero":=.inr (.inr (.inr rfl))
def dN(h:n<=1000):n<sizeLine:=IE h (by decide)
theorem lK{a b:V}(c:0<=e)(h1:e<2):∃v,bT [a,b] e=Vn v/\(v=a\/v=b):=by
 have:e=0\/e=1:=by lia
 rcases this with rfl|rfl
 .exact⟨a,rfl,.inl rfl⟩
 .exact⟨b,rfl,.inr rfl⟩
def fV{w:Way}(h:∀u∈us,u.Ok3 m)(b:w.Ok3 m):∀u∈us++[w],u.Ok3 m:=λu a=>by
 rcases Gr.mp a with a|a
 .exact h u a
 .rw[Gb.mp a];exact b
def Cu:(GJ "ab").cps.toList=[97,98]:=by decide +kernel
theorem DM(a:0<=e)(h1:e<2):∃c,bT (GJ "ab").cps.toList e=Vn c/\97<=c/\c<=99:=by
 rw[Cu];have:e=0\/e=1:=by lia
 rcases this with rfl|rfl
 .exact⟨97,rfl,by decide,by decide⟩
 .exact⟨98,rfl,by decide,by decide⟩
def dD{ws ds:List Int}(b:ds.length=ws.length)(hb:∀(i:Nat) d x,ds[i]?=Vn d->ws[i]?=Vn x->0<=d/\d<x)(i:Nat)(a:ws[i]?=Vn x):∃d,bT (ds.map V.int) (i:Int)=Vn (.int d)/\0<=d/\d<x:=by
 have hi:i<ds.length:=by rw[b];exact(F9.mp a).1
 have g:ds[i]?=Vn ds[i]:=F2 hi;exact⟨ds[i],cO (by rw[F3,g];rfl),hb i _ x g a⟩
inductive wy(K:FX)(vs:List V)(H:Hp)(Q:VK)(E:XK):Prop|mk:∀c p,vs=[.int c,.int p]->0<p->(∀v m ws H',Ext H H'->bq H' v m ws->HOuse3 m ws->Q v H')->wy K vs H Q E
theorem E3(T:Bu w mg base):Cal P w K mg base "_law_gate_house" 3 ["_law_cell_here","_law_prime"] (wy K):=by
 refine(bK T.d__law_gate_house).oS ["_law_cell_here","_law_prime","_law_draws_here","_law_up","_law_down","_law_many","_law_ways","_law_k"] λhr nd H vs Q E h=>?_;obtain⟨c,p,rfl,hp,q⟩:=h;refine⟨_,(@av _ _ _ _ _ (@aG _ _ 2 _ _ _ _ nd rfl oi (aF (kU T) hr (ag (pv 0) (ag (@bF _ _ _ _ (j9 (.c (.c (.c (.c (.c (.c (.c .n))))))))) (ag (pv 1) aa rfl) rfl) rfl)) rfl oi)
   (@av _ _ _ _ _ (sL (i:=3) (j:=4) rfl nd rfl rfl (by decide) rfl rfl (ag (aH bp ae (@ay _ _ _ _ _ _ _ (aQ K) (pv 2) ae (λ_ _=>rfl))) (ag (aH bp ae (@ay _ _ _ _ _ _ _ (aQ K) (pv 2) ae (λ_ _=>rfl))) aa rfl) rfl) rfl)
   (@av _ _ _ _ _ (@aG _ _ 5 _ _ _ _ nd rfl oi (aH bp (aH bp (pv 3) (pv 4)) ae) rfl oi)
   (@av _ _ _ _ _ (@aG _ _ 6 _ _ _ _ nd rfl oi (@bF _ _ _ _ aa) rfl oi)
   (@av _ _ _ _ _ (bJ B2 rfl (cX rfl T.range_ (ag (pv 3) aa rfl)) (aN (i:=7) nd rfl oi) (@az _ _ _ (br (bP K F8 Gp Gq bZ (pv 6) (ag (@bz _ _ _ _ _ (ag (pv 7) (ag bf (ag (aH cY (aH bp (pv 7) ae) (pv 3)) (ag (@ay _ _ _ _ _ _ _ yN bf (@ay _ _ _ _ _ _ _ (aQ K) (pv 2) ae (λ_ _=>rfl)) (λ_ _=>rfl)) aa rfl) rfl) rfl) rfl)) aa rfl)))))
   (@av _ _ _ _ _ (br (bP K F8 Gp Gq bZ (pv 6) (ag (@bz _ _ _ _ _ (ag (aH cY (@ay _ _ _ _ _ _ _ (aQ K) (pv 2) ae (λ_ _=>rfl)) (pv 3)) (ag bf (ag (pv 3) (ag bf aa rfl) rfl) rfl) rfl)) aa rfl)))
   (@av _ _ _ _ _ (bJ B2 rfl (cX rfl T.range_ (ag (pv 4) aa rfl)) (aN (i:=7) nd rfl oi) (@az _ _ _ (br (bP K F8 Gp Gq bZ (pv 6) (ag (@bz _ _ _ _ _ (ag (aH bp (pv 3) (pv 7)) (ag bf (ag (aH bp (pv 3) (aH cY (aH bp (pv 7) ae) (pv 4))) (ag bf aa rfl) rfl) rfl) rfl)) aa rfl)))))
   (@av _ _ _ _ _ (br (bP K F8 Gp Gq bZ (pv 6) (ag (@bz _ _ _ _ _ (ag (aH bp (pv 3) (aH cY (@ay _ _ _ _ _ _ _ (aQ K) (pv 2) ae (λ_ _=>rfl)) (pv 4))) (ag bf (ag (aH dU (pv 5) ae) (ag bf aa rfl) rfl) rfl) rfl)) aa rfl)))
   (@av _ _ _ _ _ (br (bP K F8 Gp Gq bZ (pv 6) (ag (@bz _ _ _ _ _ (ag (aH dU (pv 5) ae) (ag (@ay _ _ _ _ _ _ _ (aQ K) (@bF _ _ _ _ (ag bf (ag bf aa rfl) rfl)) (@ay _ _ _ _ _ _ _ (aQ K) (pv 2) ae (λ_ _=>rfl)) (λ_ _=>rfl)) (ag (@ay _ _ _ _ _ _ _ (aQ K) (@bF _ _ _ _ (ag ae (ag (aH dU (pv 5) ae) aa rfl) rfl)) (@ay _ _ _ _ _ _ _ (aQ K) (pv 2) ae (λ_ _=>rfl)) (λ_ _=>rfl)) (ag bf aa rfl) rfl) rfl) rfl)) aa rfl)))
   (@az _ _ _ (@aL _ _ _ _ (@bz _ _ _ _ _ (ag (pv 5) (ag (aF (se T) hr (ag (pv 6) aa rfl)) aa rfl) rfl))))))))))))),?_⟩
 walk_at"";refine aO λw0 G1 f1 Y _=>?_;walk_at"";refine lB [6,5,6,5,2,2,2] Y (by decide) (by decide) (hp) λdq ds H1 e1 hd ap G hb=>?_;have eH:Ext H H1:=f1.trans e1;obtain⟨d0,g0,Z,a0⟩:=dD G hb 0 rfl;obtain⟨d1,g1,a1,a2⟩:=dD G hb 1 rfl;obtain⟨N,g2,aq,ar⟩:=dD G hb 2 rfl;obtain⟨M,g3,as,au⟩:=dD G hb 3 rfl;obtain⟨d4,g4,a3,a4⟩:=dD G hb 4 rfl;obtain⟨d5,g5,a5,a6⟩:=dD G hb 5 rfl;obtain⟨d6,g6,a9,ab⟩:=dD G hb 6 rfl;clear hb G;walk_at"";refine aR (af.of hd) g0 ?_;walk_at"";refine aR (af.of hd) g1 ?_;walk_at"";obtain⟨U,hU⟩:∃U:Nat,1+d0=(U:Int):=⟨(1+d0).toNat,by lia⟩;obtain⟨D,hD⟩:∃D:Nat,1+d1=(D:Int):=⟨(1+d1).toNat,by lia⟩;rw[hU,hD];have u1:1<=U:=by lia
 have u6:U<=6:=by lia
 have v1:1<=D:=by lia
 have v5:D<=5:=by lia
 clear Z a0 a1 a2 hU hD;obtain⟨m,hm⟩:∃m:Int,(U:Int)+(D:Int)+1=m:=⟨_,rfl⟩;rw[hm];refine aO λf H2 e2 hf hfn=>?_;walk_at"";refine cU (by lia) ?_;have e:H1 f=Vo:=hfn;refine forR (λi σ I=>∃(k:Option V) (us:List Way),σ=[Vn (.int c),Vn (.int p),Vn (.ref dq),Vn (.int U),Vn (.int D),Vn (.int m),Vn (.ref f),k]/\WL H1 I f us/\(∀u∈us,u.Ok3 m)/\us.length=i)
  ⟨Vo,[],rfl,WL.nil e2 hf,λu O=>by simp at O,rfl⟩ ?_ ?_
 .rintro i σ I hi ⟨k,us,rfl,wl,ok,len⟩;rw[Gf]at hi;walk_at"";refine⟨wl.ty (Ext.rfl' _),?_⟩;walk_at""
  try refine rd_I (show(0:Int)<(U:Int) by lia) ?_
  walk_at"";refine aR (af.of (wl.ext _ _ hd)) g4 ?_;obtain⟨s,hs,s1,s2⟩:=DM a3 a4;refine⟨_,_,s,rfl,rfl,eS (by decide +kernel),hs,?_⟩;walk_at"";refine aO λv R F A _=>?_;walk_at"";obtain⟨xs,B,o,J⟩:=wl.push (w:=⟨0+(i:Int),"up",(0+(i:Int)+1) % (U:Int),⟨#[s]⟩⟩) e F A;refine bV B (dN (by lia)) ?_;walk_at"";exact⟨_,_,rfl,J,fV ok ⟨by show 0<=0+(i:Int);lia,by show 0+(i:Int)<m;lia,Hi _ (by lia),Int.lt_trans (Hd _ (by lia)) (by lia),mJ,s,s1,s2,rfl⟩,by simp[len]⟩
 rintro σ I ⟨k,us,rfl,wl,ok,len⟩;rw[Gf]at len;walk_at"";refine⟨wl.ty (Ext.rfl' _),?_⟩;walk_at"";refine aR (af.of (wl.ext _ _ hd)) g2 ?_
 try refine rd_I (show(0:Int)<(U:Int) by lia) ?_
 walk_at"";refine aO λv R F A _=>?_;walk_at"";have r0:0<=N % (U:Int):=Hi _ (by lia);have r1:N % (U:Int)<U:=Hd _ (by lia);obtain⟨xs,B,o,d⟩:=wl.push (w:=⟨N % (U:Int),"stay",(U:Int),"b"⟩) e F A;have x:=fV ok (w:=⟨N % (U:Int),"stay",(U:Int),"b"⟩) ⟨r0,by show N % (U:Int)<m;lia,by show 0<=(U:Int);lia,by show(U:Int)<m;lia,jh,kO⟩;refine bV B (dN (by lia)) ?_;generalize upd R f _=H5 at d ⊢;generalize g:us++[_]=C at d x;have l:C.length=U+1:=by rw[<-g];simp[len]
 clear g B o A F r0 r1 wl ok len;walk_at"";refine cU (by lia) ?_;refine forR (λi σ I=>∃(k:Option V) (us:List Way),σ=[Vn (.int c),Vn (.int p),Vn (.ref dq),Vn (.int U),Vn (.int D),Vn (.int m),Vn (.ref f),k]/\WL H1 I f us/\(∀u∈us,u.Ok3 m)/\us.length=U+1+i)
  ⟨_,C,rfl,d,x,l⟩ ?_ ?_
 .rintro i σ I hi ⟨k,us,rfl,wl,ok,len⟩;rw[Gf]at hi;walk_at"";refine⟨wl.ty (Ext.rfl' _),?_⟩;walk_at""
  try refine rd_I (show(0:Int)<(D:Int) by lia) ?_
  walk_at"";refine aO λv R F A _=>?_;walk_at"";have r0:0<=(0+(i:Int)+1) % (D:Int):=Hi _ (by lia);have r1:(0+(i:Int)+1) % (D:Int)<D:=Hd _ (by lia);obtain⟨xs,B,o,J⟩:=wl.push (w:=⟨(U:Int)+(0+(i:Int)),"down",(U:Int)+(0+(i:Int)+1) % (D:Int),"a"⟩) e F A;refine bV B (dN (by lia)) ?_;walk_at"";exact⟨_,_,rfl,J,fV ok ⟨by show 0<=(U:Int)+(0+(i:Int));lia,by show(U:Int)+(0+(i:Int))<m;lia,by show 0<=(U:Int)+(0+(i:Int)+1) % (D:Int);lia,by show(U:Int)+(0+(i:Int)+1) % (D:Int)<m;lia,oM,l4⟩,by simp[len];lia⟩
 clear d x l;rintro σ I ⟨k,us,rfl,wl,ok,len⟩;rw[Gf]at len;walk_at"";refine⟨wl.ty (Ext.rfl' _),?_⟩;walk_at"";refine aR (af.of (wl.ext _ _ hd)) g3 ?_
 try refine rd_I (show(0:Int)<(D:Int) by lia) ?_
 walk_at"";refine aO λv R F A _=>?_;walk_at"";have r0:0<=M % (D:Int):=Hi _ (by lia);have r1:M % (D:Int)<D:=Hd _ (by lia);obtain⟨xs,B,o,d⟩:=wl.push (w:=⟨(U:Int)+M % (D:Int),"zero",m-1,"c"⟩) e F A;have x:=fV ok (w:=⟨(U:Int)+M % (D:Int),"zero",m-1,"c"⟩) ⟨by show 0<=(U:Int)+M % (D:Int);lia,by show(U:Int)+M % (D:Int)<m;lia,by show 0<=m-1;lia,by show m-1<m;lia,nA,pE⟩;refine bV B (dN (by lia)) ?_;generalize upd R f _=H5 at d ⊢;generalize g:us++[_]=C at d x;have l:C.length=U+D+2:=by rw[<-g];simp[len];lia
 clear g B o A F r0 r1 wl ok len;walk_at"";refine⟨d.ty (Ext.rfl' _),?_⟩;walk_at"";refine aO λt1 H6 e6 ac _=>?_;walk_at"";refine aR (af.of (e6 _ _ (d.ext _ _ hd))) g5 ?_;obtain⟨x5,ad,ah⟩:=lK (a:=V.str "up") (b:=V.str "stay") a5 a6;refine aR (af.of ac) ad ?_;walk_at"";refine aO λt2 H7 e7 ai _=>?_;walk_at"";refine aR (af.of (e7 _ _ (e6 _ _ (d.ext _ _ hd)))) g6 ?_;obtain⟨x6,aj,ak⟩:=lK (a:=V.int 0) (b:=V.int (m-1)) a9 ab;refine aR (af.of ai) aj ?_;walk_at"";refine aO λv H8 e8 A _=>?_;walk_at"";obtain⟨z,rfl,oz⟩:∃z,x5=.str z/\cD z:=by
  rcases ah with rfl|rfl
  .exact⟨_,rfl,mJ⟩
  .exact⟨_,rfl,jh⟩
 obtain⟨y,rfl,y0,y1⟩:∃y:Int,x6=.int y/\0<=y/\y<m:=by
  rcases ak with rfl|rfl
  .exact⟨_,rfl,by lia,by lia⟩
  .exact⟨_,rfl,by lia,by lia⟩
 obtain⟨xs,B,o,L⟩:=d.push (w:=⟨m-1,z,y,"b"⟩) e (e6.trans (e7.trans e8)) A;have ok3:=fV x (w:=⟨m-1,z,y,"b"⟩) ⟨by show 0<=m-1;lia,by show m-1<m;lia,y0,y1,oz,kO⟩;refine bV B (dN (by lia)) ?_;generalize upd H8 f _=H9 at L ⊢;generalize S:C++[_]=W at L ok3;have an:W.length=U+D+3:=by rw[<-S];simp[l]
 walk_at"";obtain⟨ew,cs,am,al⟩:=L;refine⟨f,cs,W,rfl,am,al,λu O=>(ok3 u O).lay,by lia,λr I1 ws e5 hws nd sub ln=>?_⟩;walk_at"";refine aO λt I2 X ht _=>?_;exact q _ m ws I2 (eH.trans (ew.trans (e5.trans X))) (bq.mk ht (hws.ext X)) ⟨by lia,by lia,by lia,λu O=>ok3 u (sub u O),nd⟩
def aZ.rev(h:aZ H bs ws):aZ H bs.reverse ws.reverse:=by
 refine⟨by rw[Hz,Hz];exact h.1,λj b w a c=>?_⟩;have d:j<bs.length:=by have:=(F9.mp a).1;simpa using this
 rw[JV d]at a;rw[JV (by rw[<-h.1];exact d),<-h.1]at c;exact h.2 _ b w a c
def jj{w:Way}(h:us.Nodup)(b:w∉us):(us++[w]).Nodup:=by rw[HP];exact⟨h,by simp,λa ha c d=>by rw[Gb.mp d];exact λz=>b (z ▸ ha)⟩
def kf{P:Way->Prop}{w:Way}(h:∀u∈us,P u)(b:P w):∀u∈us++[w],P u:=λu a=>by
 rcases Gr.mp a with a|a
 .exact h u a
 .rw[Gb.mp a];exact b
def uL:(GJ "a")≠"b":=by decide +kernel
def x9:(GJ "a")≠"c":=by decide +kernel
def qw:(GJ "b")≠"c":=by decide +kernel
inductive xi(K:FX)(vs:List V)(H:Hp)(Q:VK)(E:XK):Prop|mk:∀c p,vs=[.int c,.int p]->0<p->(∀v m ws H',Ext H H'->bq H' v m ws->HOuse3 m ws->Q v H')->xi K vs H Q E
theorem y8(T:Bu w mg base):Cal P w K mg base "_law_ring_house" 3 ["_law_cell_here","_law_prime"] (xi K):=by
 refine(bK T.d__law_ring_house).oS ["_law_cell_here","_law_prime","_law_draws_here","_law_one","_law_two","_law_many","_law_ways","_law_k"] λhr nd H vs Q E h=>?_;obtain⟨c,p,rfl,hp,q⟩:=h;refine⟨_,(@av _ _ _ _ _ (@aG _ _ 2 _ _ _ _ nd rfl oi (aF (kU T) hr (ag (pv 0) (ag (@bF _ _ _ _ (j9 (.c (.c (.c (.c (.c (.c (.c .n))))))))) (ag (pv 1) aa rfl) rfl) rfl)) rfl oi)
   (@av _ _ _ _ _ (sL (i:=3) (j:=4) rfl nd rfl rfl (by decide) rfl rfl (ag (aH bp ae (@ay _ _ _ _ _ _ _ (aQ K) (pv 2) ae (λ_ _=>rfl))) (ag (aH bp ae (@ay _ _ _ _ _ _ _ (aQ K) (pv 2) ae (λ_ _=>rfl))) aa rfl) rfl) rfl)
   (@av _ _ _ _ _ (@aG _ _ 5 _ _ _ _ nd rfl oi (aH bp (aH bp (pv 3) (pv 4)) ae) rfl oi)
   (@av _ _ _ _ _ (@aG _ _ 6 _ _ _ _ nd rfl oi (@bF _ _ _ _ (ag (@bz _ _ _ _ _ (ag ae (ag bf (ag ae (ag bf aa rfl) rfl) rfl) rfl)) (ag (@bz _ _ _ _ _ (ag ae (ag (@ay _ _ _ _ _ _ _ (aQ K) (@bF _ _ _ _ (ag bf (ag bf aa rfl) rfl)) (@ay _ _ _ _ _ _ _ (aQ K) (pv 2) ae (λ_ _=>rfl)) (λ_ _=>rfl)) (ag (aH bp ae (pv 3)) (ag bf aa rfl) rfl) rfl) rfl)) aa rfl) rfl)) rfl oi)
   (@av _ _ _ _ _ (bJ B2 rfl (cX rfl T.range_ (ag (pv 3) aa rfl)) (aN (i:=7) nd rfl oi) (@az _ _ _ (br (bP K F8 Gp Gq bZ (pv 6) (ag (@bz _ _ _ _ _ (ag (aH bp ae (pv 7)) (ag bf (ag (aH bp ae (aH cY (aH bp (pv 7) ae) (pv 3))) (ag bf aa rfl) rfl) rfl) rfl)) aa rfl)))))
   (@av _ _ _ _ _ (bJ B2 rfl (cX rfl T.range_ (ag (pv 4) aa rfl)) (aN (i:=7) nd rfl oi) (@az _ _ _ (br (bP K F8 Gp Gq bZ (pv 6) (ag (@bz _ _ _ _ _ (ag (aH bp (aH bp ae (pv 3)) (pv 7)) (ag (@ay _ _ _ _ _ _ _ (aQ K) (@bF _ _ _ _ (ag bf (ag bf aa rfl) rfl)) (@ay _ _ _ _ _ _ _ (aQ K) (pv 2) ae (λ_ _=>rfl)) (λ_ _=>rfl)) (ag (aH bp (aH bp ae (pv 3)) (aH cY (aH bp (pv 7) ae) (pv 4))) (ag bf aa rfl) rfl) rfl) rfl)) aa rfl)))))
   (@av _ _ _ _ _ (br (bP K F8 Gp Gq bZ (pv 6) (ag (@bz _ _ _ _ _ (ag ae (ag bf (ag (aH dU (pv 5) ae) (ag bf aa rfl) rfl) rfl) rfl)) aa rfl)))
   (@av _ _ _ _ _ (br (bP K F8 Gp Gq bZ (pv 6) (ag (@bz _ _ _ _ _ (ag (aH bp ae (pv 3)) (ag bf (ag (aH dU (pv 5) ae) (ag bf aa rfl) rfl) rfl) rfl)) aa rfl)))
   (@av _ _ _ _ _ (cK (aU bY (@ay _ _ _ _ _ _ _ (aQ K) (pv 2) ae (λ_ _=>rfl)) ae (aT _)) (@az _ _ _ (br (bP K F8 Gp Gq bZ (pv 6) (ag (@bz _ _ _ _ _ (ag (aH dU (pv 5) ae) (ag bf (ag (aH dU (pv 5) ae) (ag bf aa rfl) rfl) rfl) rfl)) aa rfl)))) a8)
   (@av _ _ _ _ _ (cK (aU bY (@ay _ _ _ _ _ _ _ (aQ K) (pv 2) ae (λ_ _=>rfl)) ae (aT _)) (@az _ _ _ (br (bP K F8 Gp Gq bZ (pv 6) (ag (@bz _ _ _ _ _ (ag (aH dU (pv 5) ae) (ag bf (ag ae (ag bf aa rfl) rfl) rfl) rfl)) aa rfl)))) a8)
   (@av _ _ _ _ _ (cK (aU bY (@ay _ _ _ _ _ _ _ (aQ K) (pv 2) ae (λ_ _=>rfl)) ae (aT _)) (@az _ _ _ (@aG _ _ 6 _ _ _ _ nd rfl oi (BZ K (pv 6) (fG (eX fh ae))) rfl oi)) a8)
   (@az _ _ _ (@aL _ _ _ _ (@bz _ _ _ _ _ (ag (pv 5) (ag (jZ (mz K) rfl T.tuple_ Hk (ag (pv 6) aa rfl)) aa rfl) rfl))))))))))))))),?_⟩
 walk_at"";refine aO λw0 G1 f1 am _=>?_;walk_at"";refine lB [5,5,2,2,4,4,2] am (by decide) (by decide) (hp) λdq ds H1 e1 hd bi N hb=>?_;have eH:Ext H H1:=f1.trans e1;obtain⟨d0,g0,an,ap⟩:=dD N hb 0 rfl;obtain⟨d1,g1,aq,ar⟩:=dD N hb 1 rfl;obtain⟨d2,g2,as,au⟩:=dD N hb 2 rfl;obtain⟨d3,g3,b0,b1⟩:=dD N hb 3 rfl;obtain⟨d4,g4,_⟩:=dD N hb 4 rfl;obtain⟨d5,g5,_⟩:=dD N hb 5 rfl;obtain⟨d6,g6,_⟩:=dD N hb 6 rfl;clear hb N;walk_at"";refine aR (af.of hd) g0 ?_;walk_at"";refine aR (af.of hd) g1 ?_;walk_at"";obtain⟨U,hU⟩:∃U:Nat,1+d0=(U:Int):=⟨(1+d0).toNat,by lia⟩;obtain⟨D,hD⟩:∃D:Nat,1+d1=(D:Int):=⟨(1+d1).toNat,by lia⟩;rw[hU,hD];have u1:1<=U:=by lia
 have u6:U<=5:=by lia
 have v1:1<=D:=by lia
 have v5:D<=5:=by lia
 clear an ap aq ar hU hD;obtain⟨m,hm⟩:∃m:Int,(U:Int)+(D:Int)+2=m:=⟨_,rfl⟩;rw[hm];refine aO λa1 H2 e2 ah _=>?_;walk_at"";refine aO λt1 O e3 J _=>?_;walk_at"";refine aR (af.of (e3 _ _ (e2 _ _ hd))) g2 ?_;obtain⟨x2,b2,b4⟩:=lK (a:=V.str "stay") (b:=V.str "zero") as au;refine aR (af.of J) b2 ?_;walk_at"";obtain⟨z2,rfl,b5⟩:∃z,x2=.str z/\cD z:=by
  rcases b4 with rfl|rfl
  .exact⟨_,rfl,jh⟩
  .exact⟨_,rfl,nA⟩
 refine aO λa2 R o ai _=>?_;walk_at"";refine aO λf H5 e5 hf hfn=>?_;have b7:Ext H1 H5:=e2.trans (e3.trans (o.trans e5));have l:H1 f=Vo:=(e2.trans (e3.trans o)).none hfn;obtain⟨Z,F⟩:∃y:Way,y=⟨0,"stay",1,"a"⟩:=⟨_,rfl⟩;obtain⟨y2,G⟩:∃y:Way,y=⟨0,z2,1+(U:Int),"b"⟩:=⟨_,rfl⟩;have a0:WL H1 H5 f [Z,y2]:=by
  refine⟨b7,[a1,a2],hf,?_⟩;have k1:H5 a1=Vn (.tup Z.vs):=by rw[F];exact e5 _ _ (o _ _ (e3 _ _ ah))
  have k2:H5 a2=Vn (.tup y2.vs):=by rw[G];exact e5 _ _ ai
  exact((aZ.nil H5).snoc k1).snoc k2
 have a3:∀u∈[Z,y2],u.Ok3 m:=by
  intro u e;rcases Gh.mp e with rfl|e
  .subst F;exact⟨IU _,by show(0:Int)<m;lia,by show(0:Int)<=1;decide,by show(1:Int)<m;lia,jh,l4⟩
  .rw[Gb.mp e];subst G;exact⟨IU _,by show(0:Int)<m;lia,by show(0:Int)<=1+(U:Int);lia,by show 1+(U:Int)<m;lia,b5,kO⟩
 have a4:[Z,y2].Nodup:=by subst F G;refine Hs.mpr ⟨λz=>?_,by simp⟩;have:=congrArg Way.sign (Gb.mp z);exact uL this
 have a5:∀u∈[Z,y2],u.room<=((0:Nat):Int)/\u.sign≠"c":=by
  intro u e;rcases Gh.mp e with rfl|e
  .subst F;exact⟨IU _,x9⟩
  .rw[Gb.mp e];subst G;exact⟨IU _,qw⟩
 have a6:[Z,y2].length=2:=rfl;generalize [Z,y2]=b8 at a0 a3 a4 a5 a6;clear F G ah ai J hf e2 e3 o e5;walk_at"";refine cU (by lia) ?_;refine forR (λi σ O=>∃(k:Option V) (us:List Way),σ=[Vn (.int c),Vn (.int p),Vn (.ref dq),Vn (.int U),Vn (.int D),Vn (.int m),Vn (.ref f),k]/\WL H1 O f us/\(∀u∈us,u.Ok3 m)/\us.Nodup/\(∀u∈us,u.room<=(i:Int)/\u.sign≠"c")/\us.length=2+i)
  ⟨Vo,b8,rfl,a0,a3,a4,a5,a6⟩ ?_ ?_
 .rintro i σ O hi ⟨k,us,rfl,wl,ok,d,pr,len⟩;rw[Gf]at hi;walk_at"";refine⟨wl.ty (Ext.rfl' _),?_⟩;walk_at""
  try refine rd_I (show(0:Int)<(U:Int) by lia) ?_
  walk_at"";refine aO λv R o B _=>?_;walk_at"";have r0:0<=(0+(i:Int)+1) % (U:Int):=Hi _ (by lia);have r1:(0+(i:Int)+1) % (U:Int)<U:=Hd _ (by lia);obtain⟨xs,C,x,a9⟩:=wl.push (w:=⟨1+(0+(i:Int)),"up",1+(0+(i:Int)+1) % (U:Int),"a"⟩) l o B;refine bV C (dN (by lia)) ?_;walk_at"";refine⟨_,_,rfl,a9,fV ok ⟨by show 0<=1+(0+(i:Int));lia,by show 1+(0+(i:Int))<m;lia,by show 0<=1+(0+(i:Int)+1) % (U:Int);lia,by show 1+(0+(i:Int)+1) % (U:Int)<m;lia,mJ,l4⟩,jj d λz=>?_,kf (λu e=>⟨by have:=(pr u e).1;lia,(pr u e).2⟩) ⟨by show 1+(0+(i:Int))<=_;lia,x9⟩,by simp[len];lia⟩;have:=(pr _ z).1;have:1+(0+(i:Int))<=(i:Int):=this;lia
 clear a0 a3 a4 a5 a6;rintro σ O ⟨k,us,rfl,wl,ok,d,pr,len⟩;rw[Gf]at pr len;walk_at"";refine cU (by lia) ?_;refine forR (λi σ O=>∃(k:Option V) (us:List Way),σ=[Vn (.int c),Vn (.int p),Vn (.ref dq),Vn (.int U),Vn (.int D),Vn (.int m),Vn (.ref f),k]/\WL H1 O f us/\(∀u∈us,u.Ok3 m)/\us.Nodup/\(∀u∈us,u.room<=(U:Int)+(i:Int)/\u.sign≠"c"/\(u.room=1+(U:Int)->u.sign = "b"))/\us.length=2+U+i)
  ⟨_,us,rfl,wl,ok,d,λu e=>⟨by have:=(pr u e).1;lia,(pr u e).2,λz=>by have:=(pr u e).1;lia⟩,len⟩ ?_ ?_
 .clear wl ok d pr len;rintro i σ O hi ⟨k,us,rfl,wl,ok,d,pr,len⟩;rw[Gf]at hi;walk_at"";refine⟨wl.ty (Ext.rfl' _),?_⟩;walk_at"";refine aO λt1 H6 e6 J _=>?_;walk_at"";refine aR (af.of (e6 _ _ (wl.ext _ _ hd))) g3 ?_;obtain⟨x3,ba,bb⟩:=lK (a:=V.str "up") (b:=V.str "down") b0 b1;refine aR (af.of J) ba ?_;walk_at"";obtain⟨z3,rfl,bc⟩:∃z,x3=.str z/\cD z:=by
   rcases bb with rfl|rfl
   .exact⟨_,rfl,mJ⟩
   .exact⟨_,rfl,oM⟩
  try refine rd_I (show(0:Int)<(D:Int) by lia) ?_
  walk_at"";refine aO λv R o B _=>?_;walk_at"";have r0:0<=(0+(i:Int)+1) % (D:Int):=Hi _ (by lia);have r1:(0+(i:Int)+1) % (D:Int)<D:=Hd _ (by lia);obtain⟨xs,C,x,a9⟩:=wl.push (w:=⟨1+(U:Int)+(0+(i:Int)),z3,1+(U:Int)+(0+(i:Int)+1) % (D:Int),"b"⟩) l (e6.trans o) B;refine bV C (dN (by lia)) ?_;walk_at"";refine⟨_,_,rfl,a9,fV ok ⟨by show 0<=1+(U:Int)+(0+(i:Int));lia,by show 1+(U:Int)+(0+(i:Int))<m;lia,by show 0<=1+(U:Int)+(0+(i:Int)+1) % (D:Int);lia,by show 1+(U:Int)+(0+(i:Int)+1) % (D:Int)<m;lia,bc,kO⟩,jj d λz=>?_,kf (λu e=>⟨by have:=(pr u e).1;lia,(pr u e).2⟩) ⟨by show 1+(U:Int)+(0+(i:Int))<=_;lia,qw,λ_=>rfl⟩,by simp[len];lia⟩;have:=(pr _ z).1;have:1+(U:Int)+(0+(i:Int))<=(U:Int)+(i:Int):=this;lia
 clear wl ok d pr len;rintro σ O ⟨k,us,rfl,wl,ok,d,pr,len⟩;rw[Gf]at pr len;walk_at"";refine⟨wl.ty (Ext.rfl' _),?_⟩;walk_at"";refine aO λv R o B _=>?_;walk_at"";obtain⟨xs,C,x,I⟩:=wl.push (w:=⟨1,"stay",m-1,"c"⟩) l o B;have ab:=fV ok (w:=⟨1,"stay",m-1,"c"⟩) ⟨by show(0:Int)<=1;decide,by show(1:Int)<m;lia,by show 0<=m-1;lia,by show m-1<m;lia,jh,pE⟩;have ac:=jj d (w:=⟨1,"stay",m-1,"c"⟩) λz=>(pr _ z).2.1 rfl;have pr2:=kf (P:=λu=>u.room<=(U:Int)+(D:Int)/\(u.room=1+(U:Int)->u.sign = "b")) (λu e=>⟨(pr u e).1,(pr u e).2.2⟩) (w:=⟨1,"stay",m-1,"c"⟩) ⟨by show(1:Int)<=_;lia,λz=>by have:(1:Int)=1+(U:Int):=z;lia⟩;refine bV C (dN (by lia)) ?_;generalize upd R f _=H5 at I ⊢;generalize S:us++[_]=aj at I ab ac pr2;have W:aj.length=3+U+D:=by rw[<-S];simp[len];lia
 clear S C x B o wl ok d pr len;walk_at"";refine⟨I.ty (Ext.rfl' _),?_⟩;walk_at"";refine aO λv R o B _=>?_;walk_at"";obtain⟨xs,C,x,A⟩:=I.push (w:=⟨1+(U:Int),"stay",m-1,"a"⟩) l o B;have ok3:=fV ab (w:=⟨1+(U:Int),"stay",m-1,"a"⟩) ⟨by show(0:Int)<=1+(U:Int);lia,by show 1+(U:Int)<m;lia,by show 0<=m-1;lia,by show m-1<m;lia,jh,l4⟩;have L:=jj ac (w:=⟨1+(U:Int),"stay",m-1,"a"⟩) λz=>uL ((pr2 _ z).2 rfl);have pr3:=kf (P:=λu=>u.room<=(U:Int)+(D:Int)) (λu e=>(pr2 u e).1) (w:=⟨1+(U:Int),"stay",m-1,"a"⟩) (by show 1+(U:Int)<=_;lia);refine bV C (dN (by lia)) ?_;generalize upd R f _=H6 at A ⊢;generalize X:aj++[_]=ak at A ok3 L pr3;have Y:ak.length=4+U+D:=by rw[<-X];simp[W];lia
 clear X C x B o I ab ac pr2 W;walk_at"";refine gL (λs H'=>∃(k:Option V) (us:List Way),s=[Vn (.int c),Vn (.int p),Vn (.ref dq),Vn (.int U),Vn (.int D),Vn (.int m),Vn (.ref f),k]/\WL H1 H' f us/\(∀u∈us,u.Ok3 m)/\us.Nodup/\(∀u∈us,u.room<=(U:Int)+(D:Int)\/u.sign = "c")/\us.length<=5+U+D) ?_ ?_
 .walk_at"";refine aR (af.of (A.ext _ _ hd)) g4 ?_;walk_at"";refine gZ (λh=>?_) (λh=>?_)
  .walk_at"";refine⟨A.ty (Ext.rfl' _),?_⟩;walk_at"";refine aO λv R o B _=>?_;walk_at"";obtain⟨xs,C,x,ad⟩:=A.push (w:=⟨m-1,"down",m-1,"c"⟩) l o B;refine bV C (dN (by lia)) ?_;walk_at"";exact⟨_,_,rfl,ad,fV ok3 ⟨by show 0<=m-1;lia,by show m-1<m;lia,by show 0<=m-1;lia,by show m-1<m;lia,oM,pE⟩,jj L λz=>by have:m-1<=(U:Int)+(D:Int):=pr3 _ z;lia,kf (λu e=>.inl (pr3 u e)) (.inr rfl),by simp[Y];lia⟩
  .walk_at"";exact⟨_,ak,rfl,A,ok3,L,λu e=>.inl (pr3 u e),by lia⟩
 clear A ok3 L pr3 Y;rintro s H7 ⟨k,us,rfl,wl,ok,d,pr,len⟩;walk_at"";refine gL (λs H'=>∃(k:Option V) (us:List Way),s=[Vn (.int c),Vn (.int p),Vn (.ref dq),Vn (.int U),Vn (.int D),Vn (.int m),Vn (.ref f),k]/\WL H1 H' f us/\(∀u∈us,u.Ok3 m)/\us.Nodup/\us.length<=6+U+D) ?_ ?_
 .walk_at"";refine aR (af.of (wl.ext _ _ hd)) g5 ?_;walk_at"";refine gZ (λh=>?_) (λh=>?_)
  .walk_at"";refine⟨wl.ty (Ext.rfl' _),?_⟩;walk_at"";refine aO λv R o B _=>?_;walk_at"";obtain⟨xs,C,x,ad⟩:=wl.push (w:=⟨m-1,"zero",0,"b"⟩) l o B;refine bV C (dN (by lia)) ?_;walk_at"";exact⟨_,_,rfl,ad,fV ok ⟨by show 0<=m-1;lia,by show m-1<m;lia,by show(0:Int)<=0;decide,by show(0:Int)<m;lia,nA,kO⟩,jj d (λz=>(pr _ z).elim (λy=>by have:m-1<=(U:Int)+(D:Int):=y;lia) λy=>qw y),by simp;lia⟩
  .walk_at"";exact⟨_,us,rfl,wl,ok,d,by lia⟩
 clear wl ok d pr len;rintro s H8 ⟨k,us,rfl,wl,ok,d,len⟩;walk_at"";refine gL (λs H'=>∃(k:Option V) (f:Vb) (cs:List Vb) (us:List Way),s=[Vn (.int c),Vn (.int p),Vn (.ref dq),Vn (.int U),Vn (.int D),Vn (.int m),Vn (.ref f),k]/\Ext H1 H'/\H' f=Vn (.lst (cs.map V.ref))/\aZ H' cs us/\(∀u∈us,u.Ok3 m)/\us.Nodup/\us.length<=6+U+D) ?_ ?_
 .walk_at"";refine aR (af.of (wl.ext _ _ hd)) g6 ?_;walk_at"";obtain⟨ew,cs,M,al⟩:=wl;refine gZ (λh=>?_) (λh=>?_)
  .walk_at"";refine⟨rfl,wm (af.of M) (cA λr H9 e9 be _=>?_)⟩;walk_at"";exact⟨_,r,cs.reverse,us.reverse,rfl,ew.trans e9,by rw[be,List.map_reverse],(al.ext e9).rev,λu e=>ok u (List.mem_reverse.mp e),List.pairwise_reverse.mpr (d.imp λh=>HQ h),by rw[Hz];lia⟩
  .walk_at"";exact⟨_,f,cs,us,rfl,ew,M,al,ok,d,by lia⟩
 clear wl ok d len;rintro s H9 ⟨k,g,cs,us,rfl,ew,M,al,ok,d,len⟩;walk_at"";refine lU (af.of M) (cA λr I1 i1 bg _=>?_);walk_at"";refine aO λt I2 i2 ht _=>?_;exact q _ m us I2 (eH.trans (ew.trans (i1.trans i2))) (bq.mk ht (((al.ext i1).ways bg).ext i2)) ⟨by lia,by lia,by lia,ok,d⟩
inductive uA(K:FX)(vs:List V)(H:Hp)(Q:VK)(E:XK):Prop|mk:∀c p,vs=[.int c,.int p]->0<p->(∀v m ws H',Ext H H'->bq H' v m ws->HOuse3 m ws->Q v H')->uA K vs H Q E
def C9(T:Bu w mg base):Cal P w K mg base "_law_house" 4 ["_law_cell_here","_law_prime"] (uA K):=by
 refine(bK T.d__law_house).oS ["_law_cell_here","_law_prime","_law_kind","_law_left"] λa nd H vs Q E h=>?_;obtain⟨c,p,rfl,d,q⟩:=h;refine⟨_,(av (aG (i:=2) nd rfl oi (ay (aQ K) (aF (kU T) a (ao (pv 0) (ao (bF (ao ae aa)) (ao (pv 1) aa)))) ae (λ_ _=>rfl)))
   (av (aG (i:=3) nd rfl oi (aF (zS T) a (ao (pv 0) (ao ae aa))))
   (av (bH (aU bY (pv 2) ae (aT _)) (az (aL (aF (y8 T) a (ao (pv 3) (ao (pv 1) aa))))) a8)
   (av (bH (aU bY (pv 2) ae (aT _)) (az (aL (aF (E3 T) a (ao (pv 3) (ao (pv 1) aa))))) a8)
   (az (aL (aF (Cb T) a (ao (pv 3) (ao (pv 1) aa))))))))),?_⟩
 walk_at"";refine aO λs u j f _=>?_;walk_at"";refine lB [8] f (by decide) (by decide) (d) λdq ds H1 l hd n o hb=>?_;have g:Ext H H1:=j.trans l;obtain⟨x,r,_⟩:=dD o hb 0 rfl;walk_at"";refine aR (af.of hd) r ?_;walk_at"";refine⟨c,8,rfl,by decide,by decide,λz=>?_⟩;walk_at"";refine gZ (λh=>?_) (λh=>?_)
 .walk_at"";exact⟨z,p,rfl,d,λv m ws H' e b ok=>q v m ws H' (g.trans e) b ok⟩
 .walk_at"";refine gZ (λh=>?_) (λh=>?_)
  .walk_at"";exact⟨z,p,rfl,d,λv m ws H' e b ok=>q v m ws H' (g.trans e) b ok⟩
  .walk_at"";exact⟨z,p,rfl,d,λv m ws H' e b ok=>q v m ws H' (g.trans e) b ok⟩
def ky{a b:Vm}:decide (V.str a=V.str b)=decide (a=b):=by
 by_cases h:a=b
 .simp
 .rw[GY h,GY (λz=>h (V.str.inj z))]
def cy{a b:Vm}(h:Q (.bl (decide (a=b))) H):mR (.str a) (.str b) H Q:=⟨rfl,by rw[ky];exact h⟩
def Dw{a b:Vm}(h:Q (.bl (!decide (a=b))) H):mj (.str a) (.str b) H Q:=⟨rfl,by rw[ky];exact h⟩
def cn{F:α->β->Prop}{cs:List α}{ts:List β}(h:Paired F cs ts):∀{i:Nat} {c},cs[i]?=Vn c->∃t,ts[i]?=Vn t/\F c t:=by
 induction h with
 | nil=>intro i c e;simp at e
 | cons h t a=>
  intro i c e;cases i with
  | zero=>cases e;exact⟨_,rfl,h⟩
  | succ i=>exact a e
def nE{F:α->β->Prop}{cs:List α}{ts:List β}(h:Paired F cs ts):∀{i:Nat} {t},ts[i]?=Vn t->∃c,cs[i]?=Vn c/\F c t:=by
 induction h with
 | nil=>intro i c e;simp at e
 | cons h t a=>
  intro i c e;cases i with
  | zero=>cases e;exact⟨_,rfl,h⟩
  | succ i=>exact a e
abbrev aw(H:Hp)(a:Vb)(x:Bfs.Pl):Prop:=H a=Vn (.tup [.int x.1,.int x.2])
abbrev aK(x:Bfs.Pl):List Key:=[.inl x.1,.inl x.2]
def jx(h:aK x=aK y):x=y:=by simp only[aK,List.cons.injEq,Sum.inl.injEq,and_true]at h;exact IG h.1 h.2
def aw.put{f a:Vb}{o o':HO}(b:H f=Vn o)(c:∀xs,o≠.tup xs)(h:aw H a x):aw (upd H f o') a x:=by show upd H f o' a=_;rw[aA (bA h b (λz=>c _ z.symm))];exact h
def bO(m:Int)(x:Bfs.Pl):Prop:=0<=x.1/\x.1<m/\0<=x.2/\x.2<=1000
inductive si(K:FX)(vs:List V)(H:Hp)(Q:VK)(E:XK):Prop|mk:∀a b m l as xs,vs=[.ref a,.ref l]->H a=Vn (.tup [.int m,b])->H l=Vn (.lst (A0 V.ref as))->Paired (aw H) as xs->(∀x∈xs,bO m x)->Q .non H->si K vs H Q E
theorem uJ(T:Bu w mg base):Cal P w K mg base "refuse_bad_places" 3 ["house","places"] (si K):=by
 obtain⟨c,a⟩:=T.g_GREATEST_NUMBER;refine(bK T.d_refuse_bad_places).oS ["house","places","place"] λn nd H vs Q E h=>?_;obtain⟨g,r,m,l,as,xs,rfl,h1,h2,j,hin,q⟩:=h;refine⟨_,(av (bJ B2 rfl (bW K (pv 1)) (aN (i:=2) nd rfl oi) (az (bH (PW.pt (eQ (dR (cj (aF (nU T) n (ao (ay (aD K) (pv 2) ae (λ_ _=>rfl)) (ao (ay (aD K) (pv 0) ae (λ_ _=>rfl)) aa))))) (fZ (aU fJ (ay (aD K) (pv 2) ae (λ_ _=>rfl)) ae (aT _))))) (az iZ) a8)))
   (az (bJ B2 rfl (bW K (pv 1)) (aN (i:=2) nd rfl oi) (az (bH (aU fX (ay (aD K) (pv 2) ae (λ_ _=>rfl)) (jz (v:=.int 1000) rfl a ⟨_,rfl⟩) (aT _)) (az iZ) a8))))),?_⟩
 walk_at"";refine bX (af.of h2) ?_;refine forL (xs:=A0 V.ref as) (λi σ H'=>H'=H/\∃k,σ=[Vn (.ref g),Vn (.ref l),k]) ⟨rfl,Vo,rfl⟩ (λi σ H' _ h=>by rw[h.1];exact af.of h2) ?_ ?_
 .rintro i x σ H' e ⟨rfl,k,rfl⟩;rw[F3]at e;obtain⟨b,hb,rfl⟩:=Ge.mp e;obtain⟨t,f,d⟩:=cn j hb;obtain⟨r0,r1,o,p⟩:=hin t (Ga f);walk_at"";refine aB (ax.of d) (v:=.int t.1) rfl ?_;walk_at"";refine aB (ax.of h1) (v:=.int m) rfl ?_;walk_at"";refine⟨_,_,rfl,r0,r1,?_⟩;walk_at"";refine aC ?_;walk_at"";refine aB (ax.of d) (v:=.int t.2) rfl ?_;walk_at"";rw[GY (show ¬t.2<0 by lia)];refine aC ?_;walk_at"";exact⟨rfl,_,rfl⟩
 .rintro σ H' ⟨rfl,k,rfl⟩;walk_at"";refine bX (af.of h2) ?_;refine forL (xs:=A0 V.ref as) (λi σ H2=>H2=H'/\∃k,σ=[Vn (.ref g),Vn (.ref l),k]) ⟨rfl,_,rfl⟩ (λi σ H2 _ h=>by rw[h.1];exact af.of h2) ?_ ?_
  .rintro i x σ H2 e ⟨rfl,k,rfl⟩;rw[F3]at e;obtain⟨b,hb,rfl⟩:=Ge.mp e;obtain⟨t,f,d⟩:=cn j hb;obtain⟨r0,r1,o,p⟩:=hin t (Ga f);walk_at"";refine aB (ax.of d) (v:=.int t.2) rfl ?_;walk_at"";rw[GY (show ¬(1000:Int)<t.2 by lia)];refine aC ?_;walk_at"";exact⟨rfl,_,rfl⟩
  .rintro σ H2 ⟨rfl,k,rfl⟩;walk_at"";exact q
def cw(w:Way)(r n:Int):Bool:=decide (w.room=r) && (if decide (w.deed = "down")=true then decide (0<n)else(!decide (w.deed = "zero") || decide (n=0)))
inductive uT(K:FX)(vs:List V)(H:Hp)(Q:VK)(E:XK):Prop|mk:∀b w p x,vs=[.ref b,.ref p]->H b=Vn (.tup (Way.vs w))->aw H p x->Q (.bl (cw w x.1 x.2)) H->uT K vs H Q E
def mI(T:Bu w mg base):Cal P w K mg base "is_open" 1 ["way","place"] (uT K):=by
 refine(bK T.d_is_open).oS ["way","place"] λd nd H vs Q E h=>?_;obtain⟨b,w,p,⟨r,n⟩,rfl,h1,h2,q⟩:=h;refine⟨_,(av (bH (aU gH (ay (aD K) (pv 0) ae (λ_ _=>rfl)) (ay (aD K) (pv 1) ae (λ_ _=>rfl)) (aT _)) (az (aL b9)) a8)
   (av (bH (aU bY (ay (aD K) (pv 0) ae (λ_ _=>rfl)) bf (aT _)) (az (aL (fU fX (ay (aD K) (pv 1) ae (λ_ _=>rfl)) ae (aT _)))) a8)
   (az (aL (pN (fU gH (ay (aD K) (pv 0) ae (λ_ _=>rfl)) bf (aT _)) (eL (fU bY (ay (aD K) (pv 1) ae (λ_ _=>rfl)) ae (aT _)))))))),?_⟩
 walk_at"";refine aB (ax.of h1) rfl ?_;walk_at"";refine aB (ax.of h2) rfl ?_;walk_at"";unfold cw at q;dsimp only at q;by_cases e:w.room=r
 .rw[GZ e];refine aC ?_;walk_at"";rw[GZ e,Bool.true_and]at q;refine aB (ax.of h1) (v:=.str w.deed) rfl ?_;walk_at"";refine cy ?_;refine rd_exb ?_;cases a:decide (w.deed = "down")with
  | true=>
   rw[a]at q;refine aI ?_;walk_at"";refine aB (ax.of h2) (v:=.int n) rfl ?_;walk_at"";exact q
  | false=>
   rw[a]at q;refine aC ?_;walk_at"";refine aB (ax.of h1) (v:=.str w.deed) rfl ?_;walk_at"";refine Dw ?_;refine rd_exb ?_;cases c:decide (w.deed = "zero")with
   | true=>
    rw[c]at q;refine aC ?_;walk_at"";refine aB (ax.of h2) (v:=.int n) rfl ?_;walk_at"";exact q
   | false=>
    rw[c]at q;exact aI q
 .rw[GY e];refine aI ?_;walk_at"";rw[GY e,Bool.false_and]at q;exact q
def C1{K:FX}{a:Vb}{b c d e f g i j:Tok}(h:K.lookup a=Vn (jy w [("up",b,.int 1 c),("down",d,.int (-1) e),("stay",f,.int 0 g),("zero",i,.int 0 j)] ep))(hs:(a == sysModules)=false):GDict w K a pJ:=
 ⟨⟨_,_,h,.cons ⟨rfl,⟨_,rfl⟩⟩ (.cons ⟨rfl,⟨_,rfl⟩⟩ (.cons ⟨rfl,⟨_,rfl⟩⟩ (.cons ⟨rfl,⟨_,rfl⟩⟩ .nil)))⟩,by decide +kernel,hs⟩
def rz(z:Vm):Int:=if z = "up" then 1 else if z = "down" then -1 else 0
def FC{z:Vm}(h:cD z):aX pJ (.inr z)=Vn (.int (rz z)):=by rcases h with rfl|rfl|rfl|rfl<;>decide +kernel
inductive ub(K:FX)(vs:List V)(H:Hp)(Q:VK)(E:XK):Prop|mk:∀b w,vs=[.ref b]->H b=Vn (.tup (Way.vs w))->cD w.deed->Q (.int (rz w.deed)) H->ub K vs H Q E
def zh(T:Bu w mg base):Cal P w K mg base "raised_by" 1 ["way"] (ub K):=by obtain⟨d,a,c⟩:=T.h_RAISED;refine(cI T.d_raised_by).oS ["way"] λe nd H vs Q E h=>?_;obtain⟨b,w,rfl,h1,hd,q⟩:=h;refine⟨_,(az (aL (Es rfl a c (ay (aD K) (pv 0) ae (λ_ _=>rfl)) (λ_ _=>rfl)))),?_⟩;walk_at"";refine aB (ax.of h1) rfl ?_;exact BG (FC hd) q
def pI(z):-1<=rz z:=by
 unfold rz;split
 .decide
 .split<;>decide
def mX(z):rz z<=1:=by
 unfold rz;split
 .decide
 .split<;>decide
inductive rg(K:FX)(vs:List V)(H:Hp)(Q:VK)(E:XK):Prop|mk:∀b w p x,vs=[.ref b,.ref p]->H b=Vn (.tup (Way.vs w))->cD w.deed->aw H p x->(∀t H',Ext H H'->aw H' t (w.other,x.2+rz w.deed)->H t=Vo->Q (.ref t) H')->rg K vs H Q E
def lx(T:Bu w mg base):Cal P w K mg base "led_to" 2 ["way","place"] (rg K):=by refine(bK T.d_led_to).oS ["way","place"] λc nd H vs Q E h=>?_;obtain⟨b,w,p,⟨r,n⟩,rfl,h1,hd,h2,q⟩:=h;refine⟨_,(az (aL (bz (ao (ay (aD K) (pv 0) ae (λ_ _=>rfl)) (ao (aH bp (ay (aD K) (pv 1) ae (λ_ _=>rfl)) (aF (zh T) c (ao (pv 0) aa))) aa))))),?_⟩;walk_at"";refine aB (ax.of h1) rfl ?_;walk_at"";refine aB (ax.of h2) rfl ?_;walk_at"";refine⟨b,w,rfl,h1,hd,?_⟩;walk_at"";refine aO λt H1 d e a=>?_;exact q t H1 d e a
def qQ{K:FX}{a:Vb}{g:TG}(Pv:Nat->St->Hp->Prop)(c:Pv 0 σ H)(d:∀i σ H,i<=xs.length->Pv i σ H->ax K H a xs)
  (hs:∀i u σ H p H',xs[i]?=Vn u->Pv i σ H->Ext H H'->H' p=Vn (.tup [.int i,u])->H p=Vo->g (.ref p) σ H' λb H2=>tb { D with nx:=Pv (i+1),ct:=Pv (i+1),bk:=D.nx } b H2) (hd:∀σ H,Pv xs.length σ H->D.nx σ H) :
  iL (iY K a) g tb D σ H:=Be Pv c d hs hd
def cN(z:Vm)(n:Int):Option Int:=
 if decide (z = "up")=true then Vn (n+1)else if decide (z = "down")=true then(if decide (0<n)=true then Vn (n-1)else Vo)else if decide (z = "stay")=true then Vn n else if decide (z = "zero")=true then(if decide (n=0)=true then Vn n else Vo)else Vo
def fK(w:Way)(r n:Int)(j:Nat):List (Int×Int×Int):=if decide (w.room=r)=true then((cN w.deed n).map λa=>((j:Int),w.other,a)).toList else[]
def dh(ws:List Way)(r n:Int):Nat->List (Int×Int×Int)
 | 0=>[]
 | k+1=>dh ws r n k++((ws[k]?).map λw=>fK w r n k).getD []
def AU{n:Int}{w:Way}(h:ws[i]?=Vn w):dh ws r n (i+1)=dh ws r n i++fK w r n i:=by show _++((ws[i]?).map λw=>fK w r n i).getD []=_;rw[h];rfl
def Am(w)(r n)(j):(fK w r n j).length<=1:=by
 unfold fK;split
 .cases cN w.deed n<;>simp
 .simp
theorem pq(ws:List Way)(r n:Int):∀k,(dh ws r n k).length<=k
 | 0=>Gn _
 | k+1=>by
  have:=pq ws r n k;show(dh ws r n k++((ws[k]?).map λw=>fK w r n k).getD []).length<=k+1;cases h:ws[k]? with
  | none=>simp;lia
  | some w=>
   have:=Am w r n k;simp;lia
def tm{w:Way}{n:Int}(h:w.room≠r):fK w r n j=[]:=by unfold fK;rw[GY h];rfl
def gX{w:Way}{n:Int}{o:Option Int}(h:w.room=r)(hs:cN w.deed n=o):fK w r n j=(o.map λa=>((j:Int),w.other,a)).toList:=by unfold fK;rw[GZ h,hs];rfl
def dX(H:Hp)(c:Vb)(t:Int×Int×Int):Prop:=∃d,H c=Vn (.tup [.int t.1,.ref d])/\H d=Vn (.tup [.int t.2.1,.int t.2.2])
def ug(f:∀c t,dX H c t->dX H' c t){cs:List Vb}(h:Paired (dX H) cs ts):Paired (dX H') cs ts:=by
 induction h with
 | nil=>exact .nil
 | cons h t a=>exact .cons (f _ _ h) a
def FI{cs:List Vb}(h:Paired (dX H) cs ts)(a:dX H c t):Paired (dX H) (cs++[c]) (ts++[t]):=by
 induction h with
 | nil=>exact .cons a .nil
 | cons h _ b=>exact .cons h b
def dX.ext(e:Ext H H')(h:dX H c t):dX H' c t:=by obtain⟨d,h1,h2⟩:=h;exact⟨d,e _ _ h1,e _ _ h2⟩
def dX.put{f:Vb}{ys:List V}(a:H f=Vn (.lst xs))(h:dX H c t):dX (upd H f (.lst ys)) c t:=by obtain⟨d,h1,h2⟩:=h;exact⟨d,by rw[aA (bA h1 a (by intro z;cases z))];exact h1,by rw[aA (bA h2 a (by intro z;cases z))];exact h2⟩
structure BL(H0 H:Hp)(f:Vb)(ts:List (Int×Int×Int)):Prop where
 ext:Ext H0 H
 at_:∃cs:List Vb,H f=Vn (.lst (cs.map V.ref))/\Paired (dX H) cs ts
def BL.push{f d:Vb}{j o n:Int}(h:BL H0 H f ts)(hfn:H0 f=Vo)(e:Ext H H1)(hd:H1 d=Vn (.tup [.int o,.int n]))(b:H1 c=Vn (.tup [.int j,.ref d])):
  ∃xs,H1 f=Vn (.lst xs)/\xs.length=ts.length/\BL H0 (upd H1 f (.lst (xs++[.ref c]))) f (ts++[(j,o,n)]):=by
 obtain⟨g,cs,i,al⟩:=h;have a:=e _ _ i;have l:dX H1 c (j,o,n):=⟨d,b,hd⟩;refine⟨cs.map V.ref,a,by rw[F1];exact G9 al,b6 (g.trans e) hfn,cs++[c],by rw[aE,Gj];rfl,FI (ug (λ_ _ z=>(z.ext e).put a) al) (l.put a)⟩
def BL.ty{K:FX}{f:Vb}(h:BL H0 H f ts)(e:Ext H H1):iC K "list" (.ref f) H1:=by obtain⟨_,cs,a,al⟩:=h;exact cH (af.of (e _ _ a))
def BL.step{f:Vb}(h:BL H0 H f ts)(e:Ext H H1):BL H0 H1 f ts:=by obtain⟨a,cs,b,al⟩:=h;exact⟨a.trans e,cs,e _ _ b,ug (λ_ _ z=>z.ext e) al⟩
def xF:decide ((GJ "up")=GJ "down")=false:=by decide +kernel
def Dp:decide ((GJ "up")=GJ "stay")=false:=by decide +kernel
def qP:decide ((GJ "up")=GJ "zero")=false:=by decide +kernel
def vw:decide ((GJ "down")=GJ "up")=false:=by decide +kernel
def r6:decide ((GJ "down")=GJ "stay")=false:=by decide +kernel
def vF:decide ((GJ "down")=GJ "zero")=false:=by decide +kernel
def qY:decide ((GJ "stay")=GJ "up")=false:=by decide +kernel
def pw:decide ((GJ "stay")=GJ "down")=false:=by decide +kernel
def rL:decide ((GJ "zero")=GJ "up")=false:=by decide +kernel
def oU:decide ((GJ "zero")=GJ "down")=false:=by decide +kernel
def vS:decide ((GJ "zero")=GJ "stay")=false:=by decide +kernel
def gg(z:Vm):decide (z=z)=true:=GZ rfl
def kq(n):cN "up" n=Vn (n+1):=by rfl
def jc(n):cN "down" n=if decide (0<n)=true then Vn (n-1)else Vo:=by rfl
def kN(n):cN "stay" n=Vn n:=by rfl
def iE(n):cN "zero" n=if decide (n=0)=true then Vn n else Vo:=by rfl
inductive wU(K:FX)(vs:List V)(H:Hp)(Q:VK)(E:XK):Prop|mk:∀v m ws p r n,vs=[v,.ref p]->bq H v m ws->HOuse m ws->H p=Vn (.tup [.int r,.int n])->(∀l H' cs,Ext H H'->H l=Vo->H' l=Vn (.lst (A0 V.ref cs))->Paired (dX H') cs (dh ws r n ws.length)->Q (.ref l) H')->wU K vs H Q E
theorem Ed(T:Bu w mg base):Cal P w K mg base "_law_behind" 1 ["_law_house_here","_law_place_here"] (wU K):=by
 refine(bK T.d__law_behind).oS ["_law_house_here","_law_place_here","_law_found","_law_k","_law_room","_law_deed","_law_other","_law_sign"] λhr nd H vs Q E h=>?_;obtain⟨v,m,ws,p,r,n,rfl,⟨X,t,rfl,Y,Z⟩,ok,hp,q⟩:=h;obtain⟨bs,R,al⟩:=cq.al Z;have S:=ok.few;refine⟨_,(av (aG (i:=2) nd rfl oi (bF aa))
   (av (bJ B2 rfl (rC K rfl T.enumerate_ (ao (ay (aD K) (pv 0) ae (λ_ _=>rfl)) aa)) (ee (n:=2) K rfl (bG (aN (i:=3) nd rfl oi) (bG (ee (n:=4) K rfl (bG (aN (i:=4) nd rfl oi) (bG (aN (i:=5) nd rfl oi) (bG (aN (i:=6) nd rfl oi) (bG (aN (i:=7) nd rfl oi) dY))))) dY))) (az (cK (aU bY (pv 4) (ay (aD K) (pv 1) ae (λ_ _=>rfl)) (aT _)) (av (cK (aU bY (pv 5) bf (aT _)) (az (br (bP K F8 Gp Gq bZ (pv 2) (ao (bz (ao (pv 3) (ao (bz (ao (pv 6) (ao (aH bp (ay (aD K) (pv 1) ae (λ_ _=>rfl)) ae) aa))) aa))) aa)))) a8)
   (av (cK (PW.pt (gQ (aU bY (pv 5) bf (aT _)) (iG (aU fX (ay (aD K) (pv 1) ae (λ_ _=>rfl)) ae (aT _))))) (az (br (bP K F8 Gp Gq bZ (pv 2) (ao (bz (ao (pv 3) (ao (bz (ao (pv 6) (ao (aH dU (ay (aD K) (pv 1) ae (λ_ _=>rfl)) ae) aa))) aa))) aa)))) a8)
   (az (cK (PW.pt (eQ (aU bY (pv 5) bf (aT _)) (fZ (PW.pt (gQ (aU bY (pv 5) bf (aT _)) (iG (aU bY (ay (aD K) (pv 1) ae (λ_ _=>rfl)) ae (aT _)))))))) (az (br (bP K F8 Gp Gq bZ (pv 2) (ao (bz (ao (pv 3) (ao (bz (ao (pv 6) (ao (ay (aD K) (pv 1) ae (λ_ _=>rfl)) aa))) aa))) aa)))) a8)))) a8)))
   (az (aL (pv 2))))),?_⟩
 walk_at"";refine aO λf H1 G hf hfn=>?_;walk_at"";refine aB (ax.of (G _ _ Y)) (v:=.ref t) rfl ?_;walk_at"";refine sX (ax.of (G _ _ R)) ?_;refine qQ (xs:=bs.map V.ref) (λi σ H'=>∃k1 k2 k3 I k5,σ=[Vn (.ref X),Vn (.ref p),Vn (.ref f),k1,k2,k3,I,k5]/\BL H H' f (dh ws r n i)) ⟨Vo,Vo,Vo,Vo,Vo,rfl,G,[],hf,.nil⟩ (λi σ H' _ h=>by obtain⟨_,_,_,_,_,_,bl⟩:=h;exact ax.of (bl.ext _ _ R)) ?_ ?_
 .rintro i u σ H2 pp H3 U ⟨k1,k2,k3,I,k5,rfl,C⟩ e3 J _;rw[F3]at U;obtain⟨b,hb,rfl⟩:=Ge.mp U;have hi:i<ws.length:=by rw[<-al.1];exact(F9.mp hb).1
  have s:ws[i]?=Vn ws[i]:=F2 hi;have bl:=C.step e3;have W:=bl.ext _ _ (al.2 i b _ hb s);have g:=bl.ext _ _ hp;have F:=(ok.ok _ (Gv hi)).dd;rw[AU s];have hlen:=pq ws r n i;generalize dh ws r n i=ts at bl hlen;clear C s;generalize ws[i]=w at W F ⊢;obtain⟨room,deed,other,sign⟩:=w;refine dZ (ax.of J) rfl ?_;walk_at"";refine dZ (ax.of W) rfl ?_;walk_at"";refine cE ?_;walk_at"";refine aB (ax.of g) (v:=.int r) rfl ?_;walk_at"";by_cases l:room=r
  rotate_left
  .rw[GY l];refine aC ?_;walk_at"";refine⟨_,_,_,_,_,rfl,?_⟩;rw[tm l,HW];exact bl
  .rw[GZ l];refine aI ?_;rcases F with e|e|e|e<;>(simp only at e;subst e)
   .rw[gX l (kq n)];walk_at"";refine cE ?_;walk_at"";refine cy ?_;rw[gg];refine rd_exb (aI ?_);walk_at"";refine⟨bl.ty (Ext.rfl' _),?_⟩;walk_at"";refine aB (ax.of g) (v:=.int n) rfl ?_;walk_at"";refine aO λd L x hd _=>?_;walk_at"";refine aO λc y j z _=>?_;walk_at"";obtain⟨xs,A,B,a⟩:=bl.push hfn (x.trans j) (j _ _ hd) z;refine bV A (dN (by lia)) ?_;generalize upd y f _=M at a ⊢;walk_at"";refine cE ?_;walk_at"";refine cy ?_;rw[xF];refine rd_exb (aC ?_);refine aC ?_;walk_at"";refine cE ?_;walk_at"";refine cy ?_;rw[Dp];refine rd_exb (aC ?_);walk_at"";refine cy ?_;rw[qP];refine rd_exb (aC ?_);refine aC ?_;walk_at"";exact⟨_,_,_,_,_,rfl,a⟩
   .walk_at"";refine cE ?_;walk_at"";refine cy ?_;rw[vw];refine rd_exb (aC ?_);walk_at"";refine cE ?_;walk_at"";refine cy ?_;rw[gg];refine rd_exb (aI ?_);walk_at"";refine aB (ax.of g) (v:=.int n) rfl ?_;walk_at"";by_cases o:0<n
    .rw[GZ o];refine aI ?_;walk_at"";refine⟨bl.ty (Ext.rfl' _),?_⟩;walk_at"";refine aB (ax.of g) (v:=.int n) rfl ?_;walk_at"";refine aO λd L x hd _=>?_;walk_at"";refine aO λc y j z _=>?_;walk_at"";obtain⟨xs,A,B,a⟩:=bl.push hfn (x.trans j) (j _ _ hd) z;refine bV A (dN (by lia)) ?_;generalize upd y f _=M at a ⊢;walk_at"";refine cE ?_;walk_at"";refine cy ?_;rw[r6];refine rd_exb (aC ?_);walk_at"";refine cy ?_;rw[vF];refine rd_exb (aC ?_);refine aC ?_;walk_at"";refine⟨_,_,_,_,_,rfl,?_⟩;rw[gX l (jc n),GZ o];exact a
    .rw[GY o];refine aC ?_;walk_at"";refine cE ?_;walk_at"";refine cy ?_;rw[r6];refine rd_exb (aC ?_);walk_at"";refine cy ?_;rw[vF];refine rd_exb (aC ?_);refine aC ?_;walk_at"";refine⟨_,_,_,_,_,rfl,?_⟩;rw[gX l (jc n),GY o];simpa using bl
   .walk_at"";refine cE ?_;walk_at"";refine cy ?_;rw[qY];refine rd_exb (aC ?_);walk_at"";refine cE ?_;walk_at"";refine cy ?_;rw[pw];refine rd_exb (aC ?_);refine aC ?_;walk_at"";refine cE ?_;walk_at"";refine cy ?_;rw[gg];refine rd_exb (aI ?_);refine aI ?_;walk_at"";refine⟨bl.ty (Ext.rfl' _),?_⟩;walk_at"";refine aB (ax.of g) (v:=.int n) rfl ?_;walk_at"";refine aO λd L x hd _=>?_;walk_at"";refine aO λc y j z _=>?_;walk_at"";obtain⟨xs,A,B,a⟩:=bl.push hfn (x.trans j) (j _ _ hd) z;refine bV A (dN (by lia)) ?_;generalize upd y f _=M at a ⊢;walk_at"";refine⟨_,_,_,_,_,rfl,?_⟩;rw[gX l (kN n)];exact a
   .walk_at"";refine cE ?_;walk_at"";refine cy ?_;rw[rL];refine rd_exb (aC ?_);walk_at"";refine cE ?_;walk_at"";refine cy ?_;rw[oU];refine rd_exb (aC ?_);refine aC ?_;walk_at"";refine cE ?_;walk_at"";refine cy ?_;rw[vS];refine rd_exb (aC ?_);walk_at"";refine cy ?_;rw[gg];refine rd_exb (aI ?_);walk_at"";refine aB (ax.of g) (v:=.int n) rfl ?_;walk_at"";by_cases o:n=0
    .rw[GZ o];refine aI ?_;walk_at"";refine⟨bl.ty (Ext.rfl' _),?_⟩;walk_at"";refine aB (ax.of g) (v:=.int n) rfl ?_;walk_at"";refine aO λd L x hd _=>?_;walk_at"";refine aO λc y j z _=>?_;walk_at"";obtain⟨xs,A,B,a⟩:=bl.push hfn (x.trans j) (j _ _ hd) z;refine bV A (dN (by lia)) ?_;generalize upd y f _=M at a ⊢;walk_at"";refine⟨_,_,_,_,_,rfl,?_⟩;rw[gX l (iE n),GZ o];exact a
    .rw[GY o];refine aC ?_;walk_at"";refine⟨_,_,_,_,_,rfl,?_⟩;rw[gX l (iE n),GY o];simpa using bl
 .rintro σ H' ⟨k1,k2,k3,I,k5,rfl,bl⟩;rw[F1,al.1]at bl;obtain⟨ew,cs,N,O⟩:=bl;walk_at"";exact q f H' cs ew hfn N O
def AM{α:Type}{l:List α}(b:l.Nodup){i j:Nat}{a:α}(hi:l[i]?=Vn a)(e:l[j]?=Vn a):i=j:=by
 obtain⟨h1,c⟩:=F9.mp hi;obtain⟨h2,d⟩:=F9.mp e;rcases JZ i j with z|z|z
 .exact absurd (c.trans d.symm) (Iw.mp b i j h1 h2 z)
 .exact z
 .exact absurd (d.trans c.symm) (Iw.mp b j i h2 h1 z)
def cG(ws:List Way)(r:Int)(k:Nat):List Nat:=(GX k).filter λj=>(ws[j]?).any λw=>decide (w.room=r)
def EA{w:Way}(h:ws[i]?=Vn w):cG ws r (i+1)=cG ws r i++if w.room=r then[i]else[]:=by
 unfold cG;rw[JA,Hc];congr 1;simp only[He,List.filter_nil,h,Option.any_some];by_cases e:w.room=r
 .rw[GZ e,G5 rfl,G5 e]
 .rw[GY e,G0 (by decide),G0 e]
def zy(ws)(r)(k):(cG ws r k).length<=k:=by exact GC (HJ _ _) (LK ID)
def B3{w:Way}(h:ws[j]?=Vn w)(e:w.room=r):j∈cG ws r ws.length:=by unfold cG;rw[G8,HK,h];exact⟨(F9.mp h).1,by simp[e]⟩
def m5(h:j∈cG ws r ws.length):∃w,ws[j]?=Vn w/\w.room=r:=by unfold cG at h;rw[G8,HK]at h;have e:=F2 h.1;rw[e]at h;exact⟨_,e,by simpa using h.2⟩
def dC(h:n<=24100):n<sizeLine:=IE h (by decide)
abbrev a7(l:List Nat):List V:=l.map λj:Nat=>V.int (j:Int)
def j8(l)(k):a7 (l++[k])=a7 l++[.int (k:Int)]:=Gj
structure CT(H:Hp)(c:Vb)(m:Int)(ls:List Vb)(ws:List Way)(k:Nat):Prop where
 at_:H c=Vn (.lst (A0 V.ref ls))
 len:ls.length=m.toNat
 nd:ls.Nodup
 it:∀(r:Nat) (l:Vb),ls[r]?=Vn l->H l=Vn (.lst (a7 (cG ws r k)))
def CT.ext(e:Ext H H')(h:CT H c m ls ws k):CT H' c m ls ws k:=
 ⟨e _ _ h.at_,h.len,h.nd,λr l a=>e _ _ (h.it r l a)⟩
inductive yD(K:FX)(vs:List V)(H:Hp)(Q:VK)(E:XK):Prop|mk:∀v m ws,vs=[v]->bq H v m ws->HOuse m ws->(∀c ls H',Ext H H'->CT H' c m ls ws ws.length->Q (.ref c) H')->yD K vs H Q E
theorem rS(T:Bu w mg base):Cal P w K mg base "counts_by_room" 1 ["house"] (yD K):=by
 refine(cI T.d_counts_by_room).oS ["house","counts","count","way"] λhr nd H vs Q E h=>?_;obtain⟨v,m,ws,rfl,⟨hh,t,rfl,U,g2⟩,ok,q⟩:=h;obtain⟨bs,W,al⟩:=cq.al g2;have X:=ok.few;have m1:=ok.m1;have m2:=ok.m12;refine⟨_,(av (di (i:=1) ["room"] [] nd rfl oi (cX rfl T.range_ (ao (ay (aD K) (pv 0) ae (λ_ _=>rfl)) aa)) (λ_=>(aN (i:=0) (show(["room"]:List Vm).Nodup from by decide +kernel) rfl oi oj)) (λ_=>dn) (λ_=>(bF aa)))
   (av (bJ B2 rfl (rC K rfl T.enumerate_ (ao (ay (aD K) (pv 0) ae (λ_ _=>rfl)) aa)) (ee (n:=2) K rfl (bG (aN (i:=2) nd rfl oi) (bG (aN (i:=3) nd rfl oi) dY))) (az (br (bP K F8 Gp Gq bZ (ay (aQ K) (pv 1) (ay (aD K) (pv 3) ae (λ_ _=>rfl)) (λ_ _=>rfl)) (ao (pv 2) aa)))))
   (az (aL (pv 1))))),?_⟩
 walk_at"";refine aB (ax.of U) (v:=.int m) rfl ?_;walk_at"";refine cU ⟨by lia,by lia⟩ ?_;refine f7 (λi ys H'=>Ext H H'/\∃ls:List Vb,ys=A0 V.ref ls/\ls.length=i/\ls.Nodup/\∀l∈ls,H' l=Vn (.lst [])/\H l=Vo) (eS (by lia)) ⟨Ext.rfl' _,[],rfl,rfl,IF,λl h=>by cases h⟩ (λi ys H' _ h=>by obtain⟨_,ls,rfl,f,_⟩:=h;rw[F1,f];exact Gn _) ?_ ?_
 .rintro i ys H' hi ⟨e,ls,rfl,f,j,hls⟩;walk_at"";refine aI ?_;walk_at"";refine aO λl H1 Y N o=>?_;refine⟨e.trans Y,ls++[l],by rw[Gj];rfl,by rw[Gk,f];rfl,?_,?_⟩
  .rw[HP];refine⟨j,by simp,λa ha b hb z=>?_⟩;have:b=l:=by simpa using hb
   subst this;subst z;rw[(hls a ha).1]at o;cases o
  .intro a ha;rcases Gr.mp ha with z|z
   .exact⟨Y _ _ (hls a z).1,(hls a z).2⟩
   .have:a=l:=by simpa using z
    subst this;exact⟨N,e.none o⟩
 .rintro ys H1 c ⟨e,ls,rfl,f,j,hls⟩ J;walk_at"";have L:Ext H (upd H1 c (.lst (A0 V.ref ls))):=e.trans (bh J);have a0:H c=Vo:=e.none J;have B:CT (upd H1 c (.lst (A0 V.ref ls))) c m ls ws 0:=⟨aE,f,j,λr l f=>by have:=(hls l (Ga f)).1;rw[aA (cx this J)];exact this⟩
  have hcl:∀l∈ls,H l=Vo:=λl h=>(hls l h).2;generalize upd H1 c (.lst (A0 V.ref ls))=H2 at L B ⊢;clear hls J e H1;refine aB (ax.of (L _ _ U)) (v:=.ref t) rfl ?_;walk_at"";refine sX (ax.of (L _ _ W)) ?_;refine qQ (xs:=bs.map V.ref) (λi σ H'=>∃k1 k2,σ=[Vn (.ref hh),Vn (.ref c),k1,k2]/\Ext H H'/\CT H' c m ls ws i) ⟨Vo,Vo,rfl,L,B⟩ (λi σ H' _ h=>by obtain⟨_,_,_,e,_⟩:=h;exact ax.of (e _ _ W)) ?_ ?_
  .rintro i u σ H3 pp H4 Z ⟨k1,k2,rfl,O,C⟩ e4 R _;rw[F3]at Z;obtain⟨b,hb,rfl⟩:=Ge.mp Z;have hi:i<ws.length:=by rw[<-al.1];exact(F9.mp hb).1
   have p:ws[i]?=Vn ws[i]:=F2 hi;have F:=O.trans e4;have ct:=C.ext e4;have s:=ok.ok _ (Gv hi);have hw:=F _ _ (al.2 i b _ hb p);have G:=λr:Nat=>EA (r:=(r:Int)) p;clear C;generalize ws[i]=w at hw s G p;have r0:=s.r0;have r1:=s.r1;have S:w.room.toNat<ls.length:=by rw[ct.len];lia
   have d:ls[w.room.toNat]?=Vn ls[w.room.toNat]:=F2 S;generalize ls[w.room.toNat]=l at d;have f:=ct.it _ _ d;have hlen:=zy ws (w.room.toNat:Nat) i;refine dZ (ax.of R) rfl ?_;walk_at"";refine aB (ax.of hw) (v:=.int w.room) rfl ?_;refine aR (af.of ct.at_) (v:=.ref l) ?_ ?_
   .refine eO r0 ?_;rw[F3,d];rfl
   refine⟨cH (af.of f),?_⟩;walk_at"";refine bV f (dN (by rw[F1];lia)) ?_;have lc:l≠c:=bA f ct.at_ (λz=>by
    have M:=HO.lst.inj z;have A:=congrArg Lo M;cases I:cG ws (w.room.toNat:Nat) i with
    | nil=>
     rw[I]at A;rw[F1,F1]at A;have:ls.length=0:=A.symm;lia
    | cons a r=>
     rw[I]at M;cases ls with
     | nil=>cases M
     | cons x y=>cases(List.cons.inj M).1)
   walk_at"";refine⟨_,_,rfl,b6 F (hcl l (Ga d)),?_⟩;refine⟨by rw[aA lc.symm];exact ct.at_,ct.len,ct.nd,λr l' g=>?_⟩;rw[G r];by_cases er:r=w.room.toNat
   .subst er;rw[d]at g;cases g;rw[aE,G5 (by lia),j8]
   .have nl:l'≠l:=λz=>er (by subst z;exact AM ct.nd g d)
    rw[aA nl,G0 (by lia),HW];exact ct.it r l' g
  .rintro σ H' ⟨k1,k2,rfl,O,ct⟩;rw[F1,al.1]at ct;walk_at"";exact q c ls H' O ct
def cc(m:Int)(x g:Bfs.Pl):Int:=(if g.2>x.2 then g.2 else x.2)+m*m
inductive rB(K:FX)(vs:List V)(H:Hp)(Q:VK)(E:XK):Prop|mk:∀v m ws a b x g,vs=[v,.ref a,.ref b]->bq H v m ws->HOuse m ws->aw H a x->aw H b g->Q (.int (cc m x g)) H->rB K vs H Q E
def zR(T:Bu w mg base):Cal P w K mg base "greatest_met" 1 ["house","place","goal"] (rB K):=by
 refine(dw T.d_greatest_met).oS ["house","place","goal"] λf nd H vs Q E h=>?_;obtain⟨v,m,ws,a,b,x,g,rfl,⟨i,t,rfl,c,j⟩,ok,d,e,q⟩:=h;have m1:=ok.m1;have l:=ok.m12;refine⟨_,(az (aL (aH bp (bx (yt rfl) rfl T.max_ IK (ao (ay (aD K) (pv 1) ae (λ_ _=>rfl)) (ao (ay (aD K) (pv 2) ae (λ_ _=>rfl)) aa))) (aH fC (ay (aD K) (pv 0) ae (λ_ _=>rfl)) (ay (aD K) (pv 0) ae (λ_ _=>rfl)))))),?_⟩;walk_at"";refine aB (ax.of d) rfl ?_;walk_at"";refine aB (ax.of e) rfl ?_;walk_at"";refine aB (ax.of c) rfl ?_;walk_at"";refine aB (ax.of c) rfl ?_;walk_at""
 walk_at"";exact q
def aM(ws:List Way)(T:Int)(x:Bfs.Pl)(k:Nat):Option Bfs.Pl:=
 (ws[k]?).bind λw=>if w.room=x.1 then(cN w.deed x.2).bind λn=>if n<=T then Vn (w.other,n)else Vo else Vo
def jQ:rz "up" = 1:=by decide +kernel
def lj:rz "down" = -1:=by decide +kernel
def lI:rz "stay" = 0:=by decide +kernel
def o7:rz "zero" = 0:=by decide +kernel
theorem m9{z:Vm}{n a:Int}(b:cD z)(h:cN z n=Vn a):a=n+rz z:=by
 rcases b with e|e|e|e<;>rw[e]at h ⊢
 .cases h;rfl
 .rw[jc]at h;rw[lj];split at h
  .cases h;lia
  .cases h
 .rw[lI];cases h;lia
 .rw[iE]at h;rw[o7];split at h
  .cases h;lia
  .cases h
def mZ{w:Way}(a:cD w.deed)(x:Bfs.Pl):cw w x.1 x.2=true↔w.room=x.1/\cN w.deed x.2=Vn (x.2+rz w.deed):=by
 unfold cw;rcases a with e|e|e|e<;>rw[e]
 .rw[xF,qP,kq,jQ];simp
 .rw[gg,jc,lj];by_cases h:0<x.2
  .rw[GZ h];simp[Int.sub_eq_add_neg]
  .rw[GY h];simp
 .rw[pw,GY (show ¬(GJ "stay")=GJ "zero" by decide +kernel),kN,lI];simp
 .rw[oU,gg,iE,o7];by_cases h:x.2=0
  .simp
  .simp
def xn{w:Way}(h:ws[k]?=Vn w)(a:cD w.deed)(ho:cw w x.1 x.2=true)(b:x.2+rz w.deed<=T):aM ws T x k=Vn (w.other,x.2+rz w.deed):=by obtain⟨h1,h2⟩:=(mZ a x).mp ho;unfold aM;rw[h,Gz,G5 h1,h2,Gz,G5 b]
def iJ(h:aM ws T x k=Vn y):∃w,ws[k]?=Vn w/\w.room=x.1/\cN w.deed x.2=Vn y.2/\y.1=w.other/\y.2<=T:=by
 obtain⟨w,a,h⟩:=IV.mp h;split at h
 .rename_i hr;obtain⟨n,b,h⟩:=IV.mp h;split at h
  .rename_i ht;cases h;exact⟨w,a,hr,b,rfl,ht⟩
  .cases h
 .cases h
def pY{w:Way}(d:ws[k]?=Vn w)(b:cD w.deed)(h:aM ws T x k=Vn y):cw w x.1 x.2=true/\y=(w.other,x.2+rz w.deed)/\x.2+rz w.deed<=T:=by obtain⟨g,a,f,hs,ho,c⟩:=iJ h;rw[d]at a;cases a;have e:=m9 b hs;rw[e]at c hs;exact⟨(mZ b x).mpr ⟨f,hs⟩,IG ho e,c⟩
theorem w8{z:Vm}{n a:Int}(c:cD z)(b:0<=n)(h:cN z n=Vn a):0<=a:=by
 rcases c with e|e|e|e<;>rw[e]at h
 .cases h;lia
 .rw[jc]at h;split at h
  .rename_i g;have:=of_decide_eq_true g;cases h;lia
  .cases h
 .cases h;exact b
 .rw[iE]at h;split at h
  .cases h;exact b
  .cases h
def ir(H:Hp)(v:V):Option (Bfs.Pl×Nat)->Prop
 | none=>v=.non
 | some (p,k)=>∃a b,v=.ref a/\H a=Vn (.tup [.ref b,.int (k:Int)])/\aw H b p
def ir.ext(e:Ext H H'){o:Option (Bfs.Pl×Nat)}(h:ir H v o):ir H' v o:=by
 cases o with
 | none=>exact h
 | some d=>
  obtain⟨a,b,h1,h2,c⟩:=h;exact⟨a,b,h1,e _ _ h2,e _ _ c⟩
theorem ir.put{H:Hp}{f:Vb}{u u':HO}(c:H f=Vn u)(d:∀xs,u≠.tup xs){v:V}{o:Option (Bfs.Pl×Nat)}(h:ir H v o):ir (upd H f u') v o:=by
 cases o with
 | none=>exact h
 | some g=>
  obtain⟨a,b,h1,h2,e⟩:=h;exact⟨a,b,h1,by rw[aA (bA h2 c (λz=>d _ z.symm))];exact h2,aw.put c d e⟩
abbrev oD(H:Hp)(kv:List Key×V)(e:Bfs.Ent):Prop:=kv.1=aK e.1/\ir H kv.2 e.2.2
abbrev Cq(H:Hp)(a:Vb)(e:Bfs.Ent):Prop:=aw H a e.1
section
variable {β:Type} {F:List Key×V->β->Prop} {key:β->Bfs.Pl} {kvs:List (List Key×V)} {q:List β}
def fP(d:∀kv e,F kv e->kv.1=aK (key e))(h:Paired F kvs q)(c:x∉q.map key):aX kvs (aK x)=Vo:=by
 induction h with
 | nil=>rfl
 | @cons a b as bs h t f=>
  rw[Hr,Gh,not_or]at c;rw[eR (λz=>c.1 (jx (z.symm.trans (d _ _ h))))];exact f c.2
def eZ(c:∀kv e,F kv e->kv.1=aK (key e))(h:Paired F kvs q)(nd:(q.map key).Nodup)(d:e∈q):∃v,aX kvs (aK (key e))=Vn v/\F (aK (key e),v) e:=by
 induction h with
 | nil=>cases d
 | @cons a b as bs h t g=>
  rw[Hr,Hs]at nd;rcases Gh.mp d with z|z
  .subst z;have f:=c _ _ h;refine⟨a.2,fj f,?_⟩;rw[<-f];exact h
  .obtain⟨v,h1,h2⟩:=g nd.2 z;refine⟨v,?_,h2⟩;rw[eR (λw=>nd.1 ?_)]
   .exact h1
   .rw[jx ((c _ _ h).symm.trans w)];exact G6.mpr ⟨e,z,rfl⟩
end
structure FF(H0 H:Hp)(f rw:Vb)(q:List Bfs.Ent):Prop where
 ext:Ext H0 H
 fn:H0 f=Vo
 rn:H0 rw=Vo
 d:∃kvs,H f=Vn (.dT kvs)/\Paired (oD H) kvs q
 r:∃as,H rw=Vn (.lst (A0 V.ref as))/\Paired (Cq H) as q
def FF.step{f rw:Vb}{q:List Bfs.Ent}(h:FF H0 H f rw q)(e:Ext H H1):FF H0 H1 f rw q:=by obtain⟨h1,h2,a,⟨kvs,b,c⟩,as,d,g⟩:=h;exact⟨h1.trans e,h2,a,⟨kvs,e _ _ b,Paired.mapP c λ_ _ z=>⟨z.1,z.2.ext e⟩⟩,as,e _ _ d,Paired.mapP g λ_ _ z=>e _ _ z⟩
def FF.push{f rw th t b:Vb}{q:List Bfs.Ent}{p:Bfs.Pl}{k:Nat}(h:FF H0 H f rw q)(o:y∉q.map (·.1))(i:aw H th y)(hb:aw H b p)(r:H t=Vn (.tup [.ref b,.int (k:Int)])):
  ∃kvs,H f=Vn (.dT kvs)/\kvs.length=q.length/\∃as,upd H f (.dT (putK kvs (aK y) (.ref t))) rw=Vn (.lst (A0 V.ref as))/\as.length=q.length ∧
   FF H0 (upd (upd H f (.dT (putK kvs (aK y) (.ref t)))) rw (.lst (A0 V.ref as++[.ref th]))) f rw (q++[(y,d,Vn (p,k))]):=by
 obtain⟨h1,h2,l,⟨kvs,c,j⟩,as,m,n⟩:=h;have e:∀xs,(HO.dT kvs)≠.tup xs:=λxs z=>by cases z
 have g:∀xs,(HO.lst (A0 V.ref as))≠.tup xs:=λxs z=>by cases z
 have ne:rw≠f:=bA m c (by intro z;cases z);have a:upd H f (.dT (putK kvs (aK y) (.ref t))) rw=Vn (.lst (A0 V.ref as)):=by rw[aA ne];exact m
 have vp:ir H (.ref t) (Vn (p,k)):=⟨t,b,rfl,r,hb⟩;refine⟨kvs,c,G9 j,as,a,G9 n,b6 (b6 h1 h2) l,h2,l,⟨kvs++[(aK y,.ref t)],?_,?_⟩,as++[th],?_,?_⟩
 .rw[aA ne.symm,aE,jI _ (fP (λ_ _ z=>z.1) j o)]
 .exact IT (Paired.mapP j λ_ _ z=>⟨z.1,(z.2.put c e).put a g⟩) ⟨rfl,(vp.put c e).put a g⟩
 .rw[aE,Gj];rfl
 .exact IT (Paired.mapP n λ_ _ z=>aw.put a g (aw.put c e z)) (aw.put a g (aw.put c e i))
def bL(m T:Int)(x:Bfs.Pl):Prop:=0<=x.1/\x.1<m/\0<=x.2/\x.2<=T
theorem bL.few{l:List Bfs.Pl}(i:m<=12)(e:T<=2000)(f:l.Nodup)(h:∀x∈l,bL m T x):l.length<=24012:=
 Bfs.EY e f λx g=>by obtain⟨a,b,c,d⟩:=h x g;exact⟨a,by lia,c,d⟩
def nQ(ok:HOuse m ws)(b:0<=x.2)(h:aM ws T x k=Vn y):bL m T y:=by obtain⟨w,c,e,hs,ho,d⟩:=iJ h;have a:=ok.ok w (Ga c);exact⟨by rw[ho];exact a.o0,by rw[ho];exact a.o1,w8 a.dd b hs,d⟩
def rT(H1:Hp)(ws:List Way)(m T:Int)(x:Bfs.Pl)(v:V)(pa ga c f rw:Vb)(M:Nat)(σ:St)(H':Hp):Prop:=
 ∃q i B k1 k2 k3 a,σ=[Vn v,Vn (.ref pa),Vn (.ref ga),Vn (.int T),Vn (.ref c),Vn (.ref f),Vn (.ref rw),Vn (.int ((i:Nat):Int)),k1,k2,k3,a]/\FF H1 H' f rw q/\Bfs.QI (aM ws T) x q i B/\(∀e∈q,bL m T e.1)/\i<=q.length/\M+i=24013
def Cn(H1:Hp)(ws:List Way)(T:Int)(x g:Bfs.Pl)(v:V)(pa ga c f rw:Vb)(σ:St)(H':Hp):Prop:=
 ∃q i B k0 k1 k2 k3 a,σ=[Vn v,Vn (.ref pa),Vn (.ref ga),Vn (.int T),Vn (.ref c),Vn (.ref f),Vn (.ref rw),k0,k1,k2,k3,a]/\FF H1 H' f rw q/\Bfs.QI (aM ws T) x q i B/\q.length<=24012/\(i=q.length\/g∈q.map (·.1))
def CJ(H1:Hp)(ws:List Way)(m T:Int)(x:Bfs.Pl)(v:V)(pa ga c f rw b:Vb)(i:Nat)(h:Bfs.Ent)(ks:List Nat)(j:Nat)(σ:St)(H':Hp):Prop:=
 ∃q k1 k2 k3,σ=[Vn v,Vn (.ref pa),Vn (.ref ga),Vn (.int T),Vn (.ref c),Vn (.ref f),Vn (.ref rw),Vn (.int ((i:Nat):Int)),Vn (.ref b),k1,k2,k3]/\FF H1 H' f rw q/\Bfs.QF (nx:=aM ws T) (s:=x) q (i-1) h ks j/\(∀e∈q,bL m T e.1)/\aw H' b h.1
theorem AZ(b:0<=m)(a:m<=12)(c:x.2<=1000)(d:g.2<=1012):cc m x g<=2000:=by unfold cc;have:m*m<=12*12:=Int.mul_le_mul a a b (by decide);split<;>lia
theorem nN(a:0<=m):x.2<=cc m x g/\g.2<=cc m x g:=by unfold cc;have:0<=m*m:=Gy a a;split<;>constructor<;>lia
inductive u7(K:FX)(vs:List V)(H:Hp)(Q:VK)(E:XK):Prop|mk:∀v m ws a ga x g,vs=[v,.ref a,.ref ga]->bq H v m ws->HOuse m ws->aw H a x->aw H ga g->bO m x->g.2<=1012->(∀f H' kvs q i B,Ext H H'->H' f=Vn (.dT kvs)->Paired (oD H') kvs q->Bfs.QI (aM ws (cc m x g)) x q i B->q.length<=24012->(i=q.length\/g∈q.map (·.1))->Q (.ref f) H')->u7 K vs H Q E
theorem Ay(T:Bu w mg base):Cal P w K mg base "found_from" 3 ["house","place","goal"] (u7 K):=by
 refine(dw T.d_found_from).oS ["house","place","goal","greatest","counts","found","row","looked","here","count","way","there"] λs nd H vs Q E h=>?_;obtain⟨v,m,ws,pa,ga,x,g,rfl,hv,ok,hx,hg,ix,ig,q⟩:=h;have m1:=ok.m1;have m2:=ok.m12;have bb:=ok.few;have hT:=AZ (m:=m) (x:=x) (g:=g) (by lia) m2 ix.2.2.2 ig;have a5:=(nN (m:=m) (x:=x) (g:=g) (by lia)).1;refine⟨_,(av (aG (i:=3) nd rfl oi (aF (zR T) s (ao (pv 0) (ao (pv 1) (ao (pv 2) aa)))))
   (av (aG (i:=4) nd rfl oi (aF (rS T) s (ao (pv 0) aa)))
   (av (aG (i:=5) nd rfl oi (wx (bB s) (pv 1) i8))
   (av (aG (i:=6) nd rfl oi (bF (ao (pv 1) aa)))
   (av (aG (i:=7) nd rfl oi ae)
   (av (fE B2 (PW.pt (gQ (aU fJ (pv 7) (bx (cL K) rfl T.len_ HR (ao (pv 6) aa)) (aT _)) (iG (g7 (iQ (bB s) (pv 2) (pv 5)) (by with_unfolding_all rfl))))) (av (aG (i:=8) nd rfl oi (ay (aQ K) (pv 6) (pv 7) (λ_ _=>rfl)))
   (av (kF (i:=7) nd rfl oi ae kY)
   (az (bJ B2 rfl (bW K (ay (aQ K) (pv 4) (ay (aD K) (pv 8) ae (λ_ _=>rfl)) (λ_ _=>rfl))) (aN (i:=9) nd rfl oi) (av (aG (i:=10) nd rfl oi (ay (aD K) (ay (aD K) (pv 0) ae (λ_ _=>rfl)) (pv 9) (λ_ _=>rfl)))
   (av (aG (i:=11) nd rfl oi (aF (lx T) s (ao (pv 10) (ao (pv 8) aa))))
   (az (cK (PW.pt (gQ (cj (aF (mI T) s (ao (pv 10) (ao (pv 8) aa)))) (gQ (aU jm (ay (aD K) (pv 11) ae (λ_ _=>rfl)) (pv 3) (aT _)) (iG (g7 (iQ (bB s) (pv 11) (pv 5)) (by with_unfolding_all rfl)))))) (av (gE (bB s) (pv 5) (pv 11) (bz (ao (pv 8) (ao (pv 9) aa))) rfl)
   (az (br (bP K F8 Gp Gq bZ (pv 6) (ao (pv 11) aa))))) a8)))))))))
   (az (aL (pv 5))))))))),?_⟩
 walk_at"";refine⟨v,m,ws,pa,ga,x,g,rfl,hv,ok,hx,hg,?_⟩;generalize cc m x g=T at q hT a5 ⊢;walk_at"";refine⟨v,m,ws,rfl,hv,ok,λc ls H1 e1 ct=>?_⟩;walk_at"";refine λf hfn=>?_;walk_at"";refine⟨pa,aK x,rfl,(bh hfn) _ _ (e1 _ _ hx),aE,?_⟩;walk_at"";refine aO λrw H3 e3 a6 a9=>?_;walk_at"";have L:Ext H1 (upd (upd H1 f (.dT [])) f (.dT [(aK x,.non)])):=λb o hb=>by rw[aA (cx hb hfn),aA (cx hb hfn)];exact hb
 have Z:H1 rw=Vo:=L.none a9;have ab:H3 f=Vn (.dT [(aK x,.non)]):=e3 _ _ aE;have ac:FF H1 H3 f rw [(x,0,Vo)]:=⟨L.trans e3,hfn,Z,⟨_,ab,.cons ⟨rfl,rfl⟩ .nil⟩,[pa],a6,.cons (e3 _ _ (L _ _ (e1 _ _ hx))) .nil⟩;refine fF (rT H1 ws m T x v pa ga c f rw) (Cn H1 ws T x g v pa ga c f rw) 24013 ⟨[(x,0,Vo)],0,0,_,_,_,_,rfl,ac,Bfs.QI.begin _ _,?_,by simp,rfl⟩ ?_ ?_
 .intro e I;rw[Gb]at I;subst I;exact⟨ix.1,ix.2.1,ix.2.2.1,a5⟩
 .clear ac ab Z L a6 a9 e3;rintro M σ H4 ⟨N,i,B,k1,k2,k3,k4,rfl,n,qi,hin,hi,hM⟩;have A:N.length<=24012:=by
   have:=bL.few m2 hT qi.nd (λy C=>by obtain⟨e,I,rfl⟩:=G6.mp C;exact hin e I)
   rwa [F1]at this
  obtain⟨kvs,hd,O⟩:=n.d;obtain⟨as,s,pr⟩:=n.r;have R:=G9 pr;have ad:aw H4 ga g:=n.ext _ _ (e1 _ _ hg);walk_at"";refine dM (af.of s) ?_;walk_at"";by_cases hlt:i<N.length
  rotate_left
  .rw[GY (show ¬((i:Nat):Int)<((A0 V.ref as).length:Nat) by rw[F1,R];lia)];refine aC ?_;refine aC ?_;exact⟨N,i,B,_,_,_,_,_,rfl,n,qi,A,.inl (by lia)⟩
  .rw[GZ (show((i:Nat):Int)<((A0 V.ref as).length:Nat) by rw[F1,R];lia)];refine aI ?_;walk_at"";refine⟨f,_,rfl,bC.t hd (k:=aK g) ad,?_⟩;by_cases S:g∈N.map (·.1)
   .obtain⟨e,I,rfl⟩:=G6.mp S;obtain⟨v1,U,_⟩:=eZ (λ_ _ z=>z.1) O qi.nd I;rw[U];refine rd_exb (aC ?_);exact⟨N,i,B,_,_,_,_,_,rfl,n,qi,A,.inr S⟩
   .rw[fP (λ_ _ z=>z.1) O S];refine rd_exb (aI ?_);refine⟨λam H'=>∃m',m'<M/\rT H1 ws m T x v pa ga c f rw m' am H',λ_ _ h=>h,?_⟩;have J:=F2 hlt;generalize N[i]=a at J;obtain⟨b,hb,p⟩:=nE pr J;have W:=qi.look J (cG ws a.1.1 ws.length);have an:=hin a (Ga J);obtain⟨ap,bg,aq,bi⟩:=an;clear qi S ad pr R O hd;walk_at"";refine aR (af.of s) (cO (v:=.ref b) (by rw[F3,hb];rfl)) ?_;walk_at"";refine aB (ax.of p) (v:=.int a.1.1) rfl ?_;walk_at"";have ar:=ct.ext n.ext;have au:a.1.1.toNat<ls.length:=by rw[ct.len];lia
    have a0:ls[a.1.1.toNat]?=Vn ls[a.1.1.toNat]:=F2 au;generalize ls[a.1.1.toNat]=l at a0;have a1:=ct.it _ _ a0;rw[show ((a.1.1.toNat:Nat):Int)=a.1.1 by lia]at a1;refine aR (af.of ar.at_) (v:=.ref l) (eO ap (by rw[F3,a0];rfl)) ?_;refine bX (af.of (n.ext _ _ a1)) ?_;obtain⟨hp,ht,rfl,g1,g2⟩:=hv.ext e1;obtain⟨bs,g3,al⟩:=cq.al g2;refine forL (xs:=a7 (cG ws a.1.1 ws.length)) (CJ H1 ws m T x (.ref hp) pa ga c f rw b (i+1) a (cG ws a.1.1 ws.length)) ?_ (λj σ H' _ h=>?_) ?_ ?_
    .exact⟨N,k2,k3,k4,rfl,n,W,hin,p⟩
    .obtain⟨_,_,_,_,_,b0,_⟩:=h;exact af.of (b0.ext _ _ a1)
    .clear W n p s J hlt A hin;rintro j u σ H5 hu ⟨q5,c1,c2,c3,rfl,n,W,hin,p⟩;rw[F3]at hu;obtain⟨k,hk,rfl⟩:=Ge.mp hu;obtain⟨w,hw,b1⟩:=m5 (Ga hk);have X:=ok.ok w (Ga hw);have b2:k<bs.length:=by rw[al.1];exact(F9.mp hw).1
     have a2:=F2 b2;generalize bs[k]=bk at a2;have ah:=al.2 k bk w a2 hw;have A:q5.length<=24012:=by
      have:=bL.few m2 hT W.nd (λy C=>by obtain⟨e,I,rfl⟩:=G6.mp C;exact hin e I)
      rwa [F1]at this
     walk_at"";refine aB (ax.of (n.ext _ _ g1)) (v:=.ref ht) rfl ?_;walk_at"";refine aB (ax.of (n.ext _ _ g3)) (v:=.ref bk) (cO (by rw[F3,a2];rfl)) ?_;walk_at"";refine⟨bk,w,b,a.1,rfl,n.ext _ _ ah,X.dd,p,λth H6 e6 Y bc=>?_⟩;have F:=n.step e6;have G:aw H6 b a.1:=e6 _ _ p;clear n p;walk_at"";refine cE ?_;walk_at"";refine⟨bk,w,b,a.1,rfl,F.ext _ _ ah,G,?_⟩;refine rd_exb ?_;cases ho:cw w a.1.1 a.1.2 with
     | false=>
      refine aC ?_;refine aC ?_;walk_at"";exact⟨q5,_,_,_,rfl,F,W.skip hk (λy C=>by rw[(pY hw X.dd C).1]at ho;cases ho),hin,G⟩
     | true=>
      refine aI ?_;walk_at"";refine aB (ax.of Y) (v:=.int (a.1.2+rz w.deed)) rfl ?_;walk_at"";by_cases hle:a.1.2+rz w.deed<=T
      rotate_left
      .rw[GY hle];refine aC ?_;refine aC ?_;walk_at"";exact⟨q5,_,_,_,rfl,F,W.skip hk (λy C=>absurd (pY hw X.dd C).2.2 hle),hin,G⟩
      .rw[GZ hle];refine aI ?_;walk_at"";have C:=xn (T:=T) hw X.dd ho hle;obtain⟨kvs,hd,O⟩:=F.d;refine⟨f,_,rfl,bC.t hd (k:=aK (w.other,a.1.2+rz w.deed)) Y,?_⟩;by_cases hnew:(w.other,a.1.2+rz w.deed)∈q5.map (·.1)
       .obtain⟨e,I,b4⟩:=G6.mp hnew;obtain⟨v1,U,_⟩:=eZ (λ_ _ z=>z.1) O W.nd I;rw[b4]at U;rw[U];refine rd_exb (aC ?_);walk_at"";exact⟨q5,_,_,_,rfl,F,W.skip hk (λy ai=>by rw[C]at ai;cases ai;exact hnew),hin,G⟩
       .rw[fP (λ_ _ z=>z.1) O hnew];refine rd_exb (aI ?_);clear O hd;walk_at"";refine aO λt H7 e7 b5 _=>?_;walk_at"";obtain⟨kvs,hd,bl,as,a3,R,b7⟩:=(F.step e7).push (d:=a.2.1+1) hnew (e7 _ _ Y) (e7 _ _ G) b5;have b8:=aw.put (o':=.lst (A0 V.ref as++[.ref th])) a3 (λxs z=>by cases z) (aw.put (o':=.dT (putK kvs (aK (w.other,a.1.2+rz w.deed)) (.ref t))) hd (λxs z=>by cases z) (e7 _ _ G));refine⟨f,_,rfl,dz.t hd (k:=aK (w.other,a.1.2+rz w.deed)) (e7 _ _ Y) (dC (by lia)),?_⟩;walk_at"";refine⟨cH (af.of a3),?_⟩;walk_at"";refine bV a3 (dC (by rw[F1];lia)) ?_;refine⟨_,_,_,_,rfl,b7,W.add hk C hnew,?_,b8⟩;intro e I;rcases Gr.mp I with z|z
        .exact hin e z
        .rw[Gb]at z;subst z;exact nQ ok aq C
    .rintro σ H5 ⟨q5,c1,c2,c3,rfl,ba,a4,aj,be⟩;rw[F1]at a4;refine⟨M-1,by lia,q5,i+1,a.2.1,_,_,_,_,rfl,ba,a4.next (λk y C=>?_),aj,?_,by lia⟩
     .obtain⟨w,hw,s,_⟩:=iJ C;exact B3 hw s
     .have:=(F9.mp a4.at_).1;lia
 .rintro σ H4 ⟨N,i,B,k0,k1,k2,k3,k4,rfl,n,qi,A,ak⟩;obtain⟨kvs,hd,O⟩:=n.d;walk_at"";exact q f H4 kvs N i B (e1.trans n.ext) hd O qi A ak
inductive wu(K:FX)(vs:List V)(H:Hp)(Q:VK)(E:XK):Prop|mk:∀(f ga:Vb) (kvs:List (List Key×V)) (q:List Bfs.Ent) (nx:Bfs.Pl->Nat->Option Bfs.Pl) (s:Bfs.Pl) (i B:Nat) (e:Bfs.Ent),vs=[.ref f,.ref ga]->H f=Vn (.dT kvs)->Paired (oD H) kvs q->Bfs.QI nx s q i B->aw H ga e.1->e∈q->e.2.1<=24012->(∀l H' ks,Ext H H'->H' l=Vn (.lst (a7 ks))->H l=Vo->ks.length=e.2.1->Bfs.gone (nx:=nx) s ks=Vn e.1->Q (.ref l) H')->wu K vs H Q E
def sQ(H:Hp)(f ga l:Vb)(q:List Bfs.Ent)(nx:Bfs.Pl->Nat->Option Bfs.Pl)(e:Bfs.Ent)(M:Nat)(σ:St)(H':Hp):Prop:=
 ∃v u ks,σ=[Vn (.ref f),Vn (.ref ga),Vn (.ref l),Vn v]/\Ext H H'/\H' l=Vn (.lst (a7 ks))/\u∈q/\ir H' v u.2.2/\u.2.1=M/\ks.length+M=e.2.1/\Bfs.gone (nx:=nx) u.1 ks.reverse=Vn e.1
theorem BR(T:Bu w mg base):Cal P w K mg base "walk_back" 1 ["found","goal"] (wu K):=by
 refine(bK T.d_walk_back).oS ["found","goal","walk","step"] λx nd H vs Q E h=>?_;obtain⟨f,ga,kvs,q,nx,s,i,B,e,rfl,C,X,F,hg,Y,hle,qq⟩:=h;refine⟨_,(av (aG (i:=2) nd rfl oi (bF aa))
   (av (aG (i:=3) nd rfl oi (c7 (bB x) (pv 0) (pv 1) (λ_ _=>rfl)))
   (av (fE B2 (aU nM (pv 3) i8 (aT _)) (av (br (bP K F8 Gp Gq bZ (pv 2) (ao (ay (aD K) (pv 3) ae (λ_ _=>rfl)) aa)))
   (az (aG (i:=3) nd rfl oi (c7 (bB x) (pv 0) (ay (aD K) (pv 3) ae (λ_ _=>rfl)) (λ_ _=>rfl))))))
   (az (aL (E9 K rfl rfl T.list_ rfl T.reversed_ (pv 2))))))),?_⟩
 walk_at"";refine aO λl H1 y hl G=>?_;walk_at"";obtain⟨Z,I,_,J⟩:=eZ (λ_ _ z=>z.1) X F.nd Y;refine⟨f,Z,rfl,by rw[<-I];exact bC.t (y _ _ C) (k:=aK e.1) (y _ _ hg),?_⟩;walk_at"";refine fF (sQ H f ga l q nx e) (λσ H'=>∃v ks,σ=[some (.ref f),some (.ref ga),some (.ref l),some v]/\Ext H H'/\H' l=some (.lst (a7 ks))/\ks.length=e.2.1/\Bfs.gone (nx:=nx) s ks.reverse=some e.1) e.2.1 ⟨Z,e,[],rfl,y,hl,Y,J.ext y,rfl,by simp,rfl⟩ ?_ ?_
 .rintro M σ A ⟨v,u,ks,rfl,m,c,hu,g,hM,n,j⟩;walk_at"";rcases F.par u hu with⟨p1,p2,p3⟩|⟨p,k,d,o,p1,p2,p3,p4⟩
  .rw[p1]at g;obtain rfl:v=.non:=g;refine⟨rfl,?_⟩;refine rd_exb (aC ?_);exact⟨_,ks,rfl,m,c,by lia,by rw[<-p2];exact j⟩
  .rw[p1]at g;obtain⟨a,b,rfl,ha,hb⟩:=g;refine⟨rfl,?_⟩;rw[GY (show ¬(V.ref a=V.non) by intro z;cases z)];refine rd_exb (aI ?_);refine⟨λL H'=>∃m',m'<M/\sQ H f ga l q nx e m' L H',λ_ _ h=>h,?_⟩;walk_at"";refine⟨cH (af.of c),?_⟩;walk_at"";refine aB (ax.of ha) (v:=.int (k:Int)) rfl ?_;walk_at"";refine bV c (dC (by rw[F1];lia)) ?_;walk_at"";have nl:∀xs,(HO.lst (a7 ks))≠.tup xs:=λxs z=>by cases z
   have N:upd A l (.lst (a7 ks++[.int (k:Int)])) a=Vn (.tup [.ref b,.int (k:Int)]):=by rw[aA (bA ha c (by intro z;cases z))];exact ha
   have O:=aw.put (o':=.lst (a7 ks++[.int (k:Int)])) c nl hb;refine aB (ax.of N) (v:=.ref b) rfl ?_;obtain⟨v1,R,_,S⟩:=eZ (λ_ _ z=>z.1) X F.nd p4;have U:upd A l (.lst (a7 ks++[.int (k:Int)])) f=Vn (.dT kvs):=by rw[aA (bA (m _ _ C) c (by intro z;cases z))];exact m _ _ C
   have eH:Ext H (upd A l (.lst (a7 ks++[.int (k:Int)]))):=b6 m G;refine⟨f,v1,rfl,by rw[<-R];exact bC.t U (k:=aK p) O,?_⟩;walk_at"";refine⟨d,by lia,v1,(p,d,o),ks++[k],rfl,eH,by rw[aE,j8],p4,S.ext eH,rfl,by rw[Gk];simp;lia,?_⟩;rw[MB];show(nx p k).bind _=_;rw[p2];exact j
 .rintro σ A ⟨v,ks,rfl,m,c,n,j⟩;walk_at"";refine wm (af.of c) (cA λr H5 e5 x W=>?_);refine qq r H5 ks.reverse (m.trans e5) ?_ (m.none W) (by rw[Hz];exact n) j;rw[x,<-List.map_reverse]
inductive uP(K:FX)(vs:List V)(H:Hp)(Q:VK)(E:XK):Prop|mk:∀v m ws a ga x g,vs=[v,.ref a,.ref ga]->bq H v m ws->HOuse m ws->aw H a x->aw H ga g->bO m x->g.2<=1012->((∀n,¬Bfs.cF (aM ws (cc m x g)) x n g)->∀H',Ext H H'->Q .non H')->(∀n l H' ks,Bfs.cF (aM ws (cc m x g)) x n g->n<=24012->Ext H H'->H l=Vo->H' l=Vn (.lst (a7 ks))->ks.length=n->Bfs.gone (nx:=aM ws (cc m x g)) x ks=Vn g->Q (.ref l) H')->uP K vs H Q E
def og(T:Bu w mg base):Cal P w K mg base "sought_walk" 4 ["house","place","goal"] (uP K):=by
 refine(dw T.d_sought_walk).oS ["house","place","goal","found"] λp nd H vs Q E h=>?_;obtain⟨v,m,ws,L,ga,x,g,rfl,M,ok,N,r,O,R,G,I⟩:=h;refine⟨_,(av (aG (i:=3) nd rfl oi (aF (Ay T) p (ao (pv 0) (ao (pv 1) (ao (pv 2) aa)))))
   (av (bH (g7 (iQ (bB p) (pv 2) (pv 3)) (by with_unfolding_all rfl)) (az (aL i8)) a8)
   (az (aL (aF (BR T) p (ao (pv 3) (ao (pv 2) aa))))))),?_⟩
 walk_at"";refine⟨v,m,ws,L,ga,x,g,rfl,M,ok,N,r,O,R,λf H1 kvs q i B c J s b u d=>?_⟩;generalize cc m x g=T at G I b;walk_at"";refine⟨f,_,rfl,bC.t J (k:=aK g) (c _ _ r),?_⟩;by_cases a:g∈q.map (·.1)
 .obtain⟨e,o,rfl⟩:=G6.mp a;obtain⟨W,y,_⟩:=eZ (λ_ _ z=>z.1) s b.nd o;rw[y];refine rd_exb (aC ?_);walk_at"";have hd:=b.dist o;have j:e.2.1<=24012:=GC (b.deep o) u;refine⟨f,ga,kvs,q,aM ws T,x,i,B,e,rfl,J,s,b,c _ _ r,o,j,λl H2 ks S U A C F=>?_⟩;exact I _ l H2 ks hd j (c.trans S) (c.none A) U C F
 .rw[fP (λ_ _ z=>z.1) s a];refine rd_exb (aI ?_);walk_at"";refine G (λn=>?_) H1 c;rcases d with h|h
  .subst h;exact b.done a n
  .exact absurd h a
theorem tu{ws:List Way}{r n:Int}{t:Int×Int×Int}:∀{k:Nat},t∈dh ws r n k->∃j w,j<k/\ws[j]?=Vn w/\w.room=r/\cN w.deed n=Vn t.2.2/\t.1=((j:Nat):Int)/\t.2.1=w.other
 | 0,h=>by cases h
 | k+1,h=>by
  rcases Gr.mp h with z|z
  .obtain⟨j,w,h1,h2⟩:=tu z;exact⟨j,w,by lia,h2⟩
  .cases c:ws[k]? with
   | none=>rw[c]at z;cases z
   | some w=>
    rw[c]at z;have a:t∈fK w r n k:=z;by_cases b:w.room=r
    .cases hs:cN w.deed n with
     | none=>rw[gX b hs]at a;cases a
     | some d=>
      rw[gX b hs]at a;have:t=((k:Int),w.other,d):=by simpa using a
      subst this;exact⟨k,w,Jg _,c,b,hs,rfl,rfl⟩
    .rw[tm b]at a;cases a
theorem yT{ws:List Way}{r n a:Int}{w:Way}{j:Nat}(b:ws[j]?=Vn w)(c:w.room=r)(hs:cN w.deed n=Vn a):∀{k:Nat},j<k->((j:Int),w.other,a)∈dh ws r n k
 | 0,h=>absurd h (Ha _)
 | k+1,h=>by
  rcases GQ j k with l|l
  .exact GN _ (yT b c hs l)
  .have:j=k:=by lia
   subst this;refine GL _ ?_;rw[b];show _∈fK w r n j;rw[gX c hs];simp
def CA(h:aM ws T x k=Vn y):((k:Int),y.1,y.2)∈dh ws x.1 x.2 ws.length/\y.2<=T:=by obtain⟨w,a,b,hs,ho,c⟩:=iJ h;rw[ho];exact⟨yT a b hs (F9.mp a).1,c⟩
def EI(h:t∈dh ws x.1 x.2 ws.length)(a:t.2.2<=T):∃k:Nat,t.1=(k:Int)/\aM ws T x k=Vn (t.2.1,t.2.2):=by obtain⟨j,w,_,b,c,hs,h1,h2⟩:=tu h;refine⟨j,h1,?_⟩;unfold aM;rw[b,Gz,G5 c,hs,Gz,G5 a,h2]
def trail(nx:Bfs.Pl->Nat->Option Bfs.Pl):Bfs.Pl->List Nat->List Bfs.Pl
 | x,[]=>[x]
 | x,k::r=>x::((nx x k).map λy=>trail nx y r).getD []
theorem qU{nx:Bfs.Pl->Nat->Option Bfs.Pl}{y z:Bfs.Pl}{k:Nat}:∀{r:List Nat} {x:Bfs.Pl},Bfs.gone (nx:=nx) x r=Vn y->nx y k=Vn z->trail nx x (r++[k])=trail nx x r++[z]
 | [],x,h,b=>by cases h;show y::((nx y k).map λy=>trail nx y []).getD []=_;rw[b];rfl
 | a::r,x,h,b=>by
  have h':(nx x a).bind (λy=>Bfs.gone (nx:=nx) y r)=Vn y:=h;show x::((nx x a).map λy=>trail nx y (r++[k])).getD []=(x::((nx x a).map λy=>trail nx y r).getD [])++[z];cases e:nx x a with
  | none=>rw[e]at h';cases h'
  | some u=>
   rw[e]at h';show x::trail nx u (r++[k])=(x::trail nx u r)++[z];rw[qU h' b];rfl
theorem pV{nx:Bfs.Pl->Nat->Option Bfs.Pl}{y:Bfs.Pl}:∀{r:List Nat} {x:Bfs.Pl},Bfs.gone (nx:=nx) x r=Vn y->(trail nx x r).length=r.length+1
 | [],x,h=>rfl
 | a::r,x,h=>by
  have h':(nx x a).bind (λy=>Bfs.gone (nx:=nx) y r)=Vn y:=h;show(x::((nx x a).map λy=>trail nx y r).getD []).length=_;cases e:nx x a with
  | none=>rw[e]at h';cases h'
  | some u=>
   rw[e]at h';show(x::trail nx u r).length=_;rw[Gw,pV h',Gw]
structure Part(nx:Bfs.Pl->Nat->Option Bfs.Pl)(x g:Bfs.Pl)(ks:List Nat)(j:Nat)(y:Bfs.Pl):Prop where
 lo:Bfs.gone (nx:=nx) x (ks.take j)=Vn y
 hi:Bfs.gone (nx:=nx) y (ks.drop j)=Vn g
def Part.next(h:Part nx x g ks j y)(c:ks[j]?=Vn k):∃z,nx y k=Vn z/\Part nx x g ks (j+1) z/\trail nx x (ks.take (j+1))=trail nx x (ks.take j)++[z]:=by
 have a:=(F9.mp c).1;have e:ks.drop j=k::ks.drop (j+1):=by rw[Ho a];rw[F2 a]at c;cases c;rfl
 have d:=h.hi;rw[e]at d;obtain⟨z,f,d⟩:=IV.mp (show(nx y k).bind _=Vn g from d);have b:ks.take (j+1)=ks.take j++[k]:=by rw[Kr,c];rfl
 refine⟨z,f,⟨by rw[b];exact Bfs.lr h.lo f,d⟩,?_⟩;rw[b];exact qU h.lo f
inductive xw(K:FX)(vs:List V)(H:Hp)(Q:VK)(E:XK):Prop|mk:∀v m ws b x k w,vs=[v,.ref b,.int ((k:Nat):Int)]->bq H v m ws->aw H b x->ws[k]?=Vn w->Q (.bl (cw w x.1 x.2)) H->xw K vs H Q E
theorem AG(T:Bu w mg base):Cal P w K mg base "can_go" 2 ["house","place","count"] (xw K):=by
 refine(dw T.d_can_go).oS ["house","place","count"] λi nd H vs Q E h=>?_;obtain⟨v,m,ws,b,x,k,w,rfl,⟨l,t,rfl,e,j⟩,hb,f,q⟩:=h;obtain⟨bs,g,al⟩:=cq.al j;have c:k<bs.length:=by rw[al.1];exact(F9.mp f).1
 have a:=F2 c;generalize bs[k]=bk at a;have d:=al.2 k bk w a f;refine⟨_,(az (aL (fm (mH jm fJ ae (pv 2) (bx (cL K) rfl T.len_ HR (ao (ay (aD K) (pv 0) ae (λ_ _=>rfl)) aa))) (eL (aF (mI T) i (ao (ay (aD K) (ay (aD K) (pv 0) ae (λ_ _=>rfl)) (pv 2) (λ_ _=>rfl)) (ao (pv 1) aa))))))),?_⟩;walk_at"";refine aI ?_;walk_at"";refine aB (ax.of e) rfl ?_;walk_at"";refine jK (ax.of g) ?_;walk_at"";rw[GZ (show((k:Nat):Int)<(((bs.map V.ref).length:Nat):Int) by rw[F1];lia)];refine aI ?_;walk_at"";refine aB (ax.of e) (v:=.ref t) rfl ?_;walk_at"";refine aB (ax.of g) (v:=.ref bk) (cO (by rw[F3,a];rfl)) ?_;walk_at"";exact⟨bk,w,b,x,rfl,d,hb,q⟩
inductive sF(K:FX)(vs:List V)(H:Hp)(Q:VK)(E:XK):Prop|mk:∀v m ws a l U x g ks,vs=[v,.ref a,.ref l]->bq H v m ws->HOuse m ws->aw H a x->H l=Vn (.lst (a7 ks))->ks.length<=24012->Bfs.gone (nx:=aM ws U) x ks=Vn g->(∀r H' as,Ext H H'->H' r=Vn (.lst (A0 V.ref as))->Paired (aw H') as (trail (aM ws U) x ks)->Q (.ref r) H')->sF K vs H Q E
theorem D3(T:Bu w mg base):Cal P w K mg base "places_gone" 3 ["house","place","walk"] (sF K):=by
 refine(dw T.d_places_gone).oS ["house","place","walk","places","count"] λR nd H vs Q E h=>?_;obtain⟨v,m,ws,r,l,U,x,g,ks,rfl,hv,ok,S,W,a1,I,q⟩:=h;refine⟨_,(av (aG (i:=3) nd rfl oi (bF (ao (pv 1) aa)))
   (av (bJ B2 rfl (bW K (pv 2)) (aN (i:=4) nd rfl oi) (av (bH (dR (cj (aF (AG T) R (ao (pv 0) (ao (ay (aQ K) (pv 3) (eX fh ae) (λ_ _=>rfl)) (ao (pv 4) aa)))))) (az (aL (pv 3))) a8)
   (az (br (bP K F8 Gp Gq bZ (pv 3) (ao (aF (lx T) R (ao (ay (aD K) (ay (aD K) (pv 0) ae (λ_ _=>rfl)) (pv 4) (λ_ _=>rfl)) (ao (ay (aQ K) (pv 3) (eX fh ae) (λ_ _=>rfl)) aa))) aa))))))
   (az (aL (pv 3))))),?_⟩
 walk_at"";refine aO λf H1 F hf hfn=>?_;walk_at"";refine bX (af.of (F _ _ W)) ?_;refine forL (xs:=a7 ks) (λj σ H'=>∃k1 y as a,σ=[Vn v,Vn (.ref r),Vn (.ref l),Vn (.ref f),k1]/\Ext H H'/\H' f=Vn (.lst (A0 V.ref (as++[a])))/\Paired (aw H') (as++[a]) (trail (aM ws U) x (ks.take j))/\aw H' a y/\Part (aM ws U) x g ks j y) ⟨Vo,x,[],r,rfl,F,(show H1 f=Vn (.lst (A0 V.ref ([]++[r])))from hf),(show Paired (aw H1) [r] [x]from .cons (show aw H1 r x from F _ _ S) .nil),F _ _ S,rfl,I⟩ (λj σ H' _ h=>by obtain⟨_,_,_,_,_,e,_⟩:=h;exact af.of (e _ _ W)) ?_ ?_
 .rintro j u σ H2 X ⟨k1,y,as,a,rfl,G,b,c,ha,n⟩;rw[F3]at X;obtain⟨k,Y,rfl⟩:=Ge.mp X;have a2:=(F9.mp Y).1;have s:=G9 c;rw[pV n.lo,GU]at s;obtain⟨z,Z,A,J⟩:=n.next Y;obtain⟨w,B,_⟩:=iJ Z;have C:=ok.ok w (Ga B);obtain⟨ho,L,_⟩:=pY B C.dd Z;obtain⟨hh,t,rfl,g1,g2⟩:=hv.ext G;obtain⟨bs,g3,al⟩:=cq.al g2;have M:k<bs.length:=by rw[al.1];exact(F9.mp B).1
  have o:=F2 M;generalize bs[k]=bk at o;have N:=al.2 k bk w o B;walk_at"";refine aR (af.of b) (v:=.ref a) (by rw[Gj];exact vX _ _) ?_;walk_at"";refine⟨_,m,ws,a,y,k,w,rfl,⟨hh,t,rfl,g1,g2⟩,ha,B,?_⟩;rw[ho];refine rd_exb (aC ?_);walk_at"";refine⟨cH (af.of b),?_⟩;walk_at"";refine aB (ax.of g1) (v:=.ref t) rfl ?_;walk_at"";refine aB (ax.of g3) (v:=.ref bk) (cO (by rw[F3,o];rfl)) ?_;walk_at"";refine aR (af.of b) (v:=.ref a) (by rw[Gj];exact vX _ _) ?_;walk_at"";refine⟨bk,w,a,y,rfl,N,C.dd,ha,λth H3 O p a0=>?_⟩;rw[<-L]at p;have d:=O _ _ b;walk_at"";refine bV d (dC (by rw[F1,s];lia)) ?_;walk_at"";have nl:∀xs,(HO.lst (A0 V.ref (as++[a])))≠.tup xs:=λxs z=>by cases z
  refine⟨_,z,as++[a],th,rfl,b6 (G.trans O) hfn,by rw[aE,Gj (l₁:=as++[a])];rfl,?_,aw.put d nl p,A⟩;rw[J];exact IT (Paired.mapP c λ_ _ w=>aw.put d nl (O _ _ w)) (aw.put d nl p)
 .rintro σ H2 ⟨k1,y,as,a,rfl,G,b,c,ha,n⟩;rw[F1,Gx]at c;walk_at"";exact q f H2 (as++[a]) G b c
abbrev oC(x:Bfs.Pl):PyData:=.tuple [.int x.1,.int x.2]
def uk(h:aw H b x):bo H 1 (.ref b) (oC x):=
 .inr ⟨b,_,_,rfl,.inl ⟨h,rfl⟩,.cons rfl (.cons rfl .nil)⟩
def aV(n:Nat)(f:Nat->Bool):List V:=(GX n).map λi=>V.bl (f i)
def cz(n)(f):(aV n f).length=n:=by simp[aV]
def gy(f)(h:i<n):(aV n f)[i]?=Vn (.bl (f i)):=by unfold aV;rw[F3,Jj h];rfl
def dm{g:Nat->Bool}(h:∀i,i<n->f i=g i):aV n f=aV n g:=by apply Kb;intro i hi;rw[h i (HK.mp hi)]
def jG(n)(f):aV (n+1) f=aV n f++[V.bl (f n)]:=by unfold aV;rw[JA,Gj];rfl
def jU(f)(c)(a:k<n):(aV n f).set k (.bl c)=aV n λi=>if i=k then c else f i:=by
 apply Jt;intro i;rcases GQ i n with hi|hi
 .rw[List.getElem?_set,cz,gy _ hi,gy _ hi];by_cases h:k=i
  .subst h;simp[hi]
  .rw[G0 h,G0 (HQ h)]
 .rw[Hj (by rw[KR,cz];exact hi),Hj (by rw[cz];exact hi)]
theorem fk{i:Int}(a:0<=i)(h:i<n):bT (aV n f) i=Vn (.bl (f i.toNat)):=eO a (gy f (by lia))
def o6(n)(c):(GO n [V.bl c]).flatten=aV n λ_=>c:=by
 induction n with
 | zero=>rfl
 | succ n a=>
  rw[KO,List.flatten_append,a,jG];rfl
theorem BD{i:Int}(b:0<=i)(h:i<=n):c6 (aV n f) Vo (Vn i)=aV i.toNat f:=by
 unfold c6;rw[cz,HT.mi];have e:HT.cB n n (Vn i)=i.toNat:=by show(if i<0 then(i+(n:Int)).toNat else min i.toNat n)=i.toNat;rw[G0 (by lia)];lia
 rw[e,Lx,Nat.sub_zero];apply Jt;intro k;rcases GQ k i.toNat with a|a
 .rw[Ic a,gy _ (by lia),gy _ a]
 .rw[Hj (by rw[GU,cz];lia),Hj (by rw[cz];lia)]
def Rows(H:Hp)(q:Vb)(rs:List Vb)(n:Nat)(M:Nat->Nat->Bool):Prop:=H q=Vn (.lst (rs.map V.ref))/\∀(i:Nat) (r:Vb),rs[i]?=Vn r->H r=Vn (.lst (aV n (M i)))
def Rows.ext(e:Ext H H')(h:Rows H q rs n M):Rows H' q rs n M:=⟨e _ _ h.1,λi r hi=>e _ _ (h.2 i r hi)⟩
inductive sS(K:FX)(vs:List V)(H:Hp)(Q:VK)(E:XK):Prop|mk:∀a m ws d,vs=[a,.str d]->bq H a m ws->HOuse m ws->(∀l cs us H',Ext H H'->H l=Vo->H' l=Vn (.lst (A0 V.ref cs))->aZ H' cs us->us=ws.filter (λw=>decide (w.deed=d))->Q (.ref l) H')->sS K vs H Q E
theorem lY(T:Bu w mg base):Cal P w K mg base "ways_of_deed" 1 ["house","deed"] (sS K):=by
 refine(bK T.d_ways_of_deed).oS ["house","deed"] λG nd H vs Q E h=>?_;obtain⟨I,m,ws,d,rfl,z,ok,q⟩:=h;have few:=ok.few;obtain⟨A,p,rfl,B,C⟩:=id z;obtain⟨bs,u,l⟩:=cq.al C;have r:=l.1;refine⟨_,(@az _ _ _ (@aL _ _ _ _ (eo ["way"] [1] (jH K (@ay _ _ _ _ _ _ _ (aD K) (pv 0) ae (λ_ _=>rfl))) (λ_=>(aN (i:=0) (show(["way","deed"]:List Vm).Nodup from by decide +kernel) rfl oi oj)) (λ_=>(eJ (aU bY (@ay _ _ _ _ _ _ _ (aD K) (pv 0) ae (λ_ _=>rfl)) (pv 1) (aT _)))) (λ_=>(pv 0))))),?_⟩;walk_at"";refine aB (ax.of B) rfl ?_;walk_at"";refine jA (ax.of u) ?_;refine xp (xs:=bs.map V.ref) (λi ys H'=>H'=H/\∃cs us,ys=A0 V.ref cs/\aZ H cs us/\us=(ws.take i).filter λw=>decide (w.deed=d)) (bU (by rw[F1];lia)) ⟨rfl,[],[],rfl,aZ.nil _,rfl⟩ ?_ ?_ ?_
 .rintro i ys H' _ ⟨rfl,cs,us,rfl,a,rfl⟩;refine⟨ax.of u,?_⟩;rw[F1,a.1];exact GC (HJ _ _) (by rw[GU];lia)
 .rintro i v ys H' x ⟨rfl,cs,us,rfl,a,c⟩;rw[F3]at x;obtain⟨b,hb,rfl⟩:=Ge.mp x;have s:i<ws.length:=by have:=(F9.mp hb).1;lia
  have f:ws[i]?=Vn ws[i]:=F2 s;have g:=l.2 i b _ hb f;generalize ws[i]=j at f g;walk_at"";refine aB (ax.of g) (v:=.str j.deed) rfl ?_;walk_at"";refine cy (rd_exb ?_);cases y:decide (j.deed=d)with
  | true=>
   refine aI ?_;walk_at"";refine⟨rfl,cs++[b],us++[j],?_,a.snoc g,?_⟩
   .rw[Gj];rfl
   .rw[c,G7,f,Hc];congr 1;show[j]=IJ _ [j];rw[He,G5 y];rfl
  | false=>
   refine aC ⟨rfl,cs,us,rfl,a,?_⟩;rw[c,G7,f,Hc];have:IJ (λw:Way=>decide (w.deed=d)) [j]=[]:=by rw[He,G0 (by rw[y];exact Gi)];rfl
   show _=_++IJ _ [j];rw[this,HW]
 .rintro ys H' pc ⟨F,cs,us,rfl,a,c⟩ n;subst F;rw[F1,r,Gx]at c;have e:=bh (o:=.lst (A0 V.ref cs)) n;exact q pc cs us _ e n aE (a.ext e) c
theorem tj{x:Vb}:∀{l:List Vb} {i:Nat},l.Nodup->x∉l->(l.set i x).Nodup
 | [],_,_,_=>IF
 | a::l,0,h,b=>by rw[Hs]at h;exact Hs.mpr ⟨λz=>b (F4 _ z),h.2⟩
 | a::l,i+1,h,b=>by
  rw[Hs]at h;refine Hs.mpr ⟨λz=>?_,tj h.2 λz=>b (F4 _ z)⟩;rcases Jh z with z|z
  .exact h.1 z
  .exact b (by rw[z];exact F7)
structure TB(H H':Hp)(q:Vb)(rs rs':List Vb)(n:Nat)(M:Nat->Nat->Bool):Prop where
 keep:∀b o,b≠q->H b=Vn o->H' b=Vn o
 len:rs'.length=n
 nd:rs'.Nodup
 nq:q∉rs'
 old:∀r∈rs',r∈rs\/H r=Vo
 rows:Rows H' q rs' n M
theorem TB.congr{H H':Hp}{q:Vb}{rs rs':List Vb}{n:Nat}{M M':Nat->Nat->Bool}(h:TB H H' q rs rs' n M)(e:∀i j,i<n->j<n->M i j=M' i j):TB H H' q rs rs' n M':=
 ⟨h.keep,h.len,h.nd,h.nq,h.old,h.rows.1,λi r hi=>by
  rw[h.rows.2 i r hi];have a:i<n:=by rw[<-h.len];exact(F9.mp hi).1
  congr 2;exact dm λj b=>e i j a b⟩
theorem TB.set{H H1:Hp}{q d:Vb}{rs c:List Vb}{n i:Nat}{M:Nat->Nat->Bool}{f:Nat->Bool}(h:TB H H1 q rs c n M)(hi:i<n)(g:H1 d=Vo):TB H (upd (upd H1 d (.lst (aV n f))) q (.lst ((c.map V.ref).set i (.ref d)))) q rs (c.set i d) n (λa b=>if a=i then f b else M a b):=by
 have u:H1 q=Vn (.lst (c.map V.ref)):=h.rows.1;have l:q≠d:=λz=>by rw[z,g]at u;cases u
 have nin:d∉c:=λz=>by obtain⟨j,w⟩:=GR z;rw[h.rows.2 j d w]at g;cases g
 refine⟨λb o nb e=>?_,by rw[KR];exact h.len,tj h.nd nin,λz=>?_,λr p=>?_,?_,λa r ha=>?_⟩
 .have v:=h.keep b o nb e;rw[aA nb,aA (cx v g)];exact v
 .rcases Jh z with z|z
  .exact h.nq z
  .exact l z
 .rcases Jh p with p|rfl
  .exact h.old r p
  .right;cases e:H r with
   | none=>rfl
   | some o=>rw[h.keep r o (HQ l) e]at g;cases g
 .rw[aE,List.map_set]
 .rw[List.getElem?_set]at ha;by_cases m:i=a
  .subst m;rw[G5 rfl,G5 (by rw[h.len];exact hi)]at ha;cases ha;rw[aA (HQ l),aE];congr 2;exact dm λj _=>by dsimp only;rw[G5 rfl]
  .rw[G0 m]at ha;have e:=h.rows.2 a r ha;have s:r≠q:=λz=>h.nq (z ▸ Ga ha);rw[aA s,aA (cx e g),e];congr 2;exact dm λj _=>by dsimp only;rw[G0 (HQ m)]
def jn(M:Nat->Nat->Bool)(k:Nat):Nat->Nat->Bool:=λi j=>M i j || (M i k && M k j)
def cg(M:Nat->Nat->Bool):Nat->Nat->Nat->Bool
 | 0=>M
 | k+1=>jn (cg M k) k
structure Joined(n:Nat)(M M':Nat->Nat->Bool):Prop where
 le:∀i j,M i j=true->M' i j=true
 tr:∀i a j,a<n->M' i a=true->M' a j=true->M' i j=true
 least:∀S:Nat->Nat->Prop,(∀i a j,S i a->S a j->S i j)->(∀i j,M i j=true->S i j)->∀i j,M' i j=true->S i j
theorem sk(M:Nat->Nat->Bool):∀k,Joined k M (cg M k)
 | 0=>⟨λ_ _ h=>h,λ_ _ _ h=>absurd h (Ha _),λ_ _ h=>h⟩
 | k+1=>by
  have b:=sk M k;have up:∀i j,cg M (k+1) i j=true↔(cg M k i j=true\/(cg M k i k=true/\cg M k k j=true)):=λi j=>by show(cg M k i j || (cg M k i k && cg M k k j))=true↔_;simp
  refine⟨λi j h=>(up i j).mpr (.inl (b.le i j h)),λi a j ha h1 h2=>?_,λS d e i j h=>?_⟩
  .rw[up]at h1 h2 ⊢;by_cases f:a=k
   .subst f;have l:cg M a i a=true:=by rcases h1 with h|h;exact h;exact h.1
    have m:cg M a a j=true:=by rcases h2 with h|h;exact h;exact h.2
    exact .inr ⟨l,m⟩
   .have hlt:a<k:=by lia
    rcases h1 with h1|⟨h1,g⟩<;>rcases h2 with h2|⟨h2,c⟩
    .exact .inl (b.tr i a j hlt h1 h2)
    .exact .inr ⟨b.tr i a k hlt h1 h2,c⟩
    .exact .inr ⟨h1,b.tr k a j hlt g h2⟩
    .exact .inr ⟨h1,c⟩
  .rcases(up i j).mp h with h|⟨h1,h2⟩
   .exact b.least S d e i j h
   .exact d i k j (b.least S d e i k h1) (b.least S d e k j h2)
inductive sT(K:FX)(vs:List V)(H:Hp)(Q:VK)(E:XK):Prop|mk:∀q rs n M,vs=[.ref q]->TB H H q rs rs n M->n<=12->(∀rs' M' H',TB H H' q rs rs' n M'->Joined n M M'->Q .non H')->sT K vs H Q E
theorem wY(T:Bu w mg base):Cal P w K mg base "join_walks" 1 ["table"] (sT K):=by
 refine(cI T.d_join_walks).oS ["table","many","middle","p"] λS nd H vs Q E h=>?_;obtain⟨d,rs,n,M,rfl,o,U,q⟩:=h;refine⟨_,(@av _ _ _ _ _ (@aG _ _ 1 _ _ _ _ nd rfl oi (bx (cL K) rfl T.len_ HR (ag (pv 0) aa rfl)) rfl oi)
   (@az _ _ _ (bJ B2 rfl (cX rfl T.range_ (ag (pv 1) aa rfl)) (aN (i:=2) nd rfl oj) (@az _ _ _ (bJ B2 rfl (cX rfl T.range_ (ag (pv 1) aa rfl)) (aN (i:=3) nd rfl oj) (@az _ _ _ (cK (cj (@ay _ _ _ _ _ _ _ (aQ K) (@ay _ _ _ _ _ _ _ (aQ K) (pv 0) (pv 3) (λ_ _=>rfl)) (pv 2) (λ_ _=>rfl))) (@az _ _ _ (@gR _ _ _ _ _ _ (eo ["q"] [0,3,2] (cX rfl T.range_ (ag (pv 1) aa rfl)) (λ_=>(aN (i:=0) (show(["q","table","p","middle"]:List Vm).Nodup from by decide +kernel) rfl oi oj)) (λ_=>dn) (λ_=>(pN (@ay _ _ _ _ _ _ _ (aQ K) (@ay _ _ _ _ _ _ _ (aQ K) (pv 1) (pv 2) (λ_ _=>rfl)) (pv 0) (λ_ _=>rfl)) (eL (@ay _ _ _ _ _ _ _ (aQ K) (@ay _ _ _ _ _ _ _ (aQ K) (pv 1) (pv 3) (λ_ _=>rfl)) (pv 0) (λ_ _=>rfl)))))) (iO (pv 0) (pv 3) set_list) rfl rfl rfl)) a8))))))),?_⟩
 walk_at"";refine dM (af.of o.rows.1) ?_;rw[F1,o.len];walk_at"";refine cU (by lia) ?_;rw[Gf];refine forR (λk σ H'=>∃c k1 k2,TB H H' d rs c n (cg M k)/\σ=[Vn (.ref d),Vn (.int (n:Nat)),k1,k2]) ⟨rs,_,_,o,rfl⟩ ?_ ?_
 .rintro k σ H1 N ⟨c,k1,k2,tb,rfl⟩;rw[show (0:Int)+(k:Int)=((k:Nat):Int) by lia];walk_at"";refine cU (by lia) ?_;rw[Gf];refine forR (λp σ H'=>∃a k2,TB H H' d rs a n (λi j=>if i<p then jn (cg M k) k i j else cg M k i j)/\σ=[Vn (.ref d),Vn (.int (n:Nat)),Vn (.int (k:Nat)),k2]) ⟨c,_,tb,rfl⟩ ?_ ?_
  .rintro p σ H2 A ⟨a,k2,b,rfl⟩;rw[show (0:Int)+(p:Int)=((p:Nat):Int) by lia];have r:p<a.length:=by rw[b.len];exact A
   have s:k<a.length:=by rw[b.len];exact N
   have u:a[p]?=Vn a[p]:=F2 r;have v:a[k]?=Vn a[k]:=F2 s;have B:=b.rows.2 p _ u;have C:=b.rows.2 k _ v;generalize a[p]=ap at u B;generalize a[k]=F at v C;have e:bT (a.map V.ref) ((p:Nat):Int)=Vn (.ref ap):=cO (by rw[F3,u];rfl);have x:bT (a.map V.ref) ((k:Nat):Int)=Vn (.ref F):=cO (by rw[F3,v];rfl);have g:H2 ap=Vn (.lst (aV n (cg M k p))):=by rw[B];congr 2;exact dm λj _=>by dsimp only;rw[G0 (Hy _)]
   have y:H2 F=Vn (.lst (aV n (cg M k k))):=by
    rw[C];congr 2;refine dm λj _=>?_;dsimp only;by_cases l:k<p
    .rw[G5 l];unfold jn;cases cg M k k j<;>simp
    .rw[G0 l]
   walk_at"";refine cE ?_;walk_at"";refine aR (af.of b.rows.1) e ?_;walk_at"";refine aR (af.of g) (fk (by lia) (by lia)) ?_;rw[Gf];walk_at"";cases G:cg M k p k with
   | false=>
    refine aC ?_;walk_at"";refine⟨a,_,b.congr λi j hi I=>?_,rfl⟩
    try dsimp only
    by_cases h1:i<p
    .rw[G5 h1,G5 (by lia)]
    .rw[G0 h1];by_cases h2:i<p+1
     .have:i=p:=by lia
      subst this;rw[G5 h2];unfold jn;rw[G];simp
     .rw[G0 h2]
   | true=>
    refine aI ?_;walk_at"";refine cU (by lia) ?_;rw[Gf];refine f7 (λi ys H'=>H'=H2/\ys=aV i (jn (cg M k) k p)) (bU (by lia)) ⟨rfl,rfl⟩ ?_ ?_ ?_
    .rintro i ys H' _ ⟨_,rfl⟩;rw[cz];exact Gn _
    .rintro i ys J hi ⟨rfl,rfl⟩;rw[show (0:Int)+(i:Int)=((i:Nat):Int) by lia];walk_at"";refine aI ?_;walk_at"";refine aR (af.of b.rows.1) e ?_;walk_at"";refine aR (af.of g) (fk (by lia) (by lia)) ?_;rw[Gf];refine rd_exb ?_;cases L:cg M k p i with
     | true=>
      refine aI ⟨rfl,?_⟩;rw[jG];congr 1;show[V.bl true]=[V.bl (cg M k p i || _)];rw[L];rfl
     | false=>
      refine aC ?_;walk_at"";refine aR (af.of b.rows.1) x ?_;walk_at"";refine aR (af.of y) (fk (by lia) (by lia)) ?_;rw[Gf];refine⟨rfl,?_⟩;rw[jG];congr 1;show[V.bl (cg M k k i)]=[V.bl (cg M k p i || (cg M k p k && cg M k k i))];rw[L,G];simp
    .rintro ys J O ⟨R,rfl⟩ m;subst R;have z:(upd J O (.lst (aV n (jn (cg M k) k p)))) d=Vn (.lst (a.map V.ref)):=(bh m) _ _ b.rows.1;walk_at"";refine iI z (iB (by lia) (by rw[F1,b.len];lia)) ?_;rw[Gf];refine⟨_,_,(b.set (f:=jn (cg M k) k p) A m).congr λi j hi I=>?_,rfl⟩
     try dsimp only
     by_cases h1:i=p
     .subst h1;rw[G5 rfl,G5 (by lia)]
     .rw[G0 h1];by_cases h2:i<p
      .rw[G5 h2,G5 (by lia)]
      .rw[G0 h2,G0 (by lia)]
  .rintro σ H2 ⟨a,k2,b,rfl⟩;exact⟨a,_,_,b.congr (λi j hi I=>by rw[G5 hi];rfl),rfl⟩
 .rintro σ H1 ⟨c,k1,k2,tb,rfl⟩;walk_at"";exact q c _ H1 tb (sk M n)
def put2(M:Nat->Nat->Bool)(i x:Nat):Nat->Nat->Bool:=λj y=>if j=i/\y=x then true else M j y
structure TW(H H':Hp)(q:Vb)(rs:List Vb)(n:Nat)(M:Nat->Nat->Bool):Prop where
 keep:∀b o,b∉rs->H b=Vn o->H' b=Vn o
 len:rs.length=n
 nd:rs.Nodup
 nq:q∉rs
 rows:Rows H' q rs n M
def TW.mark{r:Vb}(h:TW H H1 q rs n M)(hi:rs[i]?=Vn r)(m:j<n):TW H (upd H1 r (.lst ((aV n (M i)).set j (.bl true)))) q rs n (put2 M i j):=by
 have g:=Ga hi;have nqr:q≠r:=λz=>h.nq (z ▸ g);refine⟨λb o nb e=>?_,h.len,h.nd,h.nq,?_,λa l ha=>?_⟩
 .have f:b≠r:=λz=>nb (by rw[z];exact g);rw[aA f];exact h.keep b o nb e
 .rw[aA nqr];exact h.rows.1
 .by_cases c:a=i
  .subst c;rw[hi]at ha;cases ha;rw[aE,jU _ _ m];congr 2;refine dm λy _=>?_;unfold put2;by_cases d:y=j
   .rw[G5 d,G5 ⟨rfl,d⟩]
   .rw[G0 d,G0 λz=>d z.2]
  .have p:l≠r:=λz=>c ((Ij (by rw[h.len];exact(by rw[<-h.len];exact(F9.mp ha).1)) h.nd).mp (by rw[ha,hi,z]));rw[aA p,h.rows.2 a l ha];congr 2;exact dm λy _=>by unfold put2;rw[G0 λz=>c z.1]
structure ArchR(n:Nat)(us ds:List Way)(M M':Nat->Nat->Bool)(ad:Bool):Prop where
 le:∀i j,M i j=true->M' i j=true
 same:ad=false->∀i j,M' i j=M i j
 more:ad=true->∃i j,i<n/\j<n/\M i j=false/\M' i j=true
 least:∀S:Nat->Nat->Prop,(∀u∈us,∀d∈ds,S u.other.toNat d.room.toNat->S u.room.toNat d.other.toNat)->(∀i j,M i j=true->S i j)->∀i j,M' i j=true->S i j
def ArchR.refl:ArchR n us ds M M false:=⟨λ_ _ h=>h,λ_ _ _=>rfl,λh=>(nomatch h),λ_ _ h=>h⟩
def ArchR.put(h:ArchR n us ds M M' ad){u d:Way}(g:u∈us)(hd:d∈ds)(h1:M' u.other.toNat d.room.toNat=true)(h2:M' u.room.toNat d.other.toNat=false)(b:u.room.toNat<n)(c:d.other.toNat<n):ArchR n us ds M (put2 M' u.room.toNat d.other.toNat) true:=by
 have le:∀i j,M i j=true->put2 M' u.room.toNat d.other.toNat i j=true:=λi j a=>by
  unfold put2;split
  .rfl
  .exact h.le i j a
 refine⟨le,λz=>(nomatch z),λ_=>⟨_,_,b,c,?_,by unfold put2;rw[G5 ⟨rfl,rfl⟩]⟩,λS e a i j f=>?_⟩
 .rw[IY];intro z;rw[h.le _ _ z]at h2;cases h2
 .unfold put2 at f;split at f
  .rename_i z;rw[z.1,z.2];exact e u g d hd (h.least S e a _ _ h1)
  .exact h.least S e a i j f
inductive sj(K:FX)(vs:List V)(H:Hp)(Q:VK)(E:XK):Prop|mk:∀q rs n M lu cu us ld cd ds,vs=[.ref q,.ref lu,.ref ld]->TW H H q rs n M->H lu=Vn (.lst (A0 V.ref cu))->aZ H cu us->H ld=Vn (.lst (A0 V.ref cd))->aZ H cd ds->lu∉rs->ld∉rs->(∀w∈us++ds,0<=w.room/\w.room<(n:Int)/\0<=w.other/\w.other<(n:Int))->(∀M' ad H',TW H H' q rs n M'->ArchR n us ds M M' ad->(ad=false->∀u∈us,∀d∈ds,M u.other.toNat d.room.toNat=true->M u.room.toNat d.other.toNat=true)->Q (.bl ad) H')->sj K vs H Q E
theorem zm(T:Bu w mg base):Cal P w K mg base "add_arches" 1 ["table","ups","downs"] (sj K):=by
 refine(dw T.d_add_arches).oS ["table","ups","downs","added","rise","fall"] λhr nd H vs Q E h=>?_;obtain⟨Y,rs,n,M,lu,cu,us,ld,cd,ds,rfl,tw,C,F,G,I,a0,J,hin,q⟩:=h;have L:=F.1;have N:=I.1;refine⟨_,(@av _ _ _ _ _ (@aG _ _ 3 _ _ _ _ nd rfl oi b9 rfl oi)
   (@av _ _ _ _ _ (bJ B2 rfl (bW K (pv 1)) (aN (i:=4) nd rfl oi) (@az _ _ _ (bJ B2 rfl (bW K (pv 2)) (aN (i:=5) nd rfl oi) (@az _ _ _ (cK (PW.pt (gQ (cj (@ay _ _ _ _ _ _ _ (aQ K) (@ay _ _ _ _ _ _ _ (aQ K) (pv 0) (@ay _ _ _ _ _ _ _ (aD K) (pv 4) ae (λ_ _=>rfl)) (λ_ _=>rfl)) (@ay _ _ _ _ _ _ _ (aD K) (pv 5) ae (λ_ _=>rfl)) (λ_ _=>rfl))) (iG (dR (cj (@ay _ _ _ _ _ _ _ (aQ K) (@ay _ _ _ _ _ _ _ (aQ K) (pv 0) (@ay _ _ _ _ _ _ _ (aD K) (pv 4) ae (λ_ _=>rfl)) (λ_ _=>rfl)) (@ay _ _ _ _ _ _ _ (aD K) (pv 5) ae (λ_ _=>rfl)) (λ_ _=>rfl))))))) (@av _ _ _ _ _ (@gR _ _ _ _ _ _ b9 (iO (@ay _ _ _ _ _ _ _ (aQ K) (pv 0) (@ay _ _ _ _ _ _ _ (aD K) (pv 4) ae (λ_ _=>rfl)) (λ_ _=>rfl)) (@ay _ _ _ _ _ _ _ (aD K) (pv 5) ae (λ_ _=>rfl)) set_list) rfl rfl rfl)
   (@az _ _ _ (@aG _ _ 3 _ _ _ _ nd rfl oi b9 rfl oi))) a8)))))
   (@az _ _ _ (@aL _ _ _ _ (pv 3))))),?_⟩
 have tupN:∀(b:Vb) (w:Way),H b=Vn (.tup w.vs)->b∉rs:=λb w hb z=>by obtain⟨j,hj⟩:=GR z;rw[tw.rows.2 j b hj]at hb;cases hb
 walk_at"";refine bX (af.of C) ?_;refine forL (xs:=A0 V.ref cu) (λi σ H'=>∃M' ad k1 k2,TW H H' Y rs n M'/\ArchR n us ds M M' ad/\(ad=false->∀a,a<i->∀u,us[a]?=Vn u->∀d∈ds,M u.other.toNat d.room.toNat=true->M u.room.toNat d.other.toNat=true)/\σ=[Vn (.ref Y),Vn (.ref lu),Vn (.ref ld),Vn (.bl ad),k1,k2]) ⟨M,false,_,_,tw,.refl,λ_ a ha=>absurd ha (Ha _),rfl⟩ (λi σ H' _ h=>by obtain⟨M',ad,k1,k2,t,_⟩:=h;exact af.of (t.keep _ _ a0 C)) ?_ ?_
 .rintro i v σ H1 hx ⟨M1,ad,k1,k2,o,r,p,rfl⟩;rw[F3]at hx;obtain⟨bu,O,rfl⟩:=Ge.mp hx;have a3:i<us.length:=by rw[<-L];exact(F9.mp O).1
  have Z:us[i]?=Vn us[i]:=F2 a3;have g:=F.2 i bu _ O Z;generalize us[i]=u at Z g;have R:=Ga Z;obtain⟨u0,u1,u2,u3⟩:=hin u (GN _ R);walk_at"";refine bX (af.of (o.keep _ _ J G)) ?_;refine forL (xs:=A0 V.ref cd) (λj σ H'=>∃M' ad k2,TW H H' Y rs n M'/\ArchR n us ds M M' ad/\(ad=false->(∀a,a<i->∀u,us[a]?=Vn u->∀d∈ds,M u.other.toNat d.room.toNat=true->M u.room.toNat d.other.toNat=true)/\∀b,b<j->∀d,ds[b]?=Vn d->M u.other.toNat d.room.toNat=true->M u.room.toNat d.other.toNat=true)/\σ=[Vn (.ref Y),Vn (.ref lu),Vn (.ref ld),Vn (.bl ad),Vn (.ref bu),k2]) ⟨M1,ad,_,o,r,λh=>⟨p h,λb hb=>absurd hb (Ha _)⟩,rfl⟩ (λj σ H' _ h=>by obtain⟨M',ad,k2,t,_⟩:=h;exact af.of (t.keep _ _ J G)) ?_ ?_
  .rintro j v σ H2 S ⟨B,l,k2,c,e,cl2,rfl⟩;rw[F3]at S;obtain⟨bd,U,rfl⟩:=Ge.mp S;have a4:j<ds.length:=by rw[<-N];exact(F9.mp U).1
   have gd:ds[j]?=Vn ds[j]:=F2 a4;have m:=I.2 j bd _ U gd;generalize ds[j]=d at gd m;have W:=Ga gd;obtain⟨d0,d1,d2,d3⟩:=hin d (GL _ W);have ku:=c.keep _ _ (tupN bu u g) g;have kd:=c.keep _ _ (tupN bd d m) m;have x1:u.other.toNat<rs.length:=by rw[c.len];lia
   have x2:u.room.toNat<rs.length:=by rw[c.len];lia
   have r1:rs[u.other.toNat]?=Vn rs[u.other.toNat]:=F2 x1;have r2:rs[u.room.toNat]?=Vn rs[u.room.toNat]:=F2 x2;have w1:=c.rows.2 _ _ r1;have w2:=c.rows.2 _ _ r2;generalize rs[u.other.toNat]=a1 at r1 w1;generalize rs[u.room.toNat]=a2 at r2 w2;have a5:bT (rs.map V.ref) u.other=Vn (.ref a1):=eO u2 (by rw[F3,r1];rfl);have at2:bT (rs.map V.ref) u.room=Vn (.ref a2):=eO u0 (by rw[F3,r2];rfl);have step:(M u.other.toNat d.room.toNat=true->M u.room.toNat d.other.toNat=true)->l=false->∀b,b<j+1->∀X,ds[b]?=Vn X->M u.other.toNat X.room.toNat=true->M u.room.toNat X.other.toNat=true:=λhs f b hb X s=>by
    by_cases a6:b<j
    .exact(cl2 f).2 b a6 X s
    .have:b=j:=by lia
     subst this;rw[gd]at s;cases s;exact hs
   walk_at"";refine cE ?_;walk_at"";refine aB (ax.of ku) (v:=.int u.other) rfl ?_;walk_at"";refine aR (af.of c.rows.1) a5 ?_;walk_at"";refine aB (ax.of kd) (v:=.int d.room) rfl ?_;walk_at"";refine aR (af.of w1) (fk d0 (by lia)) ?_;walk_at"";cases x:B u.other.toNat d.room.toNat with
   | false=>
    refine aC ?_;walk_at"";refine⟨B,l,_,c,e,λf=>⟨(cl2 f).1,step (λz=>?_) f⟩,rfl⟩;rw[e.same f]at x;rw[x]at z;cases z
   | true=>
    refine aI ?_;walk_at"";refine aB (ax.of ku) (v:=.int u.room) rfl ?_;walk_at"";refine aR (af.of c.rows.1) at2 ?_;walk_at"";refine aB (ax.of kd) (v:=.int d.other) rfl ?_;walk_at"";refine aR (af.of w2) (fk d2 (by lia)) ?_;walk_at"";cases y:B u.room.toNat d.other.toNat with
    | true=>
     refine aC ?_;walk_at"";refine⟨B,l,_,c,e,λf=>⟨(cl2 f).1,step (λ_=>?_) f⟩,rfl⟩;rw[e.same f]at y;exact y
    | false=>
     refine aI ?_;walk_at"";refine aB (ax.of ku) (v:=.int u.room) rfl ?_;walk_at"";refine aR (af.of c.rows.1) at2 ?_;walk_at"";refine aB (ax.of kd) (v:=.int d.other) rfl ?_;walk_at"";refine iI w2 (iB d2 (by rw[cz];lia)) ?_;walk_at"";exact⟨_,true,_,c.mark r2 (by lia),e.put R W x y (by lia) (by lia),λz=>(nomatch z),rfl⟩
  .rintro σ H2 ⟨B,l,k2,c,e,cl2,rfl⟩;rw[F1,N]at cl2;refine⟨B,l,_,_,c,e,λf a ha u' A=>?_,rfl⟩;by_cases a9:a<i
   .exact(cl2 f).1 a a9 u' A
   .have:a=i:=by lia
    subst this;rw[Z]at A;cases A;intro d hd;obtain⟨b,hb⟩:=GR hd;exact(cl2 f).2 b (F9.mp hb).1 d hb
 .rintro σ H1 ⟨M1,ad,k1,k2,o,r,p,rfl⟩;rw[F1,L]at p;walk_at"";refine q M1 ad H1 o r λf u hu d hd=>?_;obtain⟨a,ha⟩:=GR hu;exact p f a (F9.mp ha).1 u ha d hd
inductive Kpt(ws:List Way)(n:Nat):Nat->Nat->Prop
 | refl {i:Nat}:i<n->Kpt ws n i i
 | stay {w:Way}:w∈ws->w.deed = "stay"->Kpt ws n w.room.toNat w.other.toNat
 | trans {i a j:Nat}:Kpt ws n i a->Kpt ws n a j->Kpt ws n i j
 | arch {u d:Way}:u∈ws->u.deed = "up"->d∈ws->d.deed = "down"->Kpt ws n u.other.toNat d.room.toNat->Kpt ws n u.room.toNat d.other.toNat
theorem jM(ok:∀w∈ws,w.Ok m){w:Way}(a:w∈ws):w.room.toNat<m.toNat/\w.other.toNat<m.toNat:=by have h:=ok w a;have:=h.r1;have:=h.o0;have:=h.o1;lia
def Kpt.lt{m}{ws}(ok:∀w∈ws,w.Ok m){i j}(h:Kpt ws m.toNat i j):i<m.toNat/\j<m.toNat:=by
 induction h with
 | refl h=>exact⟨h,h⟩
 | stay h _=>exact jM ok h
 | trans _ _ h1 h2=>exact⟨h1.1,h2.2⟩
 | arch h1 _ h2 _ _ _=>exact⟨(jM ok h1).1,(jM ok h2).2⟩
def Bq(ws:List Way)(M:Nat->Nat->Bool):Prop:=∀i j,M i j=true↔(i=j\/∃w∈ws,w.deed = "stay"/\w.room.toNat=i/\w.other.toNat=j)
def jo(n:Nat)(M:Nat->Nat->Bool):Nat:=((GX n).flatMap λi=>(GX n).map λj=>(i,j)).countP λz=>!M z.1 z.2
theorem rN{α:Type}{p c:α->Bool}(hi:∀y,c y=true->p y=true){a:α}(ha:p a=true)(d:c a=false):∀{L:List α},a∈L->L.countP c<L.countP p
 | b::L,e=>by
  have hle:L.countP c<=L.countP p:=List.countP_mono_left λy _=>hi y;rw[List.countP_cons,List.countP_cons];rcases Gh.mp e with rfl|e
  .rw[ha,d];simp;lia
  .have:=rN hi ha d e;cases h1:c b with
   | false=>simp[h1];split<;>lia
   | true=>rw[hi b h1];lia
def DV(hi:i<n)(d:j<n)(le:∀a b,M a b=true->M' a b=true)(h1:M i j=false)(h2:M' i j=true):jo n M'<jo n M:=by
 refine rN (a:=(i,j)) (λy e=>?_) (by simp[h1]) (by simp[h2]) (by simp;exact⟨hi,d⟩);have c:M' y.1 y.2=false:=by simpa using e
 have:M y.1 y.2=false:=by rw[IY];intro z;rw[le _ _ z]at c;cases c
 simp[this]
structure KT(H H':Hp)(q:Vb)(rs:List Vb)(n:Nat)(M:Nat->Nat->Bool):Prop where
 ext:Ext H H'
 fq:H q=Vo
 fr:∀r∈rs,H r=Vo
 len:rs.length=n
 nd:rs.Nodup
 nq:q∉rs
 rows:Rows H' q rs n M
def KT.tw(h:KT H H' q rs n M):TW H' H' q rs n M:=⟨λ_ _ _ e=>e,h.len,h.nd,h.nq,h.rows⟩
def KT.tb(h:KT H H' q rs n M):TB H' H' q rs rs n M:=⟨λ_ _ _ e=>e,h.len,h.nd,h.nq,λ_ h=>.inl h,h.rows⟩
def KT.more(h:KT H H1 q rs n M)(e:Ext H1 H2):KT H H2 q rs n M:=⟨h.ext.trans e,h.fq,h.fr,h.len,h.nd,h.nq,h.rows.ext e⟩
def KT.byW(h:KT H H1 q rs n M)(t:TW H1 H2 q rs n M'):KT H H2 q rs n M':=
 ⟨λb o e=>t.keep b o (λz=>by rw[h.fr b z]at e;cases e) (h.ext b o e),h.fq,h.fr,h.len,h.nd,h.nq,t.rows⟩
def KT.byB(h:KT H H1 q rs n M)(t:TB H1 H2 q rs rs' n M'):KT H H2 q rs' n M':=
 ⟨λb o e=>t.keep b o (λz=>by rw[z,h.fq]at e;cases e) (h.ext b o e),h.fq,λr a=>by
  rcases t.old r a with z|z
  .exact h.fr r z
  .cases e:H r with
   | none=>rfl
   | some o=>exact absurd ((h.ext r o e).symm.trans z) (by simp),t.len,t.nd,t.nq,t.rows⟩
inductive yQ(K:FX)(vs:List V)(H:Hp)(Q:VK)(E:XK):Prop|mk:∀a m ws,vs=[a]->bq H a m ws->HOuse m ws->(∀q rs M H',KT H H' q rs m.toNat M->Bq ws M->Q (.ref q) H')->yQ K vs H Q E
theorem zr(T:Bu w mg base):Cal P w K mg base "beginning_table" 2 ["house"] (yQ K):=by
 refine(cI T.d_beginning_table).oS ["house","table","p","way"] λy nd H vs Q E h=>?_;obtain⟨vh,m,ws,rfl,hv,ok,q⟩:=h;have m1:=ok.m1;have m12:=ok.m12;obtain⟨F,a9,rfl,hh,_⟩:=id hv;refine⟨_,(@av _ _ _ _ _ (@aG _ _ 1 _ _ _ _ nd rfl oi (@bF _ _ _ _ aa) rfl oi)
   (@av _ _ _ _ _ (bJ B2 rfl (cX rfl T.range_ (ag (@ay _ _ _ _ _ _ _ (aD K) (pv 0) ae (λ_ _=>rfl)) aa rfl)) (aN (i:=2) nd rfl oj) (@az _ _ _ (br (bP K F8 Gp Gq bZ (pv 1) (ag (eo ["q"] [2] (cX rfl T.range_ (ag (@ay _ _ _ _ _ _ _ (aD K) (pv 0) ae (λ_ _=>rfl)) aa rfl)) (λ_=>(aN (i:=0) (show(["q","p"]:List Vm).Nodup from by decide +kernel) rfl oi oj)) (λ_=>dn) (λ_=>(fU bY (pv 1) (pv 0) (aT _)))) aa rfl)))))
   (@av _ _ _ _ _ (bJ B2 rfl (bW K (aF (lY T) y (ag (pv 0) (ag bf aa rfl) rfl))) (aN (i:=3) nd rfl oi) (@az _ _ _ (@gR _ _ _ _ _ _ b9 (iO (@ay _ _ _ _ _ _ _ (aQ K) (pv 1) (@ay _ _ _ _ _ _ _ (aD K) (pv 3) ae (λ_ _=>rfl)) (λ_ _=>rfl)) (@ay _ _ _ _ _ _ _ (aD K) (pv 3) ae (λ_ _=>rfl)) set_list) rfl rfl rfl)))
   (@az _ _ _ (@aL _ _ _ _ (pv 1)))))),?_⟩
 walk_at"";refine aO λtq H1 e1 a4 R=>?_;walk_at"";refine aB (ax.of (e1 _ _ hh)) (v:=.int m) rfl ?_;walk_at"";refine cU (by lia) ?_;refine forR (λp σ H'=>∃rs k1 k2,Ext H H'/\H' tq=Vn (.lst (A0 V.ref rs))/\(∀r∈rs,H r=Vo)/\rs.length=p/\rs.Nodup/\tq∉rs/\(∀(a:Nat) (r:Vb),rs[a]?=Vn r->H' r=Vn (.lst (aV m.toNat λj=>decide (a=j))))/\σ=[Vn (.ref F),Vn (.ref tq),k1,k2]) ⟨[],_,_,e1,a4,λr y=>(by cases y),rfl,IF,by simp,λa r h=>by simp at h,rfl⟩ ?_ ?_
 .rintro p σ H2 hp ⟨rs,k1,k2,N,d,G,A,B,s,hrs,rfl⟩;rw[show (0:Int)+(p:Int)=((p:Nat):Int) by lia];walk_at"";refine⟨cH (af.of d),?_⟩;walk_at"";refine aB (ax.of (N _ _ hh)) (v:=.int m) rfl ?_;walk_at"";refine cU (by lia) ?_;refine f7 (λi ys H'=>H'=H2/\ys=aV i (λj=>decide (p=j))) (bU (by lia)) ⟨rfl,rfl⟩ ?_ ?_ ?_
  .rintro i ys H' _ ⟨_,rfl⟩;rw[cz];exact Gn _
  .rintro i ys I hi ⟨rfl,rfl⟩;rw[show (0:Int)+(i:Int)=((i:Nat):Int) by lia];walk_at"";refine aI ?_;walk_at"";refine⟨rfl,?_⟩;rw[jG];congr 3;rw[GH];simp;lia
  .rintro ys I n ⟨hH,rfl⟩ g;subst hH;have O:=bh (o:=.lst (aV m.toNat λj=>decide (p=j))) g;have S:=O _ _ d;have h9:(upd I n (.lst (aV m.toNat λj=>decide (p=j)))) n=_:=aE;have U:=N.trans O;have hrs3:∀(a:Nat) (r:Vb),rs[a]?=Vn r->(upd I n (.lst (aV m.toNat λj=>decide (p=j)))) r=Vn (.lst (aV m.toNat λj=>decide (a=j))):=λa r h=>O _ _ (hrs a r h);have n9:H n=Vo:=by
    cases z:H n with
    | none=>rfl
    | some o=>rw[N _ _ z]at g;cases g
   have nin:n∉rs:=λz=>by obtain⟨j,W⟩:=GR z;rw[hrs j n W]at g;cases g
   have X:tq≠n:=λz=>by rw[z,g]at d;cases d
   generalize upd I n (.lst (aV m.toNat λj=>decide (p=j)))=Y at O S h9 U hrs3 ⊢;walk_at"";refine bV S (by rw[F1];exact IE (show rs.length<=12 by lia) (by decide)) ?_;walk_at"";have keep:∀b o,b≠tq->Y b=Vn o->upd Y tq (.lst (A0 V.ref rs++[.ref n])) b=Vn o:=λb o nb e=>by rw[aA nb];exact e
   refine⟨rs++[n],_,_,b6 U R,?_,λr y=>?_,by rw[Gk,A];rfl,?_,λz=>?_,λa r ha=>?_,rfl⟩
   .rw[aE,Gj];rfl
   .rcases Gr.mp y with y|y
    .exact G r y
    .rw[Gb.mp y];exact n9
   .rw[HP];refine⟨B,by simp,λa ha c hc z=>?_⟩;rw[Gb.mp hc]at z;exact nin (z ▸ ha)
   .rcases Gr.mp z with z|z
    .exact s z
    .exact X (Gb.mp z)
   .by_cases a5:a<rs.length
    .rw[Gu a5]at ha;exact keep r _ (λz=>s (z ▸ Ga ha)) (hrs3 a r ha)
    .rw[Gs (by lia)]at ha;have hz:a-rs.length=0:=by have:=(F9.mp ha).1;simp at this;lia
     rw[hz]at ha;cases ha;have:a=p:=by lia
     subst this;exact keep n _ (HQ X) h9
 .rintro σ H2 ⟨rs,k1,k2,N,d,G,A,B,s,hrs,rfl⟩;have tw:TW H2 H2 tq rs m.toNat (λi j=>decide (i=j)):=⟨λ_ _ _ e=>e,A,B,s,d,hrs⟩;have kt:KT H H2 tq rs m.toNat (λi j=>decide (i=j)):=⟨N,R,G,A,B,s,d,hrs⟩;walk_at"";refine⟨.ref F,m,ws,_,rfl,hv.ext N,ok,λl cs us I O Z hl a0 a1=>?_⟩;have J:=kt.more O;have nl:l∉rs:=λz=>by obtain⟨j,W⟩:=GR z;rw[hrs j l W]at Z;cases Z
  have a3:=a0.1;have tupN:∀(b:Vb) (w:Way),I b=Vn (.tup w.vs)->b∉rs:=λb w hb z=>by obtain⟨j,W⟩:=GR z;rw[J.rows.2 j b W]at hb;cases hb
  refine bX (af.of hl) ?_;refine forL (xs:=A0 V.ref cs) (λi σ H'=>∃M k1 k2,TW I H' tq rs m.toNat M/\(∀a b,M a b=true↔(a=b\/∃w∈us.take i,w.room.toNat=a/\w.other.toNat=b))/\σ=[Vn (.ref F),Vn (.ref tq),k1,k2]) ⟨_,_,_,J.tw,λa b=>by simp,rfl⟩ (λi σ H' _ h=>by obtain⟨M,k1,k2,t,_⟩:=h;exact af.of (t.keep _ _ nl hl)) ?_ ?_
  .rintro i v σ Y hx ⟨M,k1,k2,f,hM,rfl⟩;rw[F3]at hx;obtain⟨b,hb,rfl⟩:=Ge.mp hx;have hi:i<us.length:=by rw[<-a3];exact(F9.mp hb).1
   have gu:us[i]?=Vn us[i]:=F2 hi;have L:=a0.2 i b _ hb gu;generalize us[i]=u at gu L;have a6:u∈ws:=by have:=Ga gu;rw[a1]at this;exact(G8.mp this).1
   have C:=ok.ok u a6;have u0:=C.r0;have u1:=C.r1;have u2:=C.o0;have u3:=C.o1;have kb:=f.keep _ _ (tupN b u L) L;have x2:u.room.toNat<rs.length:=by rw[f.len];lia
   have r2:rs[u.room.toNat]?=Vn rs[u.room.toNat]:=F2 x2;have w2:=f.rows.2 _ _ r2;generalize rs[u.room.toNat]=a2 at r2 w2;have at2:bT (rs.map V.ref) u.room=Vn (.ref a2):=eO u0 (by rw[F3,r2];rfl);walk_at"";refine aB (ax.of kb) (v:=.int u.room) rfl ?_;walk_at"";refine aR (af.of f.rows.1) at2 ?_;walk_at"";refine aB (ax.of kb) (v:=.int u.other) rfl ?_;walk_at"";refine iI w2 (iB u2 (by rw[cz];lia)) ?_;refine⟨_,_,_,f.mark r2 (by lia),λa c=>?_,rfl⟩;rw[G7,gu];unfold put2;split
   .rename_i z;simp only[true_iff];exact .inr ⟨u,GL _ (by simp),z.1.symm,z.2.symm⟩
   .rename_i z;rw[hM];constructor
    .rintro(h|⟨w,x,h⟩)
     .exact .inl h
     .exact .inr ⟨w,GN _ x,h⟩
    .rintro(h|⟨w,x,h1,h2⟩)
     .exact .inl h
     .rcases Gr.mp x with x|x
      .exact .inr ⟨w,x,h1,h2⟩
      .have:w=u:=by simpa using x
       subst this;exact absurd ⟨h1.symm,h2.symm⟩ z
  .rintro σ Y ⟨M,k1,k2,f,hM,rfl⟩;rw[F1,a3,Gx]at hM;walk_at"";refine q tq rs M Y (J.byW f) λa b=>?_;rw[hM,a1];constructor
   .rintro(h|⟨w,x,h⟩)
    .exact .inl h
    .obtain⟨h1,h2⟩:=G8.mp x;exact .inr ⟨w,h1,of_decide_eq_true h2,h⟩
   .rintro(h|⟨w,x,hd,h⟩)
    .exact .inl h
    .exact .inr ⟨w,G8.mpr ⟨x,GZ hd⟩,h⟩
structure UD(H:Hp)(tq:Vb)(rs:List Vb)(lu ld:Vb)(cu cd:List Vb)(us ds:List Way):Prop where
 u:H lu=Vn (.lst (A0 V.ref cu))
 au:aZ H cu us
 d:H ld=Vn (.lst (A0 V.ref cd))
 ad:aZ H cd ds
 nu:lu∉rs
 nd:ld∉rs
 qu:lu≠tq
 qd:ld≠tq
def aZ.byW(r:Rows H q rs n M)(t:TW H H' q rs n M')(h:aZ H bs ws):aZ H' bs ws:=⟨h.1,λj b w a c=>by have hb:=h.2 j b w a c;refine t.keep b _ (λz=>?_) hb;obtain⟨j,d⟩:=GR z;rw[r.2 j b d]at hb;cases hb⟩
def aZ.byB(r:Rows H q rs n M)(t:TB H H' q rs rs' n M')(h:aZ H bs ws):aZ H' bs ws:=⟨h.1,λj b w a c=>by have hb:=h.2 j b w a c;refine t.keep b _ (λz=>?_) hb;rw[z,r.1]at hb;cases hb⟩
theorem UD.byW{H H':Hp}{tq:Vb}{rs:List Vb}{lu ld:Vb}{cu cd:List Vb}{us ds:List Way}{n:Nat}{M M':Nat->Nat->Bool}(r:Rows H tq rs n M)(t:TW H H' tq rs n M')(h:UD H tq rs lu ld cu cd us ds):UD H' tq rs lu ld cu cd us ds:=
 ⟨t.keep _ _ h.nu h.u,h.au.byW r t,t.keep _ _ h.nd h.d,h.ad.byW r t,h.nu,h.nd,h.qu,h.qd⟩
theorem UD.byB{H H':Hp}{tq:Vb}{rs rs':List Vb}{lu ld:Vb}{cu cd:List Vb}{us ds:List Way}{n:Nat}{M M':Nat->Nat->Bool}(r:Rows H tq rs n M)(t:TB H H' tq rs rs' n M')(h:UD H tq rs lu ld cu cd us ds):UD H' tq rs' lu ld cu cd us ds:=by
 have no:∀l o,H l=Vn o->l∉rs->l∉rs':=λl o a b z=>by
  rcases t.old l z with y|y
  .exact b y
  .rw[a]at y;cases y
 exact⟨t.keep _ _ h.qu h.u,h.au.byB r t,t.keep _ _ h.qd h.d,h.ad.byB r t,no _ _ h.u h.nu,no _ _ h.d h.nd,h.qu,h.qd⟩
def qp(ws:List Way)(n:Nat)(M:Nat->Nat->Bool):Prop:=∀i j,i<n->j<n->(M i j=true↔Kpt ws n i j)
structure KJ(ws:List Way)(n:Nat)(M:Nat->Nat->Bool):Prop where
 beg:∀i j,(i=j\/∃w∈ws,w.deed = "stay"/\w.room.toNat=i/\w.other.toNat=j)->M i j=true
 snd:∀i j,M i j=true->i=j\/Kpt ws n i j
def Bt(ok:∀w∈ws,w.Ok m)(h:KJ ws m.toNat M)(tr:∀i a j,a<m.toNat->M i a=true->M a j=true->M i j=true)(b:∀u∈ws.filter (λw=>decide (w.deed=GJ "up")),∀d∈ws.filter (λw=>decide (w.deed=GJ "down")),M u.other.toNat d.room.toNat=true->M u.room.toNat d.other.toNat=true):qp ws m.toNat M:=by
 intro i j hi c;constructor
 .intro e;rcases h.snd i j e with rfl|h
  .exact .refl hi
  .exact h
 .intro f;clear hi c;induction f with
  | refl _=>exact h.beg _ _ (.inl rfl)
  | stay h1 h2=>exact h.beg _ _ (.inr ⟨_,h1,h2,rfl,rfl⟩)
  | trans h1 h2 i1 i2=>exact tr _ _ _ (Kpt.lt ok h1).2 i1 i2
  | arch h1 h2 g l o n=>exact b _ (G8.mpr ⟨h1,GZ h2⟩) _ (G8.mpr ⟨g,GZ l⟩) n
def KJ.join(h:KJ ws m.toNat M)(j:Joined m.toNat M M'):KJ ws m.toNat M':=by
 refine⟨λa b hb=>j.le _ _ (h.beg a b hb),λa b c=>j.least (λa b=>a=b\/Kpt ws m.toNat a b) (λi a j h1 h2=>?_) h.snd a b c⟩;rcases h1 with rfl|h1
 .exact h2
 .rcases h2 with rfl|h2
  .exact .inr h1
  .exact .inr (.trans h1 h2)
theorem KJ.arch{m:Int}{ws:List Way}{M M':Nat->Nat->Bool}{ad:Bool}(ok:∀w∈ws,w.Ok m)(h:KJ ws m.toNat M)(a:ArchR m.toNat (ws.filter λw=>decide (w.deed=GJ "up")) (ws.filter λw=>decide (w.deed=GJ "down")) M M' ad):KJ ws m.toNat M':=by
 refine⟨λi j hb=>a.le _ _ (h.beg i j hb),λi j g=>a.least (λa b=>a=b\/Kpt ws m.toNat a b) (λu l d hd hs=>?_) h.snd i j g⟩;obtain⟨n,c⟩:=G8.mp l;obtain⟨f,e⟩:=G8.mp hd;have c:=of_decide_eq_true c;have e:=of_decide_eq_true e;right;refine .arch n c f e ?_;rcases hs with hs|hs
 .rw[hs];exact .refl (jM ok f).1
 .exact hs
inductive wD(K:FX)(vs:List V)(H:Hp)(Q:VK)(E:XK):Prop|mk:∀a m ws,vs=[a]->bq H a m ws->HOuse m ws->(∀q rs M H',KT H H' q rs m.toNat M->qp ws m.toNat M->Q (.ref q) H')->wD K vs H Q E
theorem xG(T:Bu w mg base):Cal P w K mg base "kept_table" 3 ["house"] (wD K):=by
 refine(cI T.d_kept_table).oS ["house","table","ups","downs"] λA nd H vs Q E h=>?_;obtain⟨B,m,ws,rfl,U,ok,q⟩:=h;have m12:=ok.m12;refine⟨_,(av (aG (i:=1) nd rfl oi (aF (zr T) A (ao (pv 0) aa)))
   (av (aG (i:=2) nd rfl oi (aF (lY T) A (ao (pv 0) (ao bf aa))))
   (av (aG (i:=3) nd rfl oi (aF (lY T) A (ao (pv 0) (ao bf aa))))
   (av (br (aF (wY T) A (ao (pv 1) aa)))
   (av (fE B2 (cj (aF (zm T) A (ao (pv 1) (ao (pv 2) (ao (pv 3) aa))))) (az (br (aF (wY T) A (ao (pv 1) aa)))))
   (az (aL (pv 1)))))))),?_⟩
 walk_at"";refine⟨B,m,ws,rfl,U,ok,λtq rs M H1 kt bg=>?_⟩;walk_at"";refine⟨B,m,ws,_,rfl,U.ext kt.ext,ok,λlu cu us H2 W F r G v=>?_⟩;walk_at"";refine⟨B,m,ws,_,rfl,U.ext (kt.ext.trans W),ok,λld cd ds H3 X I s J x=>?_⟩;have y:=kt.more (W.trans X);have kj:KJ ws m.toNat M:=⟨λi j h=>(bg i j).mpr h,λi j h=>by
  rcases(bg i j).mp h with h|⟨w,Y,hd,rfl,rfl⟩
  .exact .inl h
  .exact .inr (.stay Y hd)⟩
 have nin:∀l,H1 l=Vo->l∉rs/\l≠tq:=λl R=>by
  refine⟨λz=>?_,λz=>?_⟩
  .obtain⟨j,Z⟩:=GR z;rw[kt.rows.2 j l Z]at R;cases R
  .rw[z,kt.rows.1]at R;cases R
 have e:H1 ld=Vo:=by
  cases z:H1 ld with
  | none=>rfl
  | some o=>rw[W _ _ z]at I;cases I
 have ud:UD H3 tq rs lu ld cu cd us ds:=⟨X _ _ r,G.ext X,s,J,(nin lu F).1,(nin ld e).1,(nin lu F).2,(nin ld e).2⟩;have hin:∀w∈us++ds,0<=w.room/\w.room<(m.toNat:Int)/\0<=w.other/\w.other<(m.toNat:Int):=λw Y=>by
  have a0:w∈ws:=by
   rcases Gr.mp Y with h|h
   .rw[v]at h;exact(G8.mp h).1
   .rw[x]at h;exact(G8.mp h).1
  have h:=ok.ok w a0;have h1:=h.r0;have h2:=h.r1;have h3:=h.o0;have h4:=h.o1;lia
 clear r G s J nin e;walk_at"";refine⟨tq,rs,m.toNat,M,rfl,y.tb,by lia,λa9 M1 H4 tb jd=>?_⟩;have ab:=y.byB tb;have ac:=ud.byB y.rows tb;have ah:=kj.join jd;walk_at"";refine fF (λmm σ H'=>∃rs M,KT H H' tq rs m.toNat M/\UD H' tq rs lu ld cu cd us ds/\KJ ws m.toNat M/\(∀i a j,a<m.toNat->M i a=true->M a j=true->M i j=true)/\mm=jo m.toNat M/\σ=[Vn B,Vn (.ref tq),Vn (.ref lu),Vn (.ref ld)]) (λσ H'=>∃rs M,KT H H' tq rs m.toNat M/\qp ws m.toNat M/\σ=[Vn B,Vn (.ref tq),Vn (.ref lu),Vn (.ref ld)]) (jo m.toNat M1) ⟨a9,M1,ab,ac,ah,jd.tr,rfl,rfl⟩ ?_ ?_
 .rintro mm σ H5 ⟨f,S,g,c,ai,aj,rfl,rfl⟩;walk_at"";refine⟨tq,f,m.toNat,S,lu,cu,us,ld,cd,ds,rfl,g.tw,c.u,c.au,c.d,c.ad,c.nu,c.nd,hin,λM6 ad H6 tw C cl=>?_⟩;have n:=g.byW tw;have ak:=c.byW g.rows tw;rw[v,x]at C;have L:=ai.arch ok.ok C;walk_at"";cases ad with
  | false=>
   refine aC ⟨f,M6,n,Bt ok.ok L (λi a j ha h1 h2=>?_) (λu hu d hd hm=>?_),rfl⟩
   .rw[C.same rfl]at h1 h2 ⊢;exact aj i a j ha h1 h2
   .rw[C.same rfl]at hm ⊢;exact cl rfl u (by rw[v];exact hu) d (by rw[x];exact hd) hm
  | true=>
   refine aI ⟨λN H'=>∃rs M,KT H H' tq rs m.toNat M/\UD H' tq rs lu ld cu cd us ds/\KJ ws m.toNat M/\(∀i a j,a<m.toNat->M i a=true->M a j=true->M i j=true)/\jo m.toNat M<jo m.toNat S/\N=[Vn B,Vn (.ref tq),Vn (.ref lu),Vn (.ref ld)],λN H' ⟨rs,M,a1,a2,a3,a4,a5,a6⟩=>⟨_,a5,rs,M,a1,a2,a3,a4,rfl,a6⟩,?_⟩;walk_at"";refine⟨tq,f,m.toNat,M6,rfl,n.tb,by lia,λam M7 H7 O p=>?_⟩;walk_at"";obtain⟨i,j,hi,Z,hf,ht⟩:=C.more rfl;exact⟨am,M7,n.byB O,ak.byB n.rows O,L.join p,p.tr,DV hi Z (λa b h=>p.le _ _ (C.le _ _ h)) hf (p.le _ _ ht),rfl⟩
 .rintro σ H5 ⟨f,S,g,an,rfl⟩;walk_at"";exact q tq f S H5 g an
def pK (h:ta σ H λvs H1=>(∀j∈js,∃v,σ[j]?=Vn (Vn v)) ∧
 ∀cp,cp.length=js.length->(∀(i j:Nat) e,js[i]?=Vn j->cp[i]?=Vn e->N[j]?=Vn e.n/\cells.lookup e.n=Vn e.c/\σ[j]?=Vn (Vn e.v)/\H1 e.c=Vo/\∃u,e.o.data=.cell (Vn u)/\RelV e.v u) ->
  sp vs (cb (cellsOf cp) H1) (λv H'=>(∀b o,(cellsOf cp).lookup b=Vn o->H' b=Vn (dJ b o))/\Q v (bw (cellsOf cp) H')) E0):kA sp js cells N ta σ H Q:=h
def vg{K:FX}{a:TE}(h:a σ H λb H1=>∃f pre R,b=.ref f/\FunR P w K mg base k f pre R/\pre H1/\ta σ H1 λvs H2=>pre H2/\R vs H2 Q):sW P w K mg base k a ta σ H Q:=h
def lb(a:∀b o,cs.lookup b=Vn o->H b=Vo):Ext H (cb cs H):=λb o e=>nK a e
def iM(a:∀b o,cs.lookup b=Vn o->H b=Vn (dJ b o))(hb:H b=Vn x)(nx:∀f,x≠.ext f):bw cs H b=Vn x:=by
 cases q:cs.lookup b with
 | none=>rw[df q];exact hb
 | some o=>rw[a b o q]at hb;cases hb;exact absurd rfl (nx _)
def zI(a:∀b o,cs.lookup b=Vn o->H b=Vn (dJ b o)):Ext H (cb cs (bw cs H)):=λb x e=>by
 cases q:cs.lookup b with
 | none=>rw[dy q,df q];exact e
 | some o=>rw[fW q,<-a b o q];exact e
def Ez(a:∀b o,cs.lookup b=Vn o->H b=Vo)(e:Ext (cb cs H) H'):Ext H (bw cs H'):=λb x hb=>by
 cases q:cs.lookup b with
 | none=>rw[df q];exact e b x (by rw[dy q];exact hb)
 | some o=>rw[a b o q]at hb;cases hb
def dQ(n:Nat)(g:Nat->Nat->Bool):Nat->List Bfs.Pl
 | 0=>[]
 | p+1=>dQ n g p++((GX n).filter (g p)).map λq:Nat=>(((p:Nat):Int),((q:Nat):Int))
theorem jg{n:Nat}{g:Nat->Nat->Bool}{x:Bfs.Pl}:∀{k:Nat},x∈dQ n g k↔∃p q:Nat,p<k/\q<n/\g p q=true/\x=(((p:Nat):Int),((q:Nat):Int))
 | 0=>⟨λh=>(nomatch h),λ⟨p,_,h,_⟩=>absurd h (Ha _)⟩
 | k+1=>by
  show x∈dQ n g k++_↔_;rw[Gr,jg (k:=k)];constructor
  .rintro(⟨p,q,h1,h2⟩|h)
   .exact⟨p,q,by lia,h2⟩
   .obtain⟨q,b,rfl⟩:=G6.mp h;obtain⟨h1,h2⟩:=G8.mp b;exact⟨k,q,by lia,HK.mp h1,h2,rfl⟩
  .rintro⟨p,q,h1,h2,a,rfl⟩;by_cases c:p<k
   .exact .inl ⟨p,q,c,h2,a,rfl⟩
   .have:p=k:=by lia
    subst this;exact .inr (G6.mpr ⟨q,G8.mpr ⟨HK.mpr h2,a⟩,rfl⟩)
def pP(n)(g):((GX n).filter g).length<=n:=GC (HJ _ _) (by rw[ID];exact Gn _)
theorem m6{n:Nat}{g:Nat->Nat->Bool}:∀k:Nat,(dQ n g k).length<=k*n
 | 0=>by simp[dQ]
 | k+1=>by show(dQ n g k++_).length<=_;rw[Gk,F1,JB];have:=m6 (n:=n) (g:=g) k;have:=pP n (g k);lia
def bt(f:∀a x,aw H a x->aw H' a x){xs:List Bfs.Pl}(h:Paired (aw H) as xs):Paired (aw H') as xs:=by
 induction h with
 | nil=>exact .nil
 | cons h t b=>exact .cons (f _ _ h) b
def gq{xs:List Bfs.Pl}{a:Vb}(h:Paired (aw H) as xs)(b:aw H a x):Paired (aw H) (as++[a]) (xs++[x]):=by
 induction h with
 | nil=>exact .cons b .nil
 | cons h _ c=>exact .cons h c
def yq{xs:List Bfs.Pl}(h:Paired (aw H) as xs)(h':Paired (aw H) bs ys):Paired (aw H) (as++bs) (xs++ys):=by
 induction h with
 | nil=>exact h'
 | cons h _ a=>exact .cons h a
def ck{xs:List Bfs.Pl}(h:Paired (aw H) as xs):as.length=xs.length:=by
 induction h with
 | nil=>rfl
 | cons _ _ a=>rw[Gw,Gw,a]
def yg(P:Vd)(w:Ve)(K:FX)(mg:Vm->Option Va)(base:Vh):Sp:=λvs H Q _=>∃a m ws f pre g,vs=[a,.ref f]/\bq H a m ws/\HOuse m ws/\FunR P w K mg base 1 f pre (λvs H Q=>∃p q:Nat,vs=[.int (p:Nat),.int (q:Nat)]/\(p:Int)<m/\(q:Int)<m/\∀H',Ext H H'->Q (.bl (g p q)) H')/\pre H/\(∀H H',Ext H H'->pre H->pre H') ∧
 ∀l ps H',Ext H H'->H l=Vo->H' l=Vn (.lst (A0 V.ref ps))->Paired (aw H') ps (dQ m.toNat g m.toNat)->Q (.ref l) H'
theorem yV(T:Bu w mg base):Cal P w K mg base "told_pairs" 2 ["house","choice"] (yg P w K mg base):=by
 have ln:∀vs H Q E,(yg P w K mg base) vs H Q E->vs.length=2:=by intro vs H Q E h;obtain⟨Z,m,ws,f,pre,g,rfl,_⟩:=h;rfl
 refine(bK T.d_told_pairs).oS ["house","choice","pairs","p"] (λhr nd H vs Q E h=>?_) ln;obtain⟨Z,m,ws,O,pre,g,rfl,hv,ok,hF,s,d,q⟩:=h;have m1:=ok.m1;have m12:=ok.m12;obtain⟨L,a0,rfl,R,_⟩:=id hv;refine⟨_,(@av _ _ _ _ _ (@aG _ _ 2 _ _ _ _ nd rfl oi (@bF _ _ _ _ aa) rfl oi)
   (@av _ _ _ _ _ (bJ B2 rfl (cX rfl T.range_ (ag (@ay _ _ _ _ _ _ _ (aD K) (pv 0) ae (λ_ _=>rfl)) aa rfl)) (aN (i:=3) nd rfl oj) (@az _ _ _ (br (bP K F8 K6 K7 xW (pv 2) (ag (eo ["q"] [3,1] (cX rfl T.range_ (ag (@ay _ _ _ _ _ _ _ (aD K) (pv 0) ae (λ_ _=>rfl)) aa rfl)) (λ_=>(aN (i:=0) (show(["q","p","choice"]:List Vm).Nodup from by decide +kernel) rfl oi oj)) (λ_=>(eJ (cj (wL (P:=P) (w:=w) (K:=K) (mg:=mg) (base:=base) hr (pv 2) (ag (pv 1) (ag (pv 0) aa rfl) rfl))))) (λ_=>(@bz _ _ _ _ _ (ag (pv 1) (ag (pv 0) aa rfl) rfl)))) aa rfl)))))
   (@az _ _ _ (@aL _ _ _ _ (pv 2))))),?_⟩
 walk_at"";refine aO λl H1 S hl B=>?_;walk_at"";refine aB (ax.of (S _ _ R)) (v:=.int m) rfl ?_;walk_at"";refine cU (by lia) ?_;refine forR (λp σ H'=>∃ps k1,Ext H H'/\H' l=Vn (.lst (A0 V.ref ps))/\Paired (aw H') ps (dQ m.toNat g p)/\σ=[Vn (.ref L),Vn (.ref O),Vn (.ref l),k1]) ⟨[],_,S,hl,.nil,rfl⟩ ?_ ?_
 .rintro p σ H2 hp ⟨ps,k1,C,e,j,rfl⟩;rw[show (0:Int)+(p:Int)=((p:Nat):Int) by lia];have a1:=ck j;have a2:=m6 (n:=m.toNat) (g:=g) p;have a3:p*m.toNat<=12*12:=Jx (by lia) (by lia);walk_at"";refine⟨cH (af.of e),?_⟩;walk_at"";refine aB (ax.of (C _ _ R)) (v:=.int m) rfl ?_;walk_at"";refine cU (by lia) ?_;refine f7 (λi ys H'=>Ext H2 H'/\∃cs,ys=A0 V.ref cs/\Paired (aw H') cs (((GX i).filter (g p)).map λq:Nat=>(((p:Nat):Int),((q:Nat):Int)))) (bU (by lia)) ⟨Ext.rfl' _,[],rfl,.nil⟩ ?_ ?_ ?_
  .rintro i ys H' _ ⟨_,cs,rfl,b⟩;rw[F1,ck b,F1];exact pP i (g p)
  .rintro i ys M hi ⟨I,cs,rfl,b⟩;rw[show (0:Int)+(i:Int)=((i:Nat):Int) by lia];have G:=C.trans I;walk_at"";refine vg ?_;walk_at"";refine⟨O,pre,_,rfl,hF,d _ _ G s,?_⟩;walk_at"";refine⟨d _ _ G s,p,i,rfl,by lia,by lia,λH4 A=>?_⟩;have c:=I.trans A;cases U:g p i with
   | false=>
    refine rd_exb (aC ⟨c,cs,rfl,?_⟩);rw[JA,Hc];have:IJ (g p) [i]=[]:=by rw[He,G0 (by rw[U];exact Gi)];rfl
    rw[this,HW];exact bt (λa x h=>A _ _ h) b
   | true=>
    refine rd_exb (aI ?_);walk_at"";refine aO λt H5 W ht _=>?_;refine⟨c.trans W,cs++[t],?_,?_⟩
    .rw[Gj];rfl
    .rw[JA,Hc,Gj];have:IJ (g p) [i]=[i]:=by rw[He,G5 U];rfl
     rw[this];exact gq (bt (λa x h=>(A.trans W) _ _ h) b) ht
  .rintro ys M J ⟨I,cs,rfl,b⟩ N;have A:=bh (o:=.lst (A0 V.ref cs)) N;have X:(upd M J (.lst (A0 V.ref cs))) J=_:=aE;have u:=bt (λa x h=>A _ _ h) b;have c:=I.trans A;have r:=c _ _ e;have y:=bt (λa x h=>c _ _ h) j;generalize upd M J (.lst (A0 V.ref cs))=H4 at A X u c r y ⊢;have hcl:=ck b;rw[F1]at hcl;have Y:=pP m.toNat (g p);walk_at"";refine⟨l,J,_,_,rfl,rfl,r,X,bU (by rw[F1,F1];lia),?_⟩;walk_at"";refine⟨ps++cs,_,b6 (C.trans c) B,?_,?_,rfl⟩
   .rw[aE,Gj]
   .exact yq (bt (λa x h=>aw.put r (λxs z=>by cases z) h) y) (bt (λa x h=>aw.put r (λxs z=>by cases z) h) u)
 .rintro σ H2 ⟨ps,k1,C,e,j,rfl⟩;walk_at"";exact q l ps H2 C B e j
def dE(K:FX):Prop:=∀x∈(["either","kept","low_levels","risen"]:List Vm),∀y∈(["either","kept","low_levels","risen"]:List Vm),x≠y->∀c T c' a,Hm K x=Vn (c,T)->Hm K y=Vn (c',a)->a≠T
def EZ(K:FX):Bool:=(["either","kept","low_levels","risen"]:List Vm).all λx=>(["either","kept","low_levels","risen"]:List Vm).all λy=>x == y || (match Hm K x,Hm K y with|some a,Vn b=>b.2 != a.2|_,_=>true)
def Al{K:FX}(h:EZ K=true):dE K:=λx a y b d c T c' g e f=>by
 have h1:=GF.mp (GF.mp h x a) y b;rw[e,f,LX]at h1;rcases h1 with h1|h1
 .exact absurd (eq_of_beq h1) d
 .exact bne_iff_ne.mp h1
structure Tbs(K:FX)(H:Hp):Prop where
 either:cV K "either" ("either" ++ ".<locals>." ++ "<lambda>") 245 30 H
 kept:cV K "kept" ("kept" ++ ".<locals>." ++ "<lambda>") 162 29 H
 low:cV K "low_levels" ("low_levels" ++ ".<locals>." ++ "<lambda>") 195 39 H
 risen:cV K "risen" ("risen" ++ ".<locals>." ++ "<lambda>") 167 29 H
theorem Tbs.ext{K:FX}{H H':Hp}(e:Ext H H')(h:Tbs K H):Tbs K H':=⟨h.either.ext e,h.kept.ext e,h.low.ext e,h.risen.ext e⟩
def cq.et{kk:List (List Key)}(e:Et H H')(h:cq H p kk):cq H' p kk:=by obtain⟨bs,h1,h2,a⟩:=h;exact⟨bs,e _ _ h1 (λps z=>by cases z),h2,λj b k c d=>e _ _ (a j b k c d) (λps z=>by cases z)⟩
theorem bq.et{H H':Hp}{v:V}{m:Int}{ws:List Way}(e:Et H H')(h:bq H v m ws):bq H' v m ws:=by obtain⟨p,q,rfl,h1,h2⟩:=h;exact⟨p,q,rfl,e _ _ h1 (λps z=>by cases z),h2.et e⟩
def Rows.et(e:Et H H')(h:Rows H q rs n M):Rows H' q rs n M:=⟨e _ _ h.1 (λps z=>by cases z),λi r hi=>e _ _ (h.2 i r hi) (λps z=>by cases z)⟩
def aZ.et(e:Et H H')(h:aZ H bs ws):aZ H' bs ws:=⟨h.1,λj b w a c=>e _ _ (h.2 j b w a c) (λps z=>by cases z)⟩
def aw.et(e:Et H H')(h:aw H p x):aw H' p x:=e _ _ h (λps z=>by cases z)
def fY(H:Hp)(l:Vb)(n:Nat)(R:Nat->Nat->Prop):Prop:=∃ps g,H l=Vn (.lst (A0 V.ref ps))/\Paired (aw H) ps (dQ n g n)/\∀i j,i<n->j<n->(g i j=true↔R i j)
theorem fY.et{H H':Hp}(e:Et H H'){l:Vb}{n:Nat}{R:Nat->Nat->Prop}(h:fY H l n R):fY H' l n R:=by obtain⟨ps,g,h1,h2,b⟩:=h;exact⟨ps,g,e _ _ h1 (λps z=>by cases z),bt (λa x h=>h.et e) h2,b⟩
def held{c a:Hp}(h:∀b o,cs.lookup b=Vn o->c b=Vo)(d:Ext (cb cs c) a):(∀b o,cs.lookup b=Vn o->a b=Vn (dJ b o))/\Ext c (bw cs a)/\(∀l,cb cs c l=Vo->bw cs a l=a l)/\∀b x,a b=Vn x->(∀f,x≠.ext f)->bw cs a b=Vn x:=by
 have e:∀b o,cs.lookup b=Vn o->a b=Vn (dJ b o):=λb o q=>d _ _ (fW q);refine⟨e,Ez h d,λl g=>?_,λb x hb nx=>iM e hb nx⟩;cases q:cs.lookup l with
 | none=>exact df q
 | some o=>rw[fW q]at g;cases g
def qz{α:Type}{cp:List α}(h:cp.length=1):∃e,cp=[e]:=by
 cases cp with
 | nil=>exact absurd h (by simp)
 | cons e r=>
  cases r with
  | nil=>exact⟨e,rfl⟩
  | cons _ _=>exact absurd h (by simp)
def mL{α:Type}{cp:List α}(h:cp.length=2):∃e e',cp=[e,e']:=by
 cases cp with
 | nil=>exact absurd h (by simp)
 | cons e r=>
  obtain⟨e',rfl⟩:=qz (cp:=r) (by simpa using h);exact⟨e,e',rfl⟩
def Cg{α:Type}{cp:List α}(h:cp.length=3):∃e e' a,cp=[e,e',a]:=by
 cases cp with
 | nil=>exact absurd h (by simp)
 | cons e r=>
  obtain⟨e',a,rfl⟩:=mL (cp:=r) (by simpa using h);exact⟨e,e',a,rfl⟩
def ow{K:FX}{f:Vb}{q:Vm}(g:H0 f=Vn (fN f c q params body scope cl))(C:ClOk scope cells cl)(ps)(cp)(R)(I:Hp->Prop)
  (S:LamSc ps scope) (bind:∀pm cv ctv us,us.length=ps.length->bindArgs (Lr "<lambda>" q params body scope cl pm cv ctv) ⟨us,[]⟩=pure (ps.zip us))
  (d:∀vs H Q,R vs H Q->vs.length=ps.length)
  (a:∀A outer s H (vs:List V) Q,Room k (A.deeper (fS q scope s.heap.objs.size f (.ref c) cl))->i6 f c q params body scope cl cp H->I H->R vs H Q ->
   ∃te,PE (j7 P w K mg base (ps++cp.map (·.n)) q scope f (.ref c) cl A outer s (bw (cellsOf cp) H)) body te/\te (vs.map Vn++cp.map λe=>Vn e.v) (bw (cellsOf cp) H) λv H'=>(∀b o,(cellsOf cp).lookup b=Vn o->H' b=Vo)->Q v (cb (cellsOf cp) H')) :
  FunR P w K mg base (k+1) f (λH=>i6 f c q params body scope cl cp H/\I H) R:=B4 I S C bind d a
inductive sC(K:FX)(vs:List V)(H:Hp)(Q:VK)(E:XK):Prop|mk:∀a m ws,vs=[a]->bq H a m ws->HOuse m ws->dE K->Tbs K H->(∀l H',Et H H'->Tbs K H'->fY H' l m.toNat (Kpt ws m.toNat)->Q (.ref l) H')->sC K vs H Q E
theorem BC(T:Bu w mg base):Cal P w K mg base "kept" 7 ["house"] (sC K):=by
 obtain⟨c9,T9,B⟩:=T.b_kept;refine(cI T.d_kept).oL B ["house","table"] λhr nd H vs Q E h=>?_;obtain⟨vh,m,ws,rfl,hv,ok,J,C,q⟩:=h;refine⟨_,(av (br (aF (lA T) hr (ao (pv 0) aa)))
   (av (aG (i:=1) nd rfl oj (aF (xG T) hr (ao (pv 0) aa)))
   (az (aL (nG [1] (yV T) hr (ao (pv 0) (ao (m8 rfl rfl B.hd B.blt B.gl (by decide +kernel) rfl rfl rfl) aa))))))),?_⟩
 walk_at"";refine⟨vh,m,ws,rfl,hv,ok,λH1 e1=>?_⟩;walk_at"";refine⟨vh,m,ws,rfl,hv.ext e1,ok,λtq rs M H2 kt km=>?_⟩;have g:=e1.trans kt.ext;have L:=kt.rows;have ak:=kt.len;walk_at"";show kA _ [1] _ (["house","table"]:List Vm) _ _ _ _;generalize LZ _=cells0;refine pK ?_;walk_at"";refine nh ?_;refine oF (x:="kept") (C.ext g).kept B.tin λfl c' cl H3 hcl e3 a9 ot hf ab=>?_;have t3:Tbs K H3:=⟨ot "either" _ _ _ (λc2 T2 W=>J "kept" (by simp) "either" (by simp) (by decide +kernel) _ _ _ _ B.tin W) (C.ext g).either,a9,ot "low_levels" _ _ _ (λc2 T2 W=>J "kept" (by simp) "low_levels" (by simp) (by decide +kernel) _ _ _ _ B.tin W) (C.ext g).low,ot "risen" _ _ _ (λc2 T2 W=>J "kept" (by simp) "risen" (by simp) (by decide +kernel) _ _ _ _ B.tin W) (C.ext g).risen⟩;walk_at"";refine⟨λj hj=>?_,λcp hlen X=>?_⟩
 .rw[Gb.mp hj];exact⟨_,rfl⟩
 obtain⟨⟨n,c,o,v⟩,rfl⟩:=qz hlen;obtain⟨hN,Y,N,y,u,G,I⟩:=X 0 1 _ rfl rfl;clear X hlen;dsimp only at hN Y N y G I;have ac:(GJ "table")=n:=GK hN;have Z:(V.ref tq)=v:=GK (GK N);clear hN N;subst ac;subst Z;have a0:∀b o',(cellsOf [⟨GJ "table",c,o,V.ref tq⟩]).lookup b=Vn o'->H3 b=Vo:=λb o' hb=>by obtain⟨e,he,rfl,rfl⟩:=iP hb;rw[Gb.mp he];exact y
 have ex:=lb a0;have F:=(L.et e3).ext ex;have ad:=((hv.ext g).et e3).ext ex;have O:Caps (cb (cellsOf [⟨GJ "table",c,o,V.ref tq⟩]) H3) cl [⟨GJ "table",c,o,V.ref tq⟩]:=by
  obtain⟨c2,R⟩:=hcl.has (GJ "table") rfl;have a5:=(hcl.fr _ _ R).2;rw[Y]at a5;cases a5;refine⟨λe he=>?_,λx d hx=>?_⟩
  .rw[Gb.mp he];exact⟨R,fW (by simp[cellsOf]),u,G,I⟩
  .have hm:=jl (hcl.fr x d hx).1;simp at hm;subst hm;rw[R]at hx;cases hx;exact⟨_,Gb.mpr rfl,rfl,rfl⟩
 have hF:=ow (P:=P) (w:=w) (K:=K) (mg:=mg) (base:=base) (k:=0) hf hcl (["p","q"]:List Vm) [⟨GJ "table",c,o,V.ref tq⟩] (λvs H Q=>∃p q:Nat,vs=[.int (p:Nat),.int (q:Nat)]/\(p:Int)<m/\(q:Int)<m/\∀H',Ext H H'->Q (.bl (M p q)) H') (λH=>Rows H tq rs m.toNat M) ⟨rfl,rfl,rfl,by decide +kernel,by decide +kernel⟩ (λ_ _ _ us hl=>by obtain⟨u1,u2,rfl⟩:=mL hl;rfl) (λvs H Q h=>by obtain⟨p,q,rfl,_⟩:=h;rfl) (λA outer s H vs Q am a6 hI hR=>by
  obtain⟨p,q,rfl,hp,hq,hQ⟩:=hR;have S:=a6.2.2.look;have U:Rows (bw (cellsOf [⟨GJ "table",c,o,V.ref tq⟩]) H) tq rs m.toNat M:=⟨iM S hI.1 (λf z=>by cases z),λi r hi=>iM S (hI.2 i r hi) (λf z=>by cases z)⟩;refine⟨_,(ay (aQ K) (ay (aQ K) (pv 2) (pv 0) (λ_ _=>rfl)) (pv 1) (λ_ _=>rfl)),?_⟩;have hb:=zI S;generalize bw (cellsOf [⟨GJ "table",c,o,V.ref tq⟩]) H=HU at U hb ⊢;have ah:p<rs.length:=by lia
  have gp:rs[p]?=Vn rs[p]:=F2 ah;have rp:=U.2 p _ gp;generalize rs[p]=ap at gp rp;show jC _ _ _ [Vn (.int (p:Nat)),Vn (.int (q:Nat)),Vn (.ref tq)] _ _;walk_at"";refine aR (af.of U.1) (v:=.ref ap) (cO (by rw[F3,gp];rfl)) ?_;walk_at"";refine aR (af.of rp) (fk (by lia) (by lia)) ?_;rw[Gf];exact λ_=>hQ _ hb)
 refine⟨vh,m,ws,fl,_,M,rfl,ad,ok,hF,⟨⟨ex _ _ hf,ex _ _ ab,O⟩,F⟩,λH H' e h=>⟨h.1.ext e,h.2.ext e⟩,λl ps H4 e4 hl ai aj=>?_⟩;obtain⟨a1,a2,a3,a4⟩:=held a0 e4;exact⟨a1,q l _ ((g.et.trans e3).trans a2.et) (t3.ext a2) ⟨ps,M,a4 _ _ ai (λf z=>by cases z),bt (λa x h=>a4 _ _ h (λf z=>by cases z)) aj,km⟩⟩
def bD(ws:List Way)(n:Nat)(i j:Nat):Prop:=∃u∈ws,u.deed = "up"/\u.room.toNat=i/\Kpt ws n u.other.toNat j
def xH(a:∀b o,cs.lookup b=Vn o->H b=Vn (dJ b o))(e:Ext (bw cs H) H'):Ext H (cb cs H'):=λb x hb=>by
 cases q:cs.lookup b with
 | none=>rw[dy q];exact e b x (by rw[df q];exact hb)
 | some o=>rw[fW q,<-a b o q];exact hb
def lO(us:List Way)(M:Nat->Nat->Bool)(p q:Nat):Bool:=((us.filter λu=>decide (u.room=(p:Int))).map λu=>M u.other.toNat q).any id
inductive yP(K:FX)(vs:List V)(H:Hp)(Q:VK)(E:XK):Prop|mk:∀a m ws,vs=[a]->bq H a m ws->HOuse m ws->dE K->Tbs K H->(∀l H',Et H H'->Tbs K H'->fY H' l m.toNat (bD ws m.toNat)->Q (.ref l) H')->yP K vs H Q E
theorem zZ(T:Bu w mg base):Cal P w K mg base "risen" 7 ["house"] (yP K):=by
 obtain⟨c9,T9,B⟩:=T.b_risen;refine(cI T.d_risen).oL B ["house","table","ups"] λhr nd H vs Q E h=>?_;obtain⟨vh,m,ws,rfl,hv,ok,ac,Y,q⟩:=h;have few:=ok.few;refine⟨_,(av (br (aF (lA T) hr (ao (pv 0) aa)))
   (av (aG (i:=1) nd rfl oj (aF (xG T) hr (ao (pv 0) aa)))
   (av (aG (i:=2) nd rfl oj (aF (lY T) hr (ao (pv 0) (ao bf aa))))
   (az (aL (nG [2,1] (yV T) hr (ao (pv 0) (ao (m8 rfl rfl B.hd B.blt B.gl (by decide +kernel) rfl rfl rfl) aa)))))))),?_⟩
 walk_at"";refine⟨vh,m,ws,rfl,hv,ok,λH1 e1=>?_⟩;walk_at"";refine⟨vh,m,ws,rfl,hv.ext e1,ok,λtq rs M c4 kt km=>?_⟩;walk_at"";refine⟨vh,m,ws,_,rfl,hv.ext (e1.trans kt.ext),ok,λlu cu us H2 X c5 aq ar ad=>?_⟩;have F:=(e1.trans kt.ext).trans X;have ah:=kt.rows.ext X;have ca:=kt.len;have as:=ar.1;have cd:us.length<=100:=by rw[ad];exact GC (HJ _ _) few
 have hin:∀u∈us,u∈ws/\u.deed=GJ "up":=λu hu=>by rw[ad]at hu;obtain⟨h1,h2⟩:=G8.mp hu;exact⟨h1,of_decide_eq_true h2⟩
 walk_at"";show kA _ [2,1] _ (["house","table","ups"]:List Vm) _ _ _ _;generalize LZ _=cells0;refine pK ?_;walk_at"";refine nh ?_;refine oF (x:="risen") (Y.ext F).risen B.tin λfl c' cl H3 hcl e3 bg ot hf bi=>?_;have t3:Tbs K H3:=⟨ot "either" _ _ _ (λc2 T2 X=>ac "risen" (by simp) "either" (by simp) (by decide +kernel) _ _ _ _ B.tin X) (Y.ext F).either,ot "kept" _ _ _ (λc2 T2 X=>ac "risen" (by simp) "kept" (by simp) (by decide +kernel) _ _ _ _ B.tin X) (Y.ext F).kept,ot "low_levels" _ _ _ (λc2 T2 X=>ac "risen" (by simp) "low_levels" (by simp) (by decide +kernel) _ _ _ _ B.tin X) (Y.ext F).low,bg⟩;walk_at"";refine⟨λj hj=>?_,λcp hlen ai=>?_⟩
 .rcases Gh.mp hj with rfl|hj
  .exact⟨_,rfl⟩
  .rw[Gb.mp hj];exact⟨_,rfl⟩
 obtain⟨⟨n,c,o,v⟩,⟨n',d,o',v'⟩,rfl⟩:=mL hlen;obtain⟨hN,au,aj,I,u,a5,a6⟩:=ai 0 2 _ rfl rfl;obtain⟨ak,a9,J,y,u2,L,N⟩:=ai 1 1 _ rfl rfl;clear ai hlen;dsimp only at hN au aj I a5 a6 ak a9 J y L N;have bm:(GJ "ups")=n:=GK hN;have b0:(V.ref lu)=v:=GK (GK aj);have b1:(GJ "table")=n':=GK ak;have am:(V.ref tq)=v':=GK (GK J);clear hN aj ak J;subst bm;subst b0;subst b1;subst am;obtain⟨c2,O⟩:=hcl.has (GJ "ups") rfl;obtain⟨d2,R⟩:=hcl.has (GJ "table") rfl;have b2:=(hcl.fr _ _ O).2;have b4:=(hcl.fr _ _ R).2;rw[au]at b2;rw[a9]at b4;cases b2;cases b4;have bn:c≠d:=λz=>by have:=hcl.inj _ _ _ O (z ▸ R);exact absurd this (by decide +kernel)
 have b5:∀b o9,(cellsOf [⟨GJ "ups",c,o,V.ref lu⟩,⟨GJ "table",d,o',V.ref tq⟩]).lookup b=Vn o9->H3 b=Vo:=λb o9 hb=>by
  obtain⟨e,he,rfl,rfl⟩:=iP hb;rcases Gh.mp he with rfl|he
  .exact I
  .rw[Gb.mp he];exact y
 have ex:=lb b5;have Z:=(ah.et e3).ext ex;have b7:=ex _ _ (e3 _ _ aq (λps z=>by cases z));have b8:=(ar.et e3).ext ex;have bu:=((hv.ext F).et e3).ext ex;have an:Caps (cb (cellsOf [⟨GJ "ups",c,o,V.ref lu⟩,⟨GJ "table",d,o',V.ref tq⟩]) H3) cl [⟨GJ "ups",c,o,V.ref lu⟩,⟨GJ "table",d,o',V.ref tq⟩]:=by
  refine⟨λe he=>?_,λx g C=>?_⟩
  .rcases Gh.mp he with rfl|he
   .exact⟨O,fW (by simp[cellsOf]),u,a5,a6⟩
   .rw[Gb.mp he];refine⟨R,fW ?_,u2,L,N⟩;show KG d ((c,o)::[(d,o')])=Vn o';rw[GS,show (d == c)=false from beq_eq_false_iff_ne.mpr (HQ bn),GS,beq_self_eq_true]
  .have hm:=jl (hcl.fr x g C).1;simp at hm;rcases hm with rfl|rfl
   .first|(rw[O]at C;cases C;exact⟨_,F7,rfl,rfl⟩)|(rw[R]at C;cases C;exact⟨_,F4 _ (Gb.mpr rfl),rfl,rfl⟩)
   .first|(rw[O]at C;cases C;exact⟨_,F7,rfl,rfl⟩)|(rw[R]at C;cases C;exact⟨_,F4 _ (Gb.mpr rfl),rfl,rfl⟩)
 have hF:=ow (P:=P) (w:=w) (K:=K) (mg:=mg) (base:=base) (k:=0) hf hcl (["p","q"]:List Vm) [⟨GJ "ups",c,o,V.ref lu⟩,⟨GJ "table",d,o',V.ref tq⟩] (λvs H Q=>∃p q:Nat,vs=[.int (p:Nat),.int (q:Nat)]/\(p:Int)<m/\(q:Int)<m/\∀H',Ext H H'->Q (.bl (lO us M p q)) H') (λH=>Rows H tq rs m.toNat M/\H lu=Vn (.lst (A0 V.ref cu))/\aZ H cu us) ⟨rfl,rfl,rfl,by decide +kernel,by decide +kernel⟩ (λ_ _ _ us hl=>by obtain⟨u1,u2,rfl⟩:=mL hl;rfl) (λvs H Q h=>by obtain⟨p,q,rfl,_⟩:=h;rfl) (λA outer s H vs Q ce ba hI hR=>by
  obtain⟨p,q,rfl,hp,hq,hQ⟩:=hR;have S:=ba.2.2.look;obtain⟨bb,bv,bc⟩:=hI;have U:Rows (bw (cellsOf [⟨GJ "ups",c,o,V.ref lu⟩,⟨GJ "table",d,o',V.ref tq⟩]) H) tq rs m.toNat M:=⟨iM S bb.1 (λf z=>by cases z),λi r hi=>iM S (bb.2 i r hi) (λf z=>by cases z)⟩;have W:=iM S bv (λf z=>by cases z);have ab:aZ (bw (cellsOf [⟨GJ "ups",c,o,V.ref lu⟩,⟨GJ "table",d,o',V.ref tq⟩]) H) cu us:=⟨bc.1,λj b w e1 X=>iM S (bc.2 j b w e1 X) (λf z=>by cases z)⟩;refine⟨_,(bx (Az K rfl) rfl T.any_ PyProof.Rows.boot_any (ao (eo ["way"] [3,1,0] (bW K (pv 2)) (λ_=>(aN (i:=0) (show(["way","table","q","p"]:List Vm).Nodup from by decide +kernel) rfl oi oj)) (λ_=>(eJ (aU bY (ay (aD K) (pv 0) ae (λ_ _=>rfl)) (pv 3) (aT _)))) (λ_=>(ay (aQ K) (ay (aQ K) (pv 1) (ay (aD K) (pv 0) ae (λ_ _=>rfl)) (λ_ _=>rfl)) (pv 2) (λ_ _=>rfl)))) aa)),?_⟩;have hb:∀H',Ext (bw (cellsOf [⟨GJ "ups",c,o,V.ref lu⟩,⟨GJ "table",d,o',V.ref tq⟩]) H) H'->Ext H (cb (cellsOf [⟨GJ "ups",c,o,V.ref lu⟩,⟨GJ "table",d,o',V.ref tq⟩]) H'):=λH' e=>xH S e;generalize bw (cellsOf [⟨GJ "ups",c,o,V.ref lu⟩,⟨GJ "table",d,o',V.ref tq⟩]) H=HU at U W ab hb ⊢;show l5 _ _ [Vn (.int (p:Nat)),Vn (.int (q:Nat)),Vn (.ref lu),Vn (.ref tq)] _ _;walk_at"";refine bX (af.of W) ?_;refine dP (xs:=A0 V.ref cu) (λi ys H'=>H'=HU/\ys=(((us.take i).filter λu=>decide (u.room=(p:Int))).map λu=>M u.other.toNat q).map V.bl) (bU (by rw[F1];lia)) ⟨rfl,rfl⟩ (λi ys H' _ h=>⟨by rw[h.1];exact af.of W,by rw[h.2,F1,F1];exact GC (HJ _ _) (by rw[GU];lia)⟩) ?_ ?_
  .rintro i v ys H4 C ⟨rfl,rfl⟩;rw[F3]at C;obtain⟨b,be,rfl⟩:=Ge.mp C;have hi:i<us.length:=by rw[<-as];exact(F9.mp be).1
   have gu:us[i]?=Vn us[i]:=F2 hi;have ap:=ab.2 i b _ be gu;generalize us[i]=G at gu ap;have a0:=ok.ok G (hin G (Ga gu)).1;have v0:=a0.r0;have v1:=a0.r1;have v2:=a0.o0;have v3:=a0.o1;have x2:G.other.toNat<rs.length:=by lia
   have r2:rs[G.other.toNat]?=Vn rs[G.other.toNat]:=F2 x2;have w2:=U.2 _ _ r2;generalize rs[G.other.toNat]=a2 at r2 w2;have at2:bT (rs.map V.ref) G.other=Vn (.ref a2):=eO v2 (by rw[F3,r2];rfl);walk_at"";refine aB (ax.of ap) (v:=.int G.room) rfl ?_;walk_at"";cases hc:decide (G.room=(p:Int))with
   | true=>
    refine aI ?_;walk_at"";refine aB (ax.of ap) (v:=.int G.other) rfl ?_;walk_at"";refine aR (af.of U.1) at2 ?_;walk_at"";refine aR (af.of w2) (fk (by lia) (by lia)) ?_;rw[Gf];refine⟨rfl,?_⟩;rw[G7,gu,Hc,Gj,Gj];congr 1;show[V.bl _]=A0 V.bl (A0 _ (IJ _ [G]));rw[He,G5 hc];rfl
   | false=>
    refine aC ⟨rfl,?_⟩;have hno:IJ (λu:Way=>decide (u.room=(p:Int))) [G]=[]:=by rw[He,G0 (by rw[hc];exact Gi)];rfl
    rw[G7,gu,Hc];show _=A0 V.bl (A0 _ (_++IJ _ [G]));rw[hno,HW]
  .rintro ys H4 p9 ⟨hH,rfl⟩ c0;subst hH;rw[F1,as,Gx];have e9:=bh (o:=.lst (((us.filter λu=>decide (u.room=(p:Int))).map λu=>M u.other.toNat q).map V.bl)) c0;walk_at"";refine⟨p9,_,rfl,af.of aE,?_⟩;exact λ_=>hQ _ (hb _ e9))
 refine⟨vh,m,ws,fl,_,lO us M,rfl,bu,ok,hF,⟨⟨ex _ _ hf,ex _ _ bi,an⟩,Z,b7,b8⟩,λH H' e h=>⟨h.1.ext e,h.2.1.ext e,e _ _ h.2.2.1,h.2.2.2.ext e⟩,λl ps H4 e4 hl c1 c3=>?_⟩;obtain⟨a1,a2,a3,a4⟩:=held b5 e4;refine⟨a1,q l _ ((F.et.trans e3).trans a2.et) (t3.ext a2) ⟨ps,lO us M,a4 _ _ c1 (λf z=>by cases z),bt (λa x h=>a4 _ _ h (λf z=>by cases z)) c3,λi j hi hj=>?_⟩⟩;unfold lO bD;rw[LR,GG];constructor
 .rintro⟨x,C,hm⟩;obtain⟨x1,x2⟩:=G8.mp C;have x2:=of_decide_eq_true x2;obtain⟨y1,y2⟩:=hin x x1;exact⟨x,y1,y2,by lia,(km _ _ (jM ok.ok y1).2 hj).mp hm⟩
 .rintro⟨x,h1,h2,h3,h4⟩;have r0:=(ok.ok x h1).r0;refine⟨x,G8.mpr ⟨by rw[ad];exact G8.mpr ⟨h1,GZ h2⟩,GZ (by lia)⟩,?_⟩;exact(km _ _ (jM ok.ok h1).2 hj).mpr h4
def dG(us:List Way)(x:Bfs.Pl):List Bfs.Pl:=(us.filter λw=>cw w x.1 x.2).map λw=>(w.other,x.2+rz w.deed)
inductive qI(K:FX)(vs:List V)(H:Hp)(Q:VK)(E:XK):Prop|mk:∀l bs us p x,vs=[.ref l,.ref p]->H l=Vn (.lst (A0 V.ref bs))->aZ H bs us->(∀w∈us,cD w.deed)->us.length<=100->aw H p x->(∀a ps H',Ext H H'->H a=Vo->H' a=Vn (.lst (A0 V.ref ps))->Paired (aw H') ps (dG us x)->Q (.ref a) H')->qI K vs H Q E
theorem En(T:Bu w mg base):Cal P w K mg base "led_to_from" 3 ["ways","place"] (qI K):=by
 refine(bK T.d_led_to_from).oS ["ways","place"] λC nd H vs Q E h=>?_;obtain⟨l,bs,us,p,x,rfl,F,m,y,I,A,q⟩:=h;have n:=m.1;refine⟨_,(@az _ _ _ (@aL _ _ _ _ (eo ["way"] [1] (bW K (pv 0)) (λ_=>(aN (i:=0) (show(["way","place"]:List Vm).Nodup from by decide +kernel) rfl oi oj)) (λ_=>(eJ (cj (aF (mI T) C (ag (pv 0) (ag (pv 1) aa rfl) rfl))))) (λ_=>(aF (lx T) C (ag (pv 0) (ag (pv 1) aa rfl) rfl)))))),?_⟩;walk_at"";refine bX (af.of F) ?_;refine dP (xs:=A0 V.ref bs) (λi ys H'=>Ext H H'/\∃ps,ys=A0 V.ref ps/\Paired (aw H') ps (dG (us.take i) x)) (bU (by rw[F1];lia)) ⟨Ext.rfl' _,[],rfl,.nil⟩ (λi ys H' _ h=>by obtain⟨e,ps,rfl,c⟩:=h;refine⟨af.of (e _ _ F),?_⟩;rw[F1,ck c];unfold dG;rw[F1];exact GC (HJ _ _) (by rw[GU];lia)) ?_ ?_
 .rintro i v ys H1 G ⟨f,ps,rfl,c⟩;rw[F3]at G;obtain⟨b,hb,rfl⟩:=Ge.mp G;have hi:i<us.length:=by rw[<-n];exact(F9.mp hb).1
  have s:us[i]?=Vn us[i]:=F2 hi;have g:=f _ _ (m.2 i b _ hb s);generalize us[i]=u at s g;have d:aw H1 p x:=f _ _ A;walk_at"";refine⟨b,u,p,x,rfl,g,d,?_⟩;have step:dG (us.take (i+1)) x=dG (us.take i) x++dG [u] x:=by unfold dG;rw[G7,s,Hc,Gj];rfl
  cases ho:cw u x.1 x.2 with
  | false=>
   refine rd_exb (aC ⟨f,ps,rfl,?_⟩);rw[step];have:dG [u] x=[]:=by unfold dG;rw[He,G0 (by rw[ho];exact Gi)];rfl
   rw[this,HW];exact c
  | true=>
   refine rd_exb (aI ?_);walk_at"";refine⟨b,u,p,x,rfl,g,y u (Ga s),d,λt H2 r J _=>?_⟩;refine⟨f.trans r,ps++[t],?_,?_⟩
   .rw[Gj];rfl
   .rw[step];have:dG [u] x=[(u.other,x.2+rz u.deed)]:=by unfold dG;rw[He,G5 ho];rfl
    rw[this];exact gq (bt (λa x h=>r _ _ h) c) J
 .rintro ys H1 B ⟨f,ps,rfl,c⟩ j;rw[F1,n,Gx]at c;have r:=bh (o:=.lst (A0 V.ref ps)) j;have L:H B=Vo:=by
   cases z:H B with
   | none=>rfl
   | some o=>rw[f _ _ z]at j;cases j
  exact q B ps _ (f.trans r) L aE (bt (λa x h=>r _ _ h) c)
structure WT(H:Hp)(c:Vb)(n:Nat)(ls:List Vb)(ws:List Way):Prop where
 at_:H c=Vn (.lst (A0 V.ref ls))
 len:ls.length=n
 it:∀(r:Nat) (l:Vb),ls[r]?=Vn l->∃bs,H l=Vn (.lst (A0 V.ref bs))/\aZ H bs (ws.filter λw=>decide (w.room=(r:Int)))
theorem WT.ext{H H':Hp}{c:Vb}{n:Nat}{ls:List Vb}{ws:List Way}(e:Ext H H')(h:WT H c n ls ws):WT H' c n ls ws:=
 ⟨e _ _ h.at_,h.len,λr l a=>by obtain⟨bs,h1,h2⟩:=h.it r l a;exact⟨bs,e _ _ h1,h2.ext e⟩⟩
theorem WT.et{H H':Hp}{c:Vb}{n:Nat}{ls:List Vb}{ws:List Way}(e:Et H H')(h:WT H c n ls ws):WT H' c n ls ws:=
 ⟨e _ _ h.at_ (λps z=>by cases z),h.len,λr l a=>by obtain⟨bs,h1,h2⟩:=h.it r l a;exact⟨bs,e _ _ h1 (λps z=>by cases z),h2.et e⟩⟩
def Fq{w:Way}(h:ws[i]?=Vn w)(p):(ws.take (i+1)).filter p=(ws.take i).filter p++if p w then[w]else[]:=by rw[G7,h,Hc];congr 1;show IJ p [w]=_;rw[He];rfl
inductive yr(K:FX)(vs:List V)(H:Hp)(Q:VK)(E:XK):Prop|mk:∀v m ws,vs=[v]->bq H v m ws->HOuse m ws->(∀c ls H',Ext H H'->WT H' c m.toNat ls ws->Q (.ref c) H')->yr K vs H Q E
theorem Cd(T:Bu w mg base):Cal P w K mg base "ways_by_room" 1 ["house"] (yr K):=by
 refine(cI T.d_ways_by_room).oS ["house","ways","way"] λC nd H vs Q E h=>?_;obtain⟨v,m,ws,rfl,hv,ok,q⟩:=h;obtain⟨Y,Z,rfl,hh,hw⟩:=id hv;obtain⟨bs,hq,n⟩:=cq.al hw;have p:=n.1;have few:=ok.few;have m1:=ok.m1;have m12:=ok.m12;refine⟨_,(@av _ _ _ _ _ (di (i:=1) ["room"] [] nd rfl oi (cX rfl T.range_ (ag (@ay _ _ _ _ _ _ _ (aD K) (pv 0) ae (λ_ _=>rfl)) aa rfl)) (λ_=>(aN (i:=0) (show(["room"]:List Vm).Nodup from by decide +kernel) rfl oi oj)) (λ_=>dn) (λ_=>(@bF _ _ _ _ aa)))
   (@av _ _ _ _ _ (bJ B2 rfl (jH K (@ay _ _ _ _ _ _ _ (aD K) (pv 0) ae (λ_ _=>rfl))) (aN (i:=2) nd rfl oi) (@az _ _ _ (br (bP K F8 Gp Gq bZ (@ay _ _ _ _ _ _ _ (aQ K) (pv 1) (@ay _ _ _ _ _ _ _ (aD K) (pv 2) ae (λ_ _=>rfl)) (λ_ _=>rfl)) (ag (pv 2) aa rfl)))))
   (@az _ _ _ (@aL _ _ _ _ (pv 1))))),?_⟩
 walk_at"";refine aB (ax.of hh) (v:=.int m) rfl ?_;walk_at"";refine cU (by omega) ?_;refine f7 (λi ys H'=>Ext H H'/\∃ls:List Vb,ys=A0 V.ref ls/\ls.length=i/\ls.Nodup/\∀l∈ls,H' l=Vn (.lst [])/\H l=Vo) (bU (by lia)) ⟨Ext.rfl' _,[],rfl,rfl,IF,λl h=>(nomatch h)⟩ (λi ys H' _ h=>by obtain⟨_,ls,rfl,h,_⟩:=h;rw[F1,h];exact Gn _) ?_ ?_
 .rintro i ys H' hi ⟨e,ls,rfl,U,F,hls⟩;walk_at"";refine aI ?_;walk_at"";refine aO λl H1 e1 a0 s=>?_;refine⟨e.trans e1,ls++[l],by rw[Gj];rfl,by rw[Gk,U];rfl,?_,?_⟩
  .rw[HP];refine⟨F,by simp,λa ha b hb z=>?_⟩;have p:b=l:=by simpa using hb
   subst p;subst z;rw[(hls a ha).1]at s;cases s
  .intro a ha;rcases Gr.mp ha with z|z
   .exact⟨e1 _ _ (hls a z).1,(hls a z).2⟩
   .have n:a=l:=by simpa using z
    subst n;refine⟨a0,?_⟩;cases y:H a with
    | none=>rfl
    | some o=>rw[e _ _ y]at s;cases s
 .rintro ys H1 c ⟨e,ls,rfl,U,F,hls⟩ G;have W:Ext H (upd H1 c (.lst (A0 V.ref ls))):=e.trans (bh G);have a3:H c=Vo:=by
   cases y:H c with
   | none=>rfl
   | some o=>rw[e _ _ y]at G;cases G
  have a1:c∉ls:=λz=>by rw[(hls c z).1]at G;cases G
  have hcl:∀l∈ls,H l=Vo:=λl h=>(hls l h).2;have hit:∀(r:Nat) (l:Vb),ls[r]?=Vn l->∃bs,(upd H1 c (.lst (A0 V.ref ls))) l=Vn (.lst (A0 V.ref bs))/\aZ (upd H1 c (.lst (A0 V.ref ls))) bs ((ws.take 0).filter λw=>decide (w.room=(r:Int))):=λr l C=>⟨[],(bh G) _ _ (hls l (Ga C)).1,aZ.nil _⟩;have L:(upd H1 c (.lst (A0 V.ref ls))) c=_:=aE;generalize upd H1 c (.lst (A0 V.ref ls))=H2 at W hit L ⊢;clear hls G e H1;walk_at"";refine aB (ax.of (W _ _ hh)) (v:=.ref Z) rfl ?_;walk_at"";refine jA (ax.of (W _ _ hq)) ?_;refine mE (xs:=bs.map V.ref) (λi σ H'=>∃k1,σ=[Vn (.ref Y),Vn (.ref c),k1]/\Ext H H'/\H' c=Vn (.lst (A0 V.ref ls))/\∀(r:Nat) (l:Vb),ls[r]?=Vn l->∃bs,H' l=Vn (.lst (A0 V.ref bs))/\aZ H' bs ((ws.take i).filter λw=>decide (w.room=(r:Int)))) ⟨Vo,rfl,W,L,hit⟩ (λi σ H' _ h=>by obtain⟨_,_,e,_⟩:=h;exact ax.of (e _ _ hq)) ?_ ?_
  .rintro i u σ H3 hu ⟨k1,rfl,X,x,d⟩;rw[F3]at hu;obtain⟨b,hb,rfl⟩:=Ge.mp hu;have hi:i<ws.length:=by rw[<-p];exact(F9.mp hb).1
   have A:ws[i]?=Vn ws[i]:=F2 hi;have B:=X _ _ (n.2 i b _ hb A);generalize ws[i]=j at A B;have M:=ok.ok j (Ga A);have r0:=M.r0;have r1:=M.r1;have a2:j.room.toNat<ls.length:=by rw[U];lia
   have f:ls[j.room.toNat]?=Vn ls[j.room.toNat]:=F2 a2;generalize ls[j.room.toNat]=l at f;have N:=Ga f;obtain⟨cs,g,O⟩:=d _ _ f;have R:cs.length<=100:=by rw[O.1];exact GC (HJ _ _) (by rw[GU];lia)
   have S:c≠l:=λz=>a1 (z ▸ N);walk_at"";refine aB (ax.of B) (v:=.int j.room) rfl ?_;walk_at"";refine aR (af.of x) (v:=.ref l) (eO r0 (by rw[F3,f];rfl)) ?_;refine⟨cH (af.of g),?_⟩;walk_at"";refine bV g (by rw[F1];exact IE R (by decide)) ?_;walk_at"";refine⟨_,rfl,b6 X (hcl l N),by rw[aA S];exact x,λr l' C=>?_⟩;rw[Fq A];by_cases I:l'=l
   .subst I;have J:r=j.room.toNat:=(Ij (F9.mp C).1 F).mp (by rw[C,f]);subst J;refine⟨cs++[b],?_,?_⟩
    .rw[aE,Gj];rfl
    .rw[G5 (GZ (by lia))];have put:aZ (upd H3 l' (.lst (A0 V.ref cs++[.ref b]))) cs ((ws.take i).filter λw=>decide (w.room=((j.room.toNat:Nat):Int))):=O.put g;exact put.snoc (by rw[aA (bA B g (λz=>by cases z))];exact B)
   .obtain⟨ds,h1,h2⟩:=d r l' C;have J:¬(j.room=(r:Int)):=λz=>I (by
     have:j.room.toNat=r:=by lia
     rw[this,C]at f;exact GK f)
    rw[G0 (by simpa using J),HW];exact⟨ds,by rw[aA I];exact h1,h2.put g⟩
  .rintro σ H3 ⟨k1,rfl,X,x,d⟩;rw[F1,p,Gx]at d;walk_at"";exact q c ls H3 X ⟨x,U,d⟩
def LB(ws:List Way)(n:Nat)(top:Int)(x y:Bfs.Pl):Prop:=(∃w∈ws,cw w x.1 x.2=true/\y=(w.other,x.2+rz w.deed)/\y.2<=top)\/(top<=x.2/\∃i j:Nat,Kpt ws n i j/\x.1=(i:Int)/\y=((j:Int),top))
def gr{w:Way}{n:Int}(h:cw w r n=true):w.room=r:=by unfold cw at h;rw[GI]at h;exact of_decide_eq_true h.1
inductive yi(K:FX)(vs:List V)(H:Hp)(Q:VK)(E:XK):Prop|mk:∀c a top p m ws ls x,vs=[.ref c,.ref a,.int top,.ref p]->WT H c m.toNat ls ws->fY H a m.toNat (Kpt ws m.toNat)->HOuse m ws->aw H p x->0<=x.1->x.1<m->(∀l ps ys H',Ext H H'->H l=Vo->H' l=Vn (.lst (A0 V.ref ps))->Paired (aw H') ps ys->(∀y,y∈ys↔LB ws m.toNat top x y)->ys.length<=300->Q (.ref l) H')->yi K vs H Q E
theorem EB(T:Bu w mg base):Cal P w K mg base "low_beside" 4 ["ways","keeps","top","here"] (yi K):=by
 refine(sE T.d_low_beside).oS ["ways","keeps","top","here","low"] λhr nd H vs Q E h=>?_;obtain⟨c,kl,top,p,m,ws,ls,x,rfl,wt,a6,ok,A,x0,x1,q⟩:=h;have m12:=ok.m12;have few:=ok.few;have a9:x.1.toNat<ls.length:=by rw[wt.len];lia
 have J:ls[x.1.toNat]?=Vn ls[x.1.toNat]:=F2 a9;generalize ls[x.1.toNat]=l0 at J;obtain⟨bs,ab,S⟩:=wt.it _ _ J;have ac:((x.1.toNat:Nat):Int)=x.1:=by lia
 rw[ac]at S;have B:(ws.filter λw=>decide (w.room=x.1)).length<=100:=GC (HJ _ _) few;obtain⟨ad,g,ah,U,hkg⟩:=a6;have W:=ck U;have as:=m6 (n:=m.toNat) (g:=g) m.toNat;have au:m.toNat*m.toNat<=12*12:=Jx (by lia) (by lia);refine⟨_,(@av _ _ _ _ _ (di (i:=4) ["there"] [2] nd rfl oi (bW K (aF (En T) hr (ag (@ay _ _ _ _ _ _ _ (aQ K) (pv 0) (@ay _ _ _ _ _ _ _ (aD K) (pv 3) ae (λ_ _=>rfl)) (λ_ _=>rfl)) (ag (pv 3) aa rfl) rfl))) (λ_=>(aN (i:=0) (show(["there","top"]:List Vm).Nodup from by decide +kernel) rfl oi oj)) (λ_=>(eJ (aU jm (@ay _ _ _ _ _ _ _ (aD K) (pv 0) ae (λ_ _=>rfl)) (pv 1) (aT _)))) (λ_=>(pv 0)))
   (@av _ _ _ _ _ (@bH _ _ _ _ _ _ _ _ (aU fJ (@ay _ _ _ _ _ _ _ (aD K) (pv 3) ae (λ_ _=>rfl)) (pv 2) (aT _)) (@az _ _ _ (@aL _ _ _ _ (pv 4))) a8)
   (@az _ _ _ (@aL _ _ _ _ (aH j2 (pv 4) (eo ["p","q"] [2,3] (bW K (pv 1)) (λ_=>(ee (n:=2) K rfl (bG (aN (i:=0) (show(["p","q","top","here"]:List Vm).Nodup from by decide +kernel) rfl oi oj) (bG (aN (i:=1) (show(["p","q","top","here"]:List Vm).Nodup from by decide +kernel) rfl oi oj) dY)))) (λ_=>(eJ (aU bY (pv 0) (@ay _ _ _ _ _ _ _ (aD K) (pv 3) ae (λ_ _=>rfl)) (aT _)))) (λ_=>(@bz _ _ _ _ _ (ag (pv 1) (ag (pv 2) aa rfl) rfl))))))))),?_⟩
 walk_at"";refine aB (ax.of A) (v:=.int x.1) rfl ?_;walk_at"";refine aR (af.of wt.at_) (v:=.ref l0) (eO x0 (by rw[F3,J];rfl)) ?_;walk_at"";refine⟨l0,bs,_,p,x,rfl,ab,S,λw X=>(ok.ok w (G8.mp X).1).dd,B,A,λl1 ai H1 e1 b1 Y r=>?_⟩;have C:=ck r;have L:(dG (ws.filter λw=>decide (w.room=x.1)) x).length<=100:=by unfold dG;rw[F1];exact GC (HJ _ _) B
 have F:∀y,y∈dG (ws.filter λw=>decide (w.room=x.1)) x↔∃w∈ws,cw w x.1 x.2=true/\y=(w.other,x.2+rz w.deed):=λy=>by
  unfold dG;constructor
  .intro h;obtain⟨w,X,rfl⟩:=G6.mp h;obtain⟨h1,h2⟩:=G8.mp X;exact⟨w,(G8.mp h1).1,h2,rfl⟩
  .rintro⟨w,X,ho,rfl⟩;exact G6.mpr ⟨w,G8.mpr ⟨G8.mpr ⟨X,GZ (gr ho)⟩,ho⟩,rfl⟩
 generalize dG (ws.filter λw=>decide (w.room=x.1)) x=zs at r C L F;walk_at"";refine bX (af.of Y) ?_;refine dP (xs:=A0 V.ref ai) (λi ys H'=>H'=H1/\∃cs,ys=A0 V.ref cs/\Paired (aw H1) cs ((zs.take i).filter λy=>decide (y.2<=top))) (bU (by rw[F1];lia)) ⟨rfl,[],rfl,.nil⟩ (λi ys H' _ h=>by obtain⟨rfl,cs,rfl,d⟩:=h;refine⟨af.of Y,?_⟩;rw[F1,ck d];exact GC (HJ _ _) (by rw[GU];lia)) ?_ ?_
 .rintro i v ys H2 Z ⟨rfl,cs,rfl,d⟩;rw[F3]at Z;obtain⟨b,hb,rfl⟩:=Ge.mp Z;obtain⟨y,hy,a0⟩:=cn r hb;walk_at"";refine aB (ax.of a0) (v:=.int y.2) rfl ?_;walk_at"";have step:(zs.take (i+1)).filter (λy=>decide (y.2<=top))=(zs.take i).filter (λy=>decide (y.2<=top))++if decide (y.2<=top)then[y]else[]:=by rw[G7,hy,Hc];congr 1;show IJ _ [y]=_;rw[He];rfl
  cases hc:decide (y.2<=top)with
  | true=>
   refine aI ?_;walk_at"";refine⟨rfl,cs++[b],?_,?_⟩
   .rw[Gj];rfl
   .rw[step,hc];exact gq d a0
  | false=>
   refine aC ⟨rfl,cs,rfl,?_⟩;rw[step,hc];simpa using d
 .rintro ys H2 N ⟨hH,cs,rfl,d⟩ M;subst hH;rw[F1,C,Gx]at d;have e2:=bh (o:=.lst (A0 V.ref cs)) M;have h9:(upd H2 N (.lst (A0 V.ref cs))) N=_:=aE;have s:=bt (λa x h=>e2 _ _ h) d;have hfn:H N=Vo:=by
   cases z:H N with
   | none=>rfl
   | some o=>rw[e1 _ _ z]at M;cases M
  have f:=e1.trans e2;generalize upd H2 N (.lst (A0 V.ref cs))=H3 at e2 h9 s f ⊢;have hcl:=ck d;have b2:=HJ (λy:Bfs.Pl=>decide (y.2<=top)) zs;have first:∀y,y∈zs.filter (λy=>decide (y.2<=top))↔∃w∈ws,cw w x.1 x.2=true/\y=(w.other,x.2+rz w.deed)/\y.2<=top:=λy=>by
   rw[G8,F];constructor
   .rintro⟨⟨w,h1,h2,h3⟩,h4⟩;exact⟨w,h1,h2,h3,of_decide_eq_true h4⟩
   .rintro⟨w,h1,h2,h3,h4⟩;exact⟨⟨w,h1,h2,h3⟩,GZ h4⟩
  walk_at"";refine aB (ax.of (f _ _ A)) (v:=.int x.2) rfl ?_;walk_at"";cases hc:decide (x.2<top)with
  | true=>
   have aj:=of_decide_eq_true hc;refine aI ?_;walk_at"";refine q N cs _ H3 f hfn h9 s (λy=>?_) (by lia);rw[first];constructor
   .exact λh=>.inl h
   .rintro(h|⟨h,_⟩)
    .exact h
    .omega
  | false=>
   have aj:=of_decide_eq_false hc;refine aC ?_;walk_at"";have G:=f _ _ ah;have a1:=bt (λa x h=>f _ _ h) U;refine bX (af.of G) ?_;refine dP (xs:=A0 V.ref ad) (λi ys H'=>Ext H3 H'/\∃ds,ys=A0 V.ref ds/\Paired (aw H') ds ((((dQ m.toNat g m.toNat).take i).filter λz=>decide (z.1=x.1)).map λz=>(z.2,top))) (bU (by rw[F1];lia)) ⟨Ext.rfl' _,[],rfl,.nil⟩ (λi ys H' _ h=>by obtain⟨e,ds,rfl,l⟩:=h;refine⟨af.of (e _ _ G),?_⟩;rw[F1,ck l,F1];exact GC (HJ _ _) (by rw[GU];lia)) ?_ ?_
   .rintro i v ys H4 Z ⟨O,ds,rfl,l⟩;rw[F3]at Z;obtain⟨b,hb,rfl⟩:=Ge.mp Z;obtain⟨z,hz,ak⟩:=cn a1 hb;have a2:aw H4 b z:=O _ _ ak;refine dZ (ax.of a2) rfl ?_;walk_at"";refine aB (ax.of ((f.trans O) _ _ A)) (v:=.int x.1) rfl ?_;walk_at"";have step:(((dQ m.toNat g m.toNat).take (i+1)).filter (λz=>decide (z.1=x.1))).map (λz=>(z.2,top))=(((dQ m.toNat g m.toNat).take i).filter (λz=>decide (z.1=x.1))).map (λz=>(z.2,top))++if decide (z.1=x.1)then[(z.2,top)]else[]:=by rw[G7,hz,Hc,Gj];congr 1;show A0 _ (IJ _ [z])=_;rw[He];split<;>rfl
    cases a3:decide (z.1=x.1)with
    | true=>
     refine aI ?_;walk_at"";refine aO λt H5 R ht _=>?_;refine⟨O.trans R,ds++[t],?_,?_⟩
     .rw[Gj];rfl
     .rw[step,a3];exact gq (bt (λa x h=>R _ _ h) l) ht
    | false=>
     refine aC ⟨O,ds,rfl,?_⟩;rw[step,a3];simpa using l
   .rintro ys H4 p8 ⟨O,ds,rfl,l⟩ am;rw[F1,W,Gx]at l;have R:=bh (o:=.lst (A0 V.ref ds)) am;have h8:(upd H4 p8 (.lst (A0 V.ref ds))) p8=_:=aE;have I:=bt (λa x h=>R _ _ h) l;have u:=O.trans R;generalize upd H4 p8 (.lst (A0 V.ref ds))=H5 at R h8 I u ⊢;have an:=ck l;rw[F1]at an;have b0:=HJ (λz:Bfs.Pl=>decide (z.1=x.1)) (dQ m.toNat g m.toNat);walk_at"";refine ke (u _ _ h9) h8 (bU (by rw[F1,F1];lia)) (cA λl' H6 e6 a4 a5=>?_);rw[<-Gj]at a4;have ap:=(f.trans u).trans e6;have aq:H l'=none:=by
     cases z:H l' with
     | none=>rfl
     | some o=>rw[(f.trans u) _ _ z]at a5;cases a5
    refine q l' (cs++ds) _ H6 ap aq a4 (yq (bt (λa x h=>(u.trans e6) _ _ h) s) (bt (λa x h=>e6 _ _ h) I)) (λy=>?_) (by rw[Gk,F1];lia);rw[Gr,first];constructor
    .rintro(h|h)
     .exact .inl h
     .obtain⟨z,hz,rfl⟩:=G6.mp h;obtain⟨z1,z2⟩:=G8.mp hz;obtain⟨i,j,hi,hj,hg,rfl⟩:=jg.mp z1;exact .inr ⟨by lia,i,j,(hkg i j hi hj).mp hg,(of_decide_eq_true z2).symm,rfl⟩
    .rintro(h|⟨_,i,j,hk,ar,rfl⟩)
     .exact .inl h
     .right;have hlt:=Kpt.lt ok.ok hk;exact G6.mpr ⟨((i:Int),(j:Int)),G8.mpr ⟨jg.mpr ⟨i,j,hlt.1,hlt.2,(hkg i j hlt.1 hlt.2).mpr hk,rfl⟩,GZ ar.symm⟩,rfl⟩
structure RR(H0 H:Hp)(f rw:Vb)(qs:List Bfs.Pl):Prop where
 ext:Ext H0 H
 fn:H0 f=Vo
 rn:H0 rw=Vo
 d:∃kvs,H f=Vn (.dT kvs)/\Paired (λ(kv:List Key×V) z=>kv.1=aK z) kvs qs
 r:∃as,H rw=Vn (.lst (A0 V.ref as))/\Paired (aw H) as qs
def RR.step{f rw:Vb}(h:RR H0 H f rw qs)(e:Ext H H1):RR H0 H1 f rw qs:=by obtain⟨h1,h2,b,⟨kvs,c,d⟩,as,g,i⟩:=h;exact⟨h1.trans e,h2,b,⟨kvs,e _ _ c,d⟩,as,e _ _ g,bt (λa x h=>e _ _ h) i⟩
def vO(h:Paired (λ kv z=>kv.1=aK z) kvs qs)(a:x∉qs):aX kvs (aK x)=Vo:=
 fP (λ_ _ z=>z) h (by simpa using a)
def FN(h:Paired (λ kv z=>kv.1=aK z) kvs qs)(nd:qs.Nodup)(a:x∈qs):∃v,aX kvs (aK x)=Vn v:=by obtain⟨v,b,_⟩:=eZ (key:=λz=>z) (λ_ _ z=>z) h (by simpa using nd) a;exact⟨v,b⟩
def RR.push{f rw th:Vb}(h:RR H0 H f rw qs)(n:y∉qs)(d:aw H th y):
  ∃kvs,H f=Vn (.dT kvs)/\kvs.length=qs.length/\∃as,upd H f (.dT (putK kvs (aK y) v)) rw=Vn (.lst (A0 V.ref as))/\as.length=qs.length ∧
   RR H0 (upd (upd H f (.dT (putK kvs (aK y) v))) rw (.lst (A0 V.ref as++[.ref th]))) f rw (qs++[y]):=by
 obtain⟨h1,h2,g,⟨kvs,c,e⟩,as,i,j⟩:=h;have l:∀xs,(HO.dT kvs)≠.tup xs:=λxs z=>by cases z
 have m:∀xs,(HO.lst (A0 V.ref as))≠.tup xs:=λxs z=>by cases z
 have ne:rw≠f:=bA i c (by intro z;cases z);have b:upd H f (.dT (putK kvs (aK y) v)) rw=Vn (.lst (A0 V.ref as)):=by rw[aA ne];exact i
 refine⟨kvs,c,G9 e,as,b,G9 j,b6 (b6 h1 h2) g,h2,g,⟨kvs++[(aK y,v)],?_,?_⟩,as++[th],?_,?_⟩
 .rw[aA ne.symm,aE,jI _ (vO e n)]
 .exact IT e rfl
 .rw[aE,Gj];rfl
 .exact gq (bt (λa x z=>aw.put b m (aw.put c l z)) j) (aw.put b m (aw.put c l d))
structure RQ(S:Bfs.Pl->Bfs.Pl->Prop)(m T:Int)(x:Bfs.Pl)(qs:List Bfs.Pl)(i:Nat):Prop where
 nd:qs.Nodup
 has:x∈qs
 wk:∀z∈qs,∃n,Bfs.Rw S n x z
 ins:∀z∈qs,bL m T z
 cl:∀j,j<i->∀y,qs[j]?=Vn y->∀z,S y z->z∈qs
theorem RQ.done(h:RQ S m T x qs i)(hi:qs.length<=i):∀z,z∈qs↔∃n,Bfs.Rw S n x z:=λz=>by
 refine⟨h.wk z,λ⟨n,d⟩=>?_⟩;have go:∀(n:Nat) (a b:Bfs.Pl),Bfs.Rw S n a b->a∈qs->b∈qs:=by
  intro n a b e;induction e with
  | nil=>exact λh=>h
  | snoc _ hs f=>
   intro ha;obtain⟨j,c⟩:=GR (f ha);have:=(F9.mp c).1;exact h.cl j (by lia) _ c _ hs
 exact go n x z d h.has
def uz(m T:Int)(S:Bfs.Pl->Bfs.Pl->Prop):List V->Hp->VK->Prop:=λvs H Q=>∃p y,vs=[.ref p]/\aw H p y/\bL m T y/\∀l ps ys H',Ext H H'->H l=Vo->H' l=Vn (.lst (A0 V.ref ps))->Paired (aw H') ps ys->(∀z,z∈ys↔S y z)->ys.length<=300->Q (.ref l) H'
def xS(P:Vd)(w:Ve)(K:FX)(mg:Vm->Option Va)(base:Vh):Sp:=λvs H Q _=>∃a f pre x m T S,vs=[.ref a,.ref f]/\aw H a x/\bL m T x/\m<=12/\T<=2000/\FunR P w K mg base 5 f pre (uz m T S)/\pre H/\(∀H H',Ext H H'->pre H->pre H')/\(∀y z,bL m T y->S y z->bL m T z) ∧
 ∀l as qs H',Ext H H'->H' l=Vn (.lst (A0 V.ref as))->Paired (aw H') as qs->(∀z∈qs,bL m T z)->qs.length<=24012->(∀z,z∈qs↔∃n,Bfs.Rw S n x z)->Q (.ref l) H'
theorem Cm(T:Bu w mg base):Cal P w K mg base "reached" 6 ["place","beside"] (xS P w K mg base):=by
 have ln:∀vs H Q E,(xS P w K mg base) vs H Q E->vs.length=2:=by intro vs H Q E h;obtain⟨Y,f,pre,x,m,T,S,rfl,_⟩:=h;rfl
 refine(bK T.d_reached).oS ["place","beside","found","row","looked","here","there"] (λhr nd H vs Q E h=>?_) ln;obtain⟨Y,ff,pre,x,m,TT,S,rfl,hx,ix,C,hT,hF,ad,Z,ah,q⟩:=h;refine⟨_,(@av _ _ _ _ _ (@aG _ _ 2 _ _ _ _ nd rfl oi (wx (bB hr) (pv 0) b9) rfl oi)
   (@av _ _ _ _ _ (@aG _ _ 3 _ _ _ _ nd rfl oi (@bF _ _ _ _ (ag (pv 0) aa rfl)) rfl oi)
   (@av _ _ _ _ _ (@aG _ _ 4 _ _ _ _ nd rfl oi ae rfl oi)
   (@av _ _ _ _ _ (fE B2 (aU fJ (pv 4) (bx (cL K) rfl T.len_ HR (ag (pv 3) aa rfl)) (aT _)) (@av _ _ _ _ _ (@aG _ _ 5 _ _ _ _ nd rfl oi (@ay _ _ _ _ _ _ _ (aQ K) (pv 3) (pv 4) (λ_ _=>rfl)) rfl oi)
   (@av _ _ _ _ _ (kF (i:=4) nd rfl oi ae kY)
   (@az _ _ _ (bJ B2 rfl (bW K (wL (base:=base) hr (pv 1) (ag (pv 5) aa rfl))) (aN (i:=6) nd rfl oi) (@az _ _ _ (cK (g7 (iQ (bB hr) (pv 6) (pv 2)) (by with_unfolding_all rfl)) (@av _ _ _ _ _ (gE (bB hr) (pv 2) (pv 6) b9 rfl)
   (@az _ _ _ (br (bP K F8 Gp Gq bZ (pv 3) (ag (pv 6) aa rfl))))) a8)))))))
   (@az _ _ _ (@aL _ _ _ _ (pv 3))))))),?_⟩
 walk_at"";refine λf hfn=>?_;walk_at"";refine⟨Y,aK x,rfl,(bh hfn) _ _ hx,aE,?_⟩;walk_at"";refine aO λrw H3 e3 ai a0=>?_;walk_at"";have O:Ext H (upd (upd H f (.dT [])) f (.dT [(aK x,.bl true)])):=λb o hb=>by rw[aA (cx hb hfn),aA (cx hb hfn)];exact hb
 have W:H rw=Vo:=by
  cases z:H rw with
  | none=>rfl
  | some o=>rw[O _ _ z]at a0;cases a0
 have aj:H3 f=Vn (.dT [(aK x,.bl true)]):=e3 _ _ aE;have b1:RR H H3 f rw [x]:=⟨O.trans e3,hfn,W,⟨_,aj,.cons rfl .nil⟩,[Y],ai,.cons (e3 _ _ (O _ _ hx)) .nil⟩;have b2:RQ S m TT x [x] 0:=⟨by simp,by simp,λz p=>by rw[Gb.mp p];exact⟨0,.nil⟩,λz p=>by rw[Gb.mp p];exact ix,λj hj=>absurd hj (Ha _)⟩;clear aj W O ai a0 e3;refine fF (λM σ H'=>∃qs i k1 k2,RR H H' f rw qs/\RQ S m TT x qs i/\i<=qs.length/\M=24013-i/\σ=[Vn (.ref Y),Vn (.ref ff),Vn (.ref f),Vn (.ref rw),Vn (.int (i:Nat)),k1,k2]) (λσ H'=>∃qs i k0 k1 k2,RR H H' f rw qs/\RQ S m TT x qs i/\qs.length<=i/\qs.length<=24012/\σ=[Vn (.ref Y),Vn (.ref ff),Vn (.ref f),Vn (.ref rw),k0,k1,k2]) 24013 ⟨[x],0,_,_,b1,b2,by simp,by simp,rfl⟩ ?_ ?_
 .rintro M σ H4 ⟨qs,i,k1,k2,X,B,hi,rfl,rfl⟩;have a6:qs.length<=24012:=bL.few C hT B.nd B.ins;obtain⟨as,F,pr⟩:=X.r;have ak:=ck pr;walk_at"";refine dM (af.of F) ?_;walk_at"";by_cases hlt:i<qs.length
  rotate_left
  .rw[GY (show ¬((i:Nat):Int)<((A0 V.ref as).length:Nat) by rw[F1,ak];lia)];refine aC ?_;exact⟨qs,i,_,_,_,X,B,by lia,a6,rfl⟩
  .rw[GZ (show((i:Nat):Int)<((A0 V.ref as).length:Nat) by rw[F1,ak];lia)];refine aI ?_;refine⟨λam H'=>∃g k1 k2,RR H H' f rw g/\RQ S m TT x g (i+1)/\i+1<=g.length/\g.length<=24012/\am=[Vn (.ref Y),Vn (.ref ff),Vn (.ref f),Vn (.ref rw),Vn (.int ((i+1:Nat):Int)),k1,k2],λam H' ⟨g,k1,k2,a1,a2,a3,a4,a5⟩=>⟨24013-(i+1),by lia,g,i+1,k1,k2,a1,a2,a3,rfl,a5⟩,?_⟩;have G:qs[i]?=Vn qs[i]:=F2 hlt;generalize qs[i]=y at G;obtain⟨b,hb,b4⟩:=nE pr G;have iy:=B.ins y (Ga G);walk_at"";refine aR (af.of F) (cO (v:=.ref b) (by rw[F3,hb];rfl)) ?_;walk_at"";refine vg ?_;walk_at"";have I:=Z _ _ X.ext ad;refine⟨ff,pre,_,rfl,hF,I,?_⟩;walk_at"";refine⟨I,b,y,rfl,b4,iy,λl ps ys H5 e5 R an ap hys c1=>?_⟩;have b5:=ck ap;have a9:=X.step e5;obtain⟨bv,b7,_⟩:=a9.d;obtain⟨c2,b8,_⟩:=a9.r;have ba:l≠f:=λz=>by obtain⟨kvs,hd,_⟩:=X.d;rw[z,hd]at R;cases R
   have bb:l≠rw:=λz=>by rw[z,F]at R;cases R
   refine bX (af.of an) ?_;refine forL (xs:=A0 V.ref ps) (λj σ H'=>∃g k2,RR H H' f rw g/\g.Nodup/\(∃new,g=qs++new)/\(∀z∈g,(∃n,Bfs.Rw S n x z)/\bL m TT z)/\(∀a,a<j->∀z,ys[a]?=Vn z->z∈g)/\(∀c o,c≠f->c≠rw->H5 c=Vn o->H' c=Vn o)/\σ=[Vn (.ref Y),Vn (.ref ff),Vn (.ref f),Vn (.ref rw),Vn (.int ((i+1:Nat):Int)),Vn (.ref b),k2]) ⟨qs,_,a9,B.nd,⟨[],by simp⟩,λz p=>⟨B.wk z p,B.ins z p⟩,λa ha=>absurd ha (Ha _),λc o _ _ h=>h,rfl⟩ (λj σ H' _ h=>by obtain⟨_,_,_,_,_,_,_,kp,_⟩:=h;exact af.of (kp _ _ ba bb an)) ?_ ?_
   .rintro j v σ H6 hv ⟨u,k2,J,A,⟨new,hnew⟩,in6,cl6,U,rfl⟩;rw[F3]at hv;obtain⟨th,bc,rfl⟩:=Ge.mp hv;obtain⟨z,p,L⟩:=cn ap bc;have nth:∀{c:Vb} {o:HO},H5 c=Vn o->(∀xs,o≠.tup xs)->th≠c:=λ{c o} hc hn=>bA L hc (λe=>hn _ e.symm);have N:aw H6 th z:=U _ _ (nth b7 (λxs e=>by cases e)) (nth b8 (λxs e=>by cases e)) L;have aq:S y z:=(hys z).mp (Ga p);have ar:u.length<=24012:=bL.few C hT A λz p=>(in6 z p).2;obtain⟨kvs,hd,pk⟩:=J.d;walk_at"";refine cE ?_;walk_at"";refine⟨f,_,rfl,bC.t hd (k:=aK z) N,?_⟩;by_cases hin:z∈u
    .obtain⟨v1,be⟩:=FN pk A hin;rw[be];refine rd_exb (aC ?_);walk_at"";refine⟨u,_,J,A,⟨new,hnew⟩,in6,λa ha z' s=>?_,U,rfl⟩;by_cases ab:a<j
     .exact cl6 a ab z' s
     .have:a=j:=by lia
      subst this;rw[p]at s;cases s;exact hin
    .rw[vO pk hin];refine rd_exb (aI ?_);obtain⟨kvs,bg,c3,c4,au,c0,bi⟩:=J.push (v:=.bl true) hin N;walk_at"";refine⟨f,_,rfl,dz.t bg (k:=aK z) N (dC (by lia)),?_⟩;walk_at"";refine⟨cH (af.of au),?_⟩;walk_at"";refine bV au (dC (by rw[F1];lia)) ?_;walk_at"";obtain⟨n0,bm⟩:=B.wk y (Ga G);refine⟨u++[z],_,bi,?_,⟨new++[z],by rw[hnew,Hu]⟩,λz' s=>?_,λa ha z' s=>?_,λc o nf nr hc=>?_,rfl⟩
     .rw[HP];refine⟨A,by simp,λa ha c hc e=>?_⟩;rw[Gb.mp hc]at e;exact hin (e ▸ ha)
     .rcases Gr.mp s with h|h
      .exact in6 z' h
      .rw[Gb.mp h];exact⟨⟨n0+1,.snoc bm aq⟩,ah y z iy aq⟩
     .by_cases ab:a<j
      .exact GN _ (cl6 a ab z' s)
      .have:a=j:=by lia
       subst this;rw[p]at s;cases s;exact GL _ (by simp)
     .rw[aA nr,aA nf];exact U c o nf nr hc
   .rintro σ H6 ⟨u,k2,J,A,⟨new,hnew⟩,in6,cl6,U,rfl⟩;rw[F1,b5]at cl6;have ar:u.length<=24012:=bL.few C hT A λz p=>(in6 z p).2;have hle:qs.length<=u.length:=by rw[hnew,Gk];lia
    refine⟨u,_,_,J,⟨A,by rw[hnew];exact GN _ B.has,λz p=>(in6 z p).1,λz p=>(in6 z p).2,λj hj y' b0 z p=>?_⟩,by lia,ar,rfl⟩;have bn:j<qs.length:=by lia
    have ac:qs[j]?=Vn y':=by rw[hnew,Gu bn]at b0;exact b0
    by_cases bu:j<i
    .rw[hnew];exact GN _ (B.cl j bu y' ac z p)
    .have:j=i:=by lia
     subst this;rw[G]at ac;cases ac;obtain⟨a,ha⟩:=GR ((hys z).mpr p);exact cl6 a (F9.mp ha).1 z ha
 .rintro σ H4 ⟨qs,i,k0,k1,k2,X,B,hi,a6,rfl⟩;obtain⟨as,F,pr⟩:=X.r;walk_at"";exact q rw as qs H4 X.ext F pr B.ins a6 (B.done hi)
def Eu(H H':Hp):Prop:=∀b o,H b=Vn o->(∀f,o≠.ext f)->H' b=Vn o
def aZ.eu(e:Eu H H')(h:aZ H bs ws):aZ H' bs ws:=⟨h.1,λj b w a c=>e _ _ (h.2 j b w a c) (λf z=>by cases z)⟩
def aw.eu(e:Eu H H')(h:aw H p x):aw H' p x:=e _ _ h (λf z=>by cases z)
structure TL(H H':Hp)(q:Vb)(rs:List Vb)(n:Nat)(M:Nat->Nat->Bool):Prop where
 keep:∀b o,b∉rs->H b=Vn o->H' b=Vn o
 nd:rs.Nodup
 nq:q∉rs
 rows:Rows H' q rs n M
def TL.mark{r:Vb}(h:TL H H1 q rs n M)(hi:rs[i]?=Vn r)(m:j<n):TL H (upd H1 r (.lst ((aV n (M i)).set j (.bl true)))) q rs n (put2 M i j):=by
 have g:=Ga hi;have nqr:q≠r:=λz=>h.nq (z ▸ g);refine⟨λb o nb e=>?_,h.nd,h.nq,?_,λa l ha=>?_⟩
 .have f:b≠r:=λz=>nb (by rw[z];exact g);rw[aA f];exact h.keep b o nb e
 .rw[aA nqr];exact h.rows.1
 .by_cases c:a=i
  .subst c;rw[hi]at ha;cases ha;rw[aE,jU _ _ m];congr 2;refine dm λy _=>?_;unfold put2;by_cases d:y=j
   .rw[G5 d,G5 ⟨rfl,d⟩]
   .rw[G0 d,G0 λz=>d z.2]
  .have p:l≠r:=λz=>c ((Ij (F9.mp ha).1 h.nd).mp (by rw[ha,hi,z]));rw[aA p,h.rows.2 a l ha];congr 2;exact dm λy _=>by unfold put2;rw[G0 λz=>c z.1]
theorem zo(ok:HOuse m ws)(b:0<=top)(c:bL m top x)(h:LB ws m.toNat top x y):bL m top y:=by
 rcases h with⟨w,d,ho,rfl,hle⟩|⟨_,i,j,e,_,rfl⟩
 .have a:=ok.ok w d;refine⟨a.o0,a.o1,?_,hle⟩;have hs:=(mZ a.dd x).mp ho;exact w8 a.dd c.2.2.1 hs.2
 .have:=Kpt.lt ok.ok e;exact⟨by show(0:Int)<=j;lia,by show(j:Int)<m;lia,b,IU _⟩
theorem WT.eu{H H':Hp}{c:Vb}{n:Nat}{ls:List Vb}{ws:List Way}(e:Eu H H')(h:WT H c n ls ws):WT H' c n ls ws:=
 ⟨e _ _ h.at_ (λf z=>by cases z),h.len,λr l a=>by obtain⟨bs,h1,h2⟩:=h.it r l a;exact⟨bs,e _ _ h1 (λf z=>by cases z),h2.eu e⟩⟩
theorem fY.eu{H H':Hp}(e:Eu H H'){l:Vb}{n:Nat}{R:Nat->Nat->Prop}(h:fY H l n R):fY H' l n R:=by obtain⟨ps,g,h1,h2,b⟩:=h;exact⟨ps,g,e _ _ h1 (λf z=>by cases z),bt (λa x h=>h.eu e) h2,b⟩
def lM{K:FX}{x q:Vm}(e:∀b o,b∉rs->H b=Vn o->H' b=Vn o)(a:∀r∈rs,∃xs,H r=Vn (.lst xs))(h:cV K x q line col H):cV K x q line col H':=λc T d=>by
 have no:∀b o,H b=Vn o->(∀xs,o≠.lst xs)->H' b=Vn o:=λb o hb nl=>e b o (λz=>by obtain⟨xs,f⟩:=a b z;rw[f]at hb;cases hb;exact nl _ rfl) hb;rcases h c T d with h|⟨c',h1,h2⟩
 .exact .inl (no _ _ h (λxs z=>by cases z))
 .exact .inr ⟨c',no _ _ h1 (λxs z=>by cases z),no _ _ h2 (λxs z=>by cases z)⟩
def Tbs.kp{K:FX}(e:∀b o,b∉rs->H b=Vn o->H' b=Vn o)(a:∀r∈rs,∃xs,H r=Vn (.lst xs))(h:Tbs K H):Tbs K H':=⟨lM e a h.either,lM e a h.kept,lM e a h.low,lM e a h.risen⟩
inductive yC(K:FX)(vs:List V)(H:Hp)(Q:VK)(E:XK):Prop|mk:∀a m ws b x,vs=[a,.ref b]->bq H a m ws->HOuse m ws->aw H b x->bO m x->dE K->Tbs K H->(∀q rs M H',Et H H'->Tbs K H'->Rows H' q rs m.toNat M->(rs.length:Int)=x.2+1->(∀i r:Nat,(i:Int)<=x.2->(r:Int)<m->(M i r=true↔∃n,Bfs.Rw (LB ws m.toNat x.2) n x ((r:Int),(i:Int))))->Q (.ref q) H')->yC K vs H Q E
theorem zG(T:Bu w mg base):Cal P w K mg base "low_levels" 8 ["house","place"] (yC K):=by
 obtain⟨c9,T9,B⟩:=T.b_low_levels;refine(bK T.d_low_levels).oL B ["house","place","ways","keeps","levels","room","number"] λJ nd H vs Q E h=>?_;obtain⟨vh,m,ws,C,x,rfl,hv,ok,da,ix,au,db,q⟩:=h;have m12:=ok.m12;obtain⟨i0,i1,i2,i3⟩:=id ix;refine⟨_,(av (aG (i:=2) nd rfl oj (aF (Cd T) J (ao (pv 0) aa)))
   (av (aG (i:=3) nd rfl oj (aF (BC T) J (ao (pv 0) aa)))
   (av (di (i:=4) ["number"] [0] nd rfl oi (cX rfl T.range_ (ao (aH bp (ay (aD K) (pv 1) ae (λ_ _=>rfl)) ae) aa)) (λ_=>(aN (i:=0) (show(["number","house"]:List Vm).Nodup from by decide +kernel) rfl oi oj)) (λ_=>dn) (λ_=>(aH ml (bF (ao b9 aa)) (ay (aD K) (pv 1) ae (λ_ _=>rfl)))))
   (av (bJ B2 rfl (bW K (nG [2,3,1] (Cm T) J (ao (pv 1) (ao (m8 rfl rfl B.hd B.blt B.gl (by decide +kernel) rfl rfl rfl) aa)))) (ee (n:=2) K rfl (bG (aN (i:=5) nd rfl oi) (bG (aN (i:=6) nd rfl oi) dY))) (az (gR b9 (iO (ay (aQ K) (pv 4) (pv 6) (λ_ _=>rfl)) (pv 5) set_list))))
   (az (aL (pv 4))))))),?_⟩
 walk_at"";refine⟨vh,m,ws,rfl,hv,ok,λc ls H1 e1 wt=>?_⟩;walk_at"";refine⟨vh,m,ws,rfl,hv.ext e1,ok,au,db.ext e1,λN H2 e2 dc dd=>?_⟩;have b0:=e1.et.trans e2;have dg:=wt.et e2;have dk:=hv.et b0;have bb:=da.et b0;obtain⟨dl,ej,dp,dr,_⟩:=id dk;subst dp;walk_at"";refine aB (ax.of bb) (v:=.int x.2) rfl ?_;walk_at"";refine cU (by lia) ?_;refine f7 (λi ys H'=>Ext H2 H'/\∃rs:List Vb,ys=A0 V.ref rs/\rs.length=i/\rs.Nodup/\∀r∈rs,H' r=Vn (.lst (aV m.toNat λ_=>false))/\H2 r=Vo) (bU (by lia)) ⟨Ext.rfl' _,[],rfl,rfl,IF,λl h=>(nomatch h)⟩ (λi ys H' _ h=>by obtain⟨_,ls,rfl,h,_⟩:=h;rw[F1,h];exact Gn _) ?_ ?_
 .rintro i ys H3 hi ⟨e3,rs,rfl,hl,be,hrs⟩;walk_at"";refine aI ?_;walk_at"";refine aO λz1 H4 e4 ds _=>?_;walk_at"";refine aB (ax.of ((e3.trans e4) _ _ dr)) (v:=.int m) rfl ?_;refine mT ds (by lia) (bU (by simp;lia)) (cA λz2 H5 e5 c1 F=>?_);rw[o6]at c1;refine⟨(e3.trans e4).trans e5,rs++[z2],by rw[Gj];rfl,by rw[Gk,hl];rfl,?_,λr J=>?_⟩
  .rw[HP];refine⟨be,by simp,λa ha b hb z=>?_⟩;rw[Gb.mp hb]at z;subst z;rw[e4 _ _ (hrs a ha).1]at F;cases F
  .rcases Gr.mp J with h|h
   .exact⟨(e4.trans e5) _ _ (hrs r h).1,(hrs r h).2⟩
   .rw[Gb.mp h];refine⟨c1,?_⟩;cases y:H2 z2 with
    | none=>rfl
    | some o=>rw[(e3.trans e4) _ _ y]at F;cases F
 .rintro ys H3 lq ⟨e3,rs,rfl,ek,be,hrs⟩ bg;have bi:=bh (o:=.lst (A0 V.ref rs)) bg;have c3:(upd H3 lq (.lst (A0 V.ref rs))) lq=_:=aE;have dt:lq∉rs:=λz=>by rw[(hrs lq z).1]at bg;cases bg
  have a6:Rows (upd H3 lq (.lst (A0 V.ref rs))) lq rs m.toNat (λ_ _=>false):=⟨aE,λi r h=>bi _ _ (hrs r (Ga h)).1⟩;have Y:=e3.trans bi;generalize upd H3 lq (.lst (A0 V.ref rs))=H4 at bi c3 a6 Y ⊢;have du:=b0.trans Y.et;have b5:=dc.ext Y;have dx:=dg.ext Y;have c4:=dd.et Y.et;have c5:aw H4 C x:=Y _ _ bb;walk_at"";show kA _ [2,3,1] _ (["house","place","ways","keeps","levels","room","number"]:List Vm) _ _ _ _;generalize LZ _=cells0;refine pK ?_;walk_at"";refine nh ?_;refine oF (x:="low_levels") b5.low B.tin λfl c' cl H5 hcl e5 e0 ot hf ca=>?_;have t5:Tbs K H5:=⟨ot "either" _ _ _ (λc2 T2 e2=>au "low_levels" (by simp) "either" (by simp) (by decide +kernel) _ _ _ _ B.tin e2) b5.either,ot "kept" _ _ _ (λc2 T2 e2=>au "low_levels" (by simp) "kept" (by simp) (by decide +kernel) _ _ _ _ B.tin e2) b5.kept,e0,ot "risen" _ _ _ (λc2 T2 e2=>au "low_levels" (by simp) "risen" (by simp) (by decide +kernel) _ _ _ _ B.tin e2) b5.risen⟩;walk_at"";refine⟨λj hj=>?_,λcp hlen u=>?_⟩
  .simp only[Gh,GD,or_false]at hj;rcases hj with rfl|rfl|rfl
   .exact⟨_,rfl⟩
   .exact⟨_,rfl⟩
   .exact⟨_,rfl⟩
  obtain⟨⟨n1,L,o1,v1⟩,⟨n2,G,Z,v2⟩,⟨n3,I,o3,v3⟩,rfl⟩:=Cg hlen;obtain⟨bl,a9,ab,ac,u1,O,R⟩:=u 0 2 _ rfl rfl;obtain⟨bm,ad,ah,ai,u2,S,U⟩:=u 1 3 _ rfl rfl;obtain⟨bn,aj,ak,am,u3,W,X⟩:=u 2 1 _ rfl rfl;clear u hlen;dsimp only at bl a9 ab ac O R bm ad ah ai S U bn aj ak am W X;have cd:(GJ "ways")=n1:=GK bl;have bu:(V.ref c)=v1:=GK (GK ab);have ce:(GJ "keeps")=n2:=GK bm;have bv:(V.ref N)=v2:=GK (GK ah);have cf:(GJ "place")=n3:=GK bn;have c0:(V.ref C)=v3:=GK (GK ak);clear bl ab bm ah bn ak;subst cd;subst bu;subst ce;subst bv;subst cf;subst c0;obtain⟨a1,a0⟩:=hcl.has (GJ "ways") rfl;obtain⟨a2,a4⟩:=hcl.has (GJ "keeps") rfl;obtain⟨a3,a5⟩:=hcl.has (GJ "place") rfl;have ch:=(hcl.fr _ _ a0).2;have ci:=(hcl.fr _ _ a4).2;have co:=(hcl.fr _ _ a5).2;rw[a9]at ch;rw[ad]at ci;rw[aj]at co;cases ch;cases ci;cases co;have cr:L≠G:=λz=>absurd (hcl.inj _ _ _ a0 (z ▸ a4)) (by decide +kernel);have ct:L≠I:=λz=>absurd (hcl.inj _ _ _ a0 (z ▸ a5)) (by decide +kernel);have cu:G≠I:=λz=>absurd (hcl.inj _ _ _ a4 (z ▸ a5)) (by decide +kernel);obtain⟨cp,u⟩:∃cp:List Cap,cp=[⟨GJ "ways",L,o1,V.ref c⟩,⟨GJ "keeps",G,Z,V.ref N⟩,⟨GJ "place",I,o3,V.ref C⟩]:=⟨_,rfl⟩;have F:∀b o9,(cellsOf cp).lookup b=Vn o9->H5 b=Vo:=λb o9 hb=>by
   obtain⟨e,he,rfl,rfl⟩:=iP hb;rw[u]at he;simp only[Gh,GD,or_false]at he;rcases he with rfl|rfl|rfl
   .exact ac
   .exact ai
   .exact am
  have ex:=lb F;have an:Caps (cb (cellsOf cp) H5) cl cp:=by
   refine⟨λe he=>?_,λy g hy=>?_⟩
   .rw[u]at he ⊢;simp only[Gh,GD,or_false]at he;rcases he with rfl|rfl|rfl
    .exact⟨a0,fW (by simp[cellsOf]),u1,O,R⟩
    .refine⟨a4,fW ?_,u2,S,U⟩;show KG G ((L,o1)::(G,Z)::[(I,o3)])=Vn Z;rw[GS,show (G == L)=false from beq_eq_false_iff_ne.mpr (HQ cr),GS,beq_self_eq_true]
    .refine⟨a5,fW ?_,u3,W,X⟩;show KG I ((L,o1)::(G,Z)::[(I,o3)])=Vn o3;rw[GS,show (I == L)=false from beq_eq_false_iff_ne.mpr (HQ ct),GS,show (I == G)=false from beq_eq_false_iff_ne.mpr (HQ cu),GS,beq_self_eq_true]
   .have hm:=jl (hcl.fr y g hy).1;rw[u];simp at hm;rcases hm with rfl|rfl|rfl
    all_goals first|(rw[a0]at hy;cases hy;exact⟨⟨GJ "ways",L,o1,V.ref c⟩,by simp,rfl,rfl⟩)|(rw[a4]at hy;cases hy;exact⟨⟨GJ "keeps",G,Z,V.ref N⟩,by simp,rfl,rfl⟩)|(rw[a5]at hy;cases hy;exact⟨⟨GJ "place",I,o3,V.ref C⟩,by simp,rfl,rfl⟩)
  have cv:=(dx.et e5).ext ex;have bc:=(c4.et e5).et ex.et;have ap:aw (cb (cellsOf cp) H5) C x:=ex _ _ (c5.et e5);subst u;have hF:=
   ow (P:=P) (w:=w) (K:=K) (mg:=mg) (base:=base) (k:=4) hf hcl (["here"]:List Vm) [⟨GJ "ways",L,o1,V.ref c⟩,⟨GJ "keeps",G,Z,V.ref N⟩,⟨GJ "place",I,o3,V.ref C⟩] (uz m x.2 (LB ws m.toNat x.2)) (λH=>WT H c m.toNat ls ws/\fY H N m.toNat (Kpt ws m.toNat)/\aw H C x) ⟨rfl,rfl,rfl,by decide +kernel,by decide +kernel⟩ (λ_ _ _ us hl=>by obtain⟨u1,rfl⟩:=qz hl;rfl) (λvs H Q h=>by obtain⟨p,y,rfl,_⟩:=h;rfl) (λA outer s H vs Q e7 d0 hI hR=>by
    obtain⟨p,y,rfl,e8,iy,hQ⟩:=hR;have d4:=d0.2.2.look;obtain⟨e9,ea,eb⟩:=hI;have eu:Eu H (bw (cellsOf [⟨GJ "ways",L,o1,V.ref c⟩,⟨GJ "keeps",G,Z,V.ref N⟩,⟨GJ "place",I,o3,V.ref C⟩]) H):=λb o hb nf=>iM d4 hb nf;have k1:=e9.eu eu;have k2:=ea.eu eu;have k3:=eb.eu eu;have kp:=e8.eu eu;refine⟨_,(aF (EB T) e7 (ao (pv 1) (ao (pv 2) (ao (ay (aD K) (pv 3) ae (λ_ _=>rfl)) (ao (pv 0) aa))))),?_⟩;have hb:∀H',Ext (bw (cellsOf [⟨GJ "ways",L,o1,V.ref c⟩,⟨GJ "keeps",G,Z,V.ref N⟩,⟨GJ "place",I,o3,V.ref C⟩]) H) H'->Ext H (cb (cellsOf [⟨GJ "ways",L,o1,V.ref c⟩,⟨GJ "keeps",G,Z,V.ref N⟩,⟨GJ "place",I,o3,V.ref C⟩]) H'):=λH' e=>xH d4 e;have hu:∀l,(cellsOf [⟨GJ "ways",L,o1,V.ref c⟩,⟨GJ "keeps",G,Z,V.ref N⟩,⟨GJ "place",I,o3,V.ref C⟩]).lookup l=Vo->bw (cellsOf [⟨GJ "ways",L,o1,V.ref c⟩,⟨GJ "keeps",G,Z,V.ref N⟩,⟨GJ "place",I,o3,V.ref C⟩]) H l=H l:=λl hl=>df hl;generalize bw (cellsOf [⟨GJ "ways",L,o1,V.ref c⟩,⟨GJ "keeps",G,Z,V.ref N⟩,⟨GJ "place",I,o3,V.ref C⟩]) H=HU at k1 k2 k3 kp hb hu ⊢;generalize cellsOf [⟨GJ "ways",L,o1,V.ref c⟩,⟨GJ "keeps",G,Z,V.ref N⟩,⟨GJ "place",I,o3,V.ref C⟩]=cs at hb hu ⊢;show lR _ _ _ _ [Vn (.ref p),Vn (.ref c),Vn (.ref N),Vn (.ref C)] _ _;walk_at"";refine aB (ax.of k3) (v:=.int x.2) rfl ?_;walk_at"";refine⟨c,N,x.2,p,m,ws,ls,y,rfl,k1,k2,ok,kp,iy.1,iy.2.1,λl ps ys H' e hn hl b7 hys ec=>?_⟩;intro d5;have nl:cs.lookup l=Vo:=by
     cases z:cs.lookup l with
     | none=>rfl
     | some o=>rw[d5 l o z]at hl;cases hl
    have et:=lb d5;exact hQ l ps ys _ (hb H' e) (by rw[<-hu l nl];exact hn) (et _ _ hl) (bt (λa x h=>et _ _ h) b7) hys ec)
  refine⟨C,fl,_,x,m,x.2,LB ws m.toNat x.2,rfl,ap,⟨i0,i1,i2,IU _⟩,m12,by lia,hF,⟨⟨ex _ _ hf,ex _ _ ca,an⟩,cv,bc,ap⟩,λH H' e h=>⟨h.1.ext e,h.2.1.ext e,h.2.2.1.et e.et,e _ _ h.2.2.2⟩,λy z hy hS=>zo ok i2 hy hS,λl as qs H6 e6 d6 b7 hin el ed=>?_⟩;clear hF;obtain⟨b1,b2,b3,b4⟩:=held F e6;refine⟨b1,?_⟩;have b8:=b4 _ _ d6 (λf z=>by cases z);have aq:Paired (aw (bw _ H6)) as qs:=bt (λa x h=>b4 _ _ h (λf z=>by cases z)) b7;have d:=(a6.et e5).ext b2;have d7:=(du.trans e5).trans b2.et;have t7:=t5.ext b2;generalize bw _ H6=H7 at b8 aq d d7 t7 ⊢;have ef:=ck aq;have eg:∀r∈rs,∀o,H r=Vn o->(∀ps,o≠.tbl ps)->False:=λr J o ho no=>by have:=b0 _ _ ho no;rw[(hrs r J).2]at this;cases this
  clear an F ex cv bc ap e6 d6 b7 b1 b2 b3 b4 hf ca hcl a0 a4 a5 a9 ad aj ac ai am R U X O S W cr ct cu ot;have tup1:∀(b:Vb) (z:Bfs.Pl),aw H7 b z->b∉rs:=λb z hb J=>by obtain⟨j,hj⟩:=GR J;have h1:=d.2 j b hj;have h2:H7 b=Vn (.tup [.int z.1,.int z.2]):=hb;rw[h1]at h2;cases h2
  have nl:l∉rs:=λJ=>by
   obtain⟨j,hj⟩:=GR J;have h1:=d.2 j l hj;rw[b8]at h1;have h2:A0 V.ref as=aV m.toNat λ_=>false:=by
    injection h1 with h1
    injection h1
   have h3:=congrArg (λz:List V=>z[0]?) h2
   try dsimp only at h3
   rw[gy _ (by lia),F3]at h3;cases y:as[0]? with
   | none=>rw[y]at h3;cases h3
   | some a=>rw[y]at h3;cases h3
  refine bX (af.of b8) ?_;refine forL (xs:=A0 V.ref as) (λj σ H'=>∃M k1 k2,TL H7 H' lq rs m.toNat M/\(∀i r:Nat,M i r=true↔(((r:Nat):Int),((i:Nat):Int))∈qs.take j)/\σ=[Vn (.ref dl),Vn (.ref C),Vn (.ref c),Vn (.ref N),Vn (.ref lq),k1,k2]) ⟨_,_,_,⟨λ_ _ _ e=>e,be,dt,d⟩,λi r=>by simp,rfl⟩ (λj σ H' _ h=>by obtain⟨M,k1,k2,tl,_⟩:=h;exact af.of (tl.keep _ _ nl b8)) ?_ ?_
  .rintro j v σ H8 hx ⟨M,k1,k2,tl,hM,rfl⟩;rw[F3]at hx;obtain⟨b,hb,rfl⟩:=Ge.mp hx;obtain⟨z,hz,d8⟩:=cn aq hb;obtain⟨z0,z1,z2,z3⟩:=hin z (Ga hz);have d9:aw H8 b z:=tl.keep _ _ (tup1 b z d8) d8;have ei:z.2.toNat<rs.length:=by lia
   have ba:rs[z.2.toNat]?=Vn rs[z.2.toNat]:=F2 ei;generalize rs[z.2.toNat]=ar at ba;have hrow:=tl.rows.2 _ _ ba;refine dZ (ax.of d9) rfl ?_;walk_at"";refine aR (af.of tl.rows.1) (v:=.ref ar) (eO z2 (by rw[F3,ba];rfl)) ?_;walk_at"";refine iI hrow (iB z0 (by rw[cz];lia)) ?_;refine⟨_,_,_,tl.mark ba (by lia),λi r=>?_,rfl⟩;rw[G7,hz,Gr];unfold put2;split
   .rename_i y;simp only[true_iff];right;simp;refine IG ?_ ?_
    .show((r:Nat):Int)=z.1;lia
    .show((i:Nat):Int)=z.2;lia
   .rename_i y;rw[hM];constructor
    .exact λh=>.inl h
    .rintro(h|h)
     .exact h
     .have h':(((r:Nat):Int),((i:Nat):Int))=z:=by simpa using h
      refine absurd ⟨?_,?_⟩ y
      .rw[<-h'];show i=((i:Nat):Int).toNat;lia
      .rw[<-h'];show r=((r:Nat):Int).toNat;lia
  .rintro σ H8 ⟨M,k1,k2,tl,hM,rfl⟩;rw[F1,ef,Gx]at hM;walk_at"";refine q lq rs M H8 (λb o hb no=>?_) (t7.kp tl.keep λr J=>?_) tl.rows (by lia) λi r hi J=>?_
   .have h7:=d7 _ _ hb no;exact tl.keep b o (λJ=>eg b J o hb no) h7
   .obtain⟨j,hj⟩:=GR J;exact⟨_,d.2 j r hj⟩
   .rw[hM];exact ed _
inductive vD(K:FX)(vs:List V)(H:Hp)(Q:VK)(E:XK):Prop|mk:∀a lv n f R,vs=[.ref a,.ref lv]->fY H a n R->H lv=Vn (.lst (aV n f))->n<=12->(∀l g H',Ext H H'->H l=Vo->H' l=Vn (.lst (aV n g))->(∀j,j<n->(g j=true↔∃i,i<n/\f i=true/\R i j))->Q (.ref l) H')->vD K vs H Q E
theorem wb(T:Bu w mg base):Cal P w K mg base "next_level" 1 ["rises","level"] (vD K):=by
 refine(bK T.d_next_level).oS ["rises","level","risen_to","p","q"] λN nd H vs Q E h=>?_;obtain⟨rl,lv,n,l,R,rfl,S,u,hn,q⟩:=h;obtain⟨ps,g,x,A,hg⟩:=S;have U:=ck A;refine⟨_,(@av _ _ _ _ _ (@aG _ _ 2 _ _ _ _ nd rfl oi (aH ml (@bF _ _ _ _ (ag b9 aa rfl)) (bx (cL K) rfl T.len_ HR (ag (pv 1) aa rfl))) rfl oi)
   (@av _ _ _ _ _ (bJ B2 rfl (bW K (pv 0)) (ee K rfl (bG (aN (i:=3) nd rfl oi) (bG (aN (i:=4) nd rfl oi) dY))) (@az _ _ _ (cK (cj (@ay _ _ _ _ _ _ _ (aQ K) (pv 1) (pv 3) (λ_ _=>rfl))) (@az _ _ _ (@gR _ _ _ _ _ _ b9 (iO (pv 2) (pv 4) set_list) rfl rfl rfl)) a8)))
   (@az _ _ _ (@aL _ _ _ _ (pv 2))))),?_⟩
 walk_at"";refine aO λz1 H1 W X _=>?_;walk_at"";refine dM (af.of (W _ _ u)) ?_;rw[cz];refine mT X (by lia) (bU (by simp;lia)) (cA λrt H2 e2 B C=>?_);rw[o6,Gf]at B;have F:=W.trans e2;have d:H rt=Vo:=by
  cases y:H rt with
  | none=>rfl
  | some o=>rw[W _ _ y]at C;cases C
 walk_at"";refine bX (af.of (F _ _ x)) ?_;refine forL (xs:=A0 V.ref ps) (λj σ H'=>∃h k1 k2,Ext H H'/\H' rt=Vn (.lst (aV n h))/\(∀b,h b=true↔∃z∈(dQ n g n).take j,l z.1.toNat=true/\z.2.toNat=b)/\σ=[Vn (.ref rl),Vn (.ref lv),Vn (.ref rt),k1,k2]) ⟨_,_,_,F,B,λb=>by simp,rfl⟩ (λj σ H' _ h=>by obtain⟨_,_,_,e,_⟩:=h;exact af.of (e _ _ x)) ?_ ?_
 .rintro j v σ Y hx ⟨h,k1,k2,m,a,G,rfl⟩;rw[F3]at hx;obtain⟨b,hb,rfl⟩:=Ge.mp hx;obtain⟨z,O,Z⟩:=cn A hb;obtain⟨i,r,hi,N,I,rfl⟩:=jg.mp (Ga O);have J:aw Y b (((i:Nat):Int),((r:Nat):Int)):=m _ _ Z;refine dZ (ax.of J) rfl ?_;walk_at"";refine cE ?_;walk_at"";refine aR (af.of (m _ _ u)) (fk (by lia) (by lia)) ?_;rw[Gf];walk_at"";have step:∀P:Bfs.Pl->Prop,(∃z∈(dQ n g n).take (j+1),P z)↔(∃z∈(dQ n g n).take j,P z)\/P (((i:Nat):Int),((r:Nat):Int)):=λP=>by
   rw[G7,O];constructor
   .rintro⟨z,f,p⟩;rcases Gr.mp f with f|f
    .exact .inl ⟨z,f,p⟩
    .have:z=(((i:Nat):Int),((r:Nat):Int)):=by simpa using f
     subst this;exact .inr p
   .rintro(⟨z,f,p⟩|p)
    .exact⟨z,GN _ f,p⟩
    .exact⟨_,GL _ (by simp),p⟩
  cases s:l i with
  | false=>
   refine aC ?_;walk_at"";refine⟨h,_,_,m,a,λb=>?_,rfl⟩;rw[G,step];constructor
   .exact λy=>.inl y
   .rintro(y|⟨y,_⟩)
    .exact y
    .have L:l ((i:Nat):Int).toNat=true:=y;rw[Gf,s]at L;cases L
  | true=>
   refine aI ?_;walk_at"";refine iI a (iB (by lia) (by rw[cz];lia)) ?_;rw[Gf,jU _ _ N];refine⟨_,_,_,b6 m d,aE,λb=>?_,rfl⟩;rw[step];by_cases c:b=r
   .rw[G5 c];simp only[true_iff];refine .inr ⟨?_,?_⟩
    .show l ((i:Nat):Int).toNat=true;rw[Gf];exact s
    .show((r:Nat):Int).toNat=b;rw[Gf];exact c.symm
   .rw[G0 c,G];constructor
    .exact λy=>.inl y
    .rintro(y|⟨_,y⟩)
     .exact y
     .have L:((r:Nat):Int).toNat=b:=y;rw[Gf]at L;exact absurd L.symm c
 .rintro σ Y ⟨h,k1,k2,m,a,G,rfl⟩;rw[F1,U,Gx]at G;walk_at"";refine q rt h Y m d a λb hb=>?_;rw[G];constructor
  .rintro⟨z,O,s,rfl⟩;obtain⟨i,r,hi,N,I,rfl⟩:=jg.mp O;have M:l ((i:Nat):Int).toNat=true:=s;rw[Gf]at M;refine⟨i,hi,M,?_⟩;show R i ((r:Nat):Int).toNat;rw[Gf];exact(hg i r hi N).mp I
  .rintro⟨i,hi,s,hR⟩;refine⟨(((i:Nat):Int),((b:Nat):Int)),jg.mpr ⟨i,b,hi,hb,(hg i b hi hb).mpr hR,rfl⟩,?_,?_⟩
   .show l ((i:Nat):Int).toNat=true;rw[Gf];exact s
   .show((b:Nat):Int).toNat=b;exact Gf b
def vi{lo i:Nat}{ys:List V}(h:ys=(row f lo i).map V.int)(a:f (lo+i)=true):ys++[V.int ((lo+i:Nat):Int)]=(row f lo (i+1)).map V.int:=by rw[lC,G5 a,Gj,h];rfl
def xh{lo i:Nat}{ys:List V}(h:ys=(row f lo i).map V.int)(a:f (lo+i)=false):ys=(row f lo (i+1)).map V.int:=by rw[lC,G0 (by rw[a];decide),HW,h]
def bN(H:Hp)(v:V)(b s:Int)(o a:List Int):Prop:=∃p q r,v=.ref p/\H p=Vn (.tup [.int b,.int s,.ref q,.ref r])/\H q=Vn (.tup (o.map V.int))/\H r=Vn (.tup (a.map V.int))
def bN.ext(e:Ext H H')(h:bN H v b s o a):bN H' v b s o a:=by obtain⟨p,q,r,rfl,h1,h2,c⟩:=h;exact⟨p,q,r,rfl,e _ _ h1,e _ _ h2,e _ _ c⟩
theorem v8{i:Int}(b:0<=i)(h:i<=n):c6 (aV n f) (Vn i) Vo=aV (n-i.toNat) λk=>f (i.toNat+k):=by
 unfold c6;rw[cz,HT.mi];have e:HT.cB n 0 (Vn i)=i.toNat:=by show(if i<0 then(i+(n:Int)).toNat else min i.toNat n)=i.toNat;rw[G0 (by lia)];lia
 rw[e];apply Jt;intro k;rcases GQ k (n-i.toNat)with a|a
 .rw[Ic a,MP,gy _ (by lia),gy _ a]
 .rw[Hj (by rw[GU,JF,cz];lia),Hj (by rw[cz];lia)]
def dB(n:Nat)(f:Nat->Bool):List PyData:=(GX n).map λi=>PyData.bool (f i)
theorem oY{α:Type}{R:V->PyData->Prop}{g:α->V}{k:α->PyData}(h:∀x,R (g x) (k x)):∀l:List α,Paired R (l.map g) (l.map k)
 | []=>.nil
 | x::l=>.cons (h x) (oY h l)
def kK(h:H p=Vn (.lst (aV n f))):bo H 1 (.ref p) (.list (dB n f)):=
 .inr ⟨p,aV n f,dB n f,rfl,.inr ⟨h,rfl⟩,oY (λi=>(rfl:f i=f i)) _⟩
theorem wC{α:Type}(f g:α->Bool):∀l:List α,K5 (l.map λi=>PyData.bool (f i)) (l.map λi=>PyData.bool (g i))=l.all λi=>f i == g i
 | []=>rfl
 | x::l=>by show(IB (.bool (f x)) (.bool (g x)) && K5 (l.map λi=>PyData.bool (f i)) (l.map λi=>PyData.bool (g i)))=((f x == g x) && l.all λi=>f i == g i);rw[wC f g l];rfl
def kE{g:Nat->Bool}:IB (.list (dB n f)) (.list (dB n g))=true↔∀i,i<n->f i=g i:=by show K5 (dB n f) (dB n g)=true↔_;unfold dB;rw[wC,GF];simp only[HK,beq_iff_eq]
theorem A2{g:Nat->Bool}(hd:d<=n)(a:n % d=0):IB (.list (dB (n-d) λk=>g (d+k))) (.list (dB (n-d) g))=true↔Alike g 0 n d:=by
 rw[kE];constructor
 .intro h;refine⟨a,λi hi=>?_⟩;have:=h i (by lia);rw[show 0+i+d=d+i by lia,this,IQ]
 .intro h i hi;have:=h.2 i (by lia);rw[show 0+i+d=d+i by lia,IQ]at this;exact this
inductive vA(K:FX)(vs:List V)(H:Hp)(Q:VK)(E:XK):Prop|mk:∀(p:Vb) (n:Nat) (g:Nat->Bool),vs=[.ref p]->1<=n->n<=20000->H p=Vn (.lst (aV n g))->(∀(d:Nat) H',Ext H H'->1<=d->d<=n->Alike g 0 n d->(∀e,1<=e->e<d->¬Alike g 0 n e)->Q (.int d) H')->vA K vs H Q E
theorem DY(T:Bu w mg base):Cal P w K mg base "least_step" 1 ["turn"] (vA K):=by
 refine(cI T.d_least_step).oS ["turn","whole","step"] λC nd H vs Q E h=>?_;obtain⟨p,n,g,rfl,v,F,z,q⟩:=h;refine⟨_,(av (aG (i:=1) nd rfl oi (bx (cL K) rfl T.len_ HR (ao (pv 0) aa)))
   (av (aG (i:=2) nd rfl oi ae)
   (av (fE B2 (PW.pt (eQ (aU gH (aH cY (pv 1) (pv 2)) ae (aT _)) (fZ (aU (qR C) (ij (gW K) (pv 0) (fG (pv 2)) jb) (ij (gW K) (pv 0) jb (fG (aH dU (pv 1) (pv 2)))) (aT _))))) (az (kF (i:=2) nd rfl oi ae kY)))
   (az (aL (pv 2)))))),?_⟩
 walk_at"";refine dM (af.of z) ?_;rw[cz];walk_at"";refine fF (λm σ H'=>Ext H H'/\∃d:Nat,σ=[Vn (.ref p),Vn (.int n),Vn (.int d)]/\1<=d/\d<=n/\m=n-d/\∀e,1<=e->e<d->¬Alike g 0 n e)
  (λσ H'=>Ext H H'/\∃d:Nat,σ=[Vn (.ref p),Vn (.int n),Vn (.int d)]/\1<=d/\d<=n/\Alike g 0 n d/\∀e,1<=e->e<d->¬Alike g 0 n e) (n-1)
  ⟨Ext.rfl' H,1,rfl,Gn _,v,rfl,λe h1 h2=>by lia⟩ ?_ ?_
 rotate_left
 .rintro σ H' ⟨e,d,rfl,h1,h2,ha,s⟩;walk_at"";exact q d H' e h1 h2 ha s
 rintro m σ H' ⟨e,d,rfl,h1,h2,rfl,s⟩;have b:=e _ _ z;have a:((n:Int) % (d:Int)=0)↔n % d=0:=by have:(n:Int) % (d:Int)=((n % d:Nat):Int):=rfl;lia
 have next:∀H2,Ext H' H2->¬Alike g 0 n d->∃A,A<n-d/\Ext H H2/\∃c:Nat,[Vn (V.ref p),Vn (V.int n),Vn (V.int ((d:Int)+1))]=[Vn (V.ref p),Vn (V.int n),Vn (V.int c)]/\1<=c/\c<=n/\A=n-c/\∀e,1<=e->e<c->¬Alike g 0 n e:=by
  intro H2 f j;have hlt:d<n:=by
   rcases GQ d n with h|h
   .exact h
   .have:d=n:=by lia
    subst this;exact absurd ⟨Nat.mod_self d,λi hi=>by lia⟩ j
  refine⟨n-(d+1),by lia,e.trans f,d+1,rfl,by lia,by lia,rfl,λe' G I=>?_⟩;rcases GQ e' d with B|B
  .exact s e' G B
  .have:e'=d:=by lia
   subst this;exact j
 walk_at"";by_cases u:(n:Int) % (d:Int)=0
 .rw[GZ u];refine aC ?_;walk_at"";refine gN (af.of b) (cA λp1 H1 x l _=>?_);walk_at"";refine gN (af.of (x _ _ b)) (cA λp2 H2 f o _=>?_);rw[v8 (by lia) (by lia),Gf]at l;rw[BD (by lia) (by lia),show ((n:Int)-(d:Int)).toNat=n-d by lia]at o;refine⟨1,1,_,_,kK (f _ _ l),kK o,by decide,?_⟩;walk_at"";have r:=A2 (g:=g) h2 (a.mp u);cases y:IB (.list (dB (n-d) λk=>g (d+k))) (.list (dB (n-d) g))with
  | true=>
   exact aC ⟨e.trans (x.trans f),d,rfl,h1,h2,r.mp y,s⟩
  | false=>
   refine aI ⟨_,λ_ _ h=>h,?_⟩;walk_at"";exact next H2 (x.trans f) λh=>by rw[r.mpr h]at y;cases y
 .rw[GY u];refine aI (aI ⟨_,λ_ _ h=>h,?_⟩);walk_at"";exact next H' (Ext.rfl' H') λh=>u (a.mpr h.1)
def rA:Alike (λk=>f (b+k)) 0 n d↔Alike f b n d:=by unfold Alike;simp only[IQ,JD]
inductive yI(K:FX)(vs:List V)(H:Hp)(Q:VK)(E:XK):Prop|mk:∀(p:Vb) (b n:Nat) (f:Nat->Bool),vs=[.ref p,.int b]->1<=n->b+n<=20000->H p=Vn (.lst (aV (b+n) f))->bj f b n->(∀v (l d:Nat) H',Ext H H'->Least f d l->l<=b->d<=n->bN H' v l d (row f 0 l) (row f l d)->Q v H')->yI K vs H Q E
theorem uF(T:Bu w mg base):Cal P w K mg base "stair_of_marks" 2 ["marks","base"] (yI K):=by
 refine(bK T.d_stair_of_marks).oS ["marks","base","step","low","once","again"] λhr nd H vs Q E h=>?_;obtain⟨p,b,n,g,rfl,v,a1,hp,y,q⟩:=h;refine⟨_,(av (aG (i:=2) nd rfl oi (aF (DY T) hr (ao (ij (gW K) (pv 0) (fG (pv 1)) jb) aa)))
   (av (aG (i:=3) nd rfl oi (pv 1))
   (av (fE B2 (PW.pt (gQ (aU fX (pv 3) ae (aT _)) (iG (aU bY (ay (aQ K) (pv 0) (aH dU (pv 3) ae) (λ_ _=>rfl)) (ay (aQ K) (pv 0) (aH bp (aH dU (pv 3) ae) (pv 2)) (λ_ _=>rfl)) (aT _))))) (az (kF (i:=3) nd rfl oi ae Ca)))
   (av (di (i:=4) ["number"] [0] nd rfl oi (cX rfl T.range_ (ao (pv 3) aa)) (λ_=>(aN (i:=0) (show(["number","marks"]:List Vm).Nodup from by decide +kernel) rfl oi oj)) (λ_=>(eJ (cj (ay (aQ K) (pv 1) (pv 0) (λ_ _=>rfl))))) (λ_=>(pv 0)))
   (av (di (i:=5) ["number"] [0] nd rfl oi (CB rfl T.range_ (ao (pv 3) (ao (aH bp (pv 3) (pv 2)) aa))) (λ_=>(aN (i:=0) (show(["number","marks"]:List Vm).Nodup from by decide +kernel) rfl oi oj)) (λ_=>(eJ (cj (ay (aQ K) (pv 1) (pv 0) (λ_ _=>rfl))))) (λ_=>(pv 0)))
   (az (aL (bz (ao (pv 3) (ao (pv 2) (ao (jZ (mz K) rfl T.tuple_ Hk (ao (pv 4) aa)) (ao (jZ (mz K) rfl T.tuple_ Hk (ao (pv 5) aa)) aa)))))))))))),?_⟩
 walk_at"";refine gN (af.of hp) (cA λp1 H1 e1 z _=>?_);rw[v8 (by lia) (by lia),Gf,show b+n-b=n by lia]at z;walk_at"";refine⟨p1,n,_,rfl,v,by lia,z,λd H2 e2 M N O f=>?_⟩;have A:=rA.mp O;have c:∀e,1<=e->e<d->¬Alike g b n e:=λe I J h5=>f e I J (rA.mpr h5);have B:Ext H H2:=e1.trans e2;have j:=B _ _ hp;walk_at"";refine fF (λm σ H'=>H'=H2/\∃l:Nat,σ=[Vn (.ref p),Vn (.int b),Vn (.int d),Vn (.int l),Vo,Vo]/\l<=b/\m=l/\∀x,l<=x->x<b->g x=g (x+d))
  (λσ H'=>H'=H2/\∃l:Nat,σ=[Vn (.ref p),Vn (.int b),Vn (.int d),Vn (.int l),Vo,Vo]/\l<=b/\(∀x,l<=x->x<b->g x=g (x+d))/\(l=0\/g (l-1)≠g (l-1+d))) b
  ⟨rfl,b,rfl,Gn _,rfl,λx h1 h2=>by lia⟩ ?_ ?_
 .rintro m σ H' ⟨rfl,l,rfl,C,rfl,a⟩;walk_at"";by_cases h0:(0:Int)<(m:Int)
  .rw[GZ h0];refine aI ?_;walk_at"";refine aR (af.of j) (fk (by lia) (by lia)) ?_;walk_at"";refine aR (af.of j) (fk (by lia) (by lia)) ?_;walk_at"";rw[show ((m:Int)-1).toNat=m-1 by lia,show ((m:Int)-1+(d:Int)).toNat=m-1+d by lia];cases R:g (m-1) == g (m-1+d)with
   | true=>
    refine aI ⟨_,λ_ _ h=>h,?_⟩;walk_at"";refine⟨m-1,by lia,rfl,m-1,by rw[show ((m-1:Nat):Int)=(m:Int)-1 by lia];rfl,by lia,rfl,λx h1 h2=>?_⟩;rcases GQ x m with I|I
    .have:x=m-1:=by lia
     rw[this];exact eq_of_beq R
    .exact a x I h2
   | false=>exact aC ⟨rfl,m,rfl,C,a,.inr λh=>by rw[h]at R;simp at R⟩
  .rw[GY h0];exact aC (aC ⟨rfl,m,rfl,C,a,.inl (by lia)⟩)
 rintro σ H' ⟨rfl,l,rfl,C,a,u⟩;have o:Least g d l:=Bk y v M A c C a u;walk_at"";refine cU (by lia) ?_;rw[Gf];refine f7 (λi ys r=>r=H'/\ys=(row g 0 i).map V.int) (bU (by lia)) ⟨rfl,rfl⟩ ?_ ?_ ?_
 .rintro i ys r _ ⟨rfl,rfl⟩;rw[F1];exact ve g 0 i
 .rintro i ys r hi ⟨rfl,F⟩;walk_at"";refine aR (af.of j) (fk (by lia) (by lia)) ?_;walk_at"";rw[show ((0:Int)+(i:Int)).toNat=i by lia];have e0:g (0+i)=g i:=by rw[IQ]
  cases G:g i with
  | true=>
   refine aI ?_;walk_at"";refine⟨rfl,?_⟩;rw[<-vi F (e0.trans G)];congr 3
   all_goals lia
  | false=>exact aC ⟨rfl,xh F (e0.trans G)⟩
 rintro ys r p3 ⟨rfl,rfl⟩ S;have U:Ext r (upd r p3 (.lst ((row g 0 l).map V.int))):=bh S;have J:(upd r p3 (.lst ((row g 0 l).map V.int))) p3=_:=aE;generalize upd r p3 (.lst ((row g 0 l).map V.int))=H4 at U J;have W:=U _ _ j;walk_at"";refine Bs (by lia) ?_;rw[show ((l:Int)+(d:Int)-(l:Int)).toNat=d by lia];refine f7 (λi ys s=>s=H4/\ys=(row g l i).map V.int) (bU (by lia)) ⟨rfl,rfl⟩ ?_ ?_ ?_
 .rintro i ys s _ ⟨rfl,rfl⟩;rw[F1];exact ve g _ i
 .rintro i ys s hi ⟨rfl,F⟩;walk_at"";refine aR (af.of W) (fk (by lia) (by lia)) ?_;walk_at"";rw[show ((l:Int)+(i:Int)).toNat=l+i by lia];cases G:g (l+i)with
  | true=>
   refine aI ?_;walk_at"";refine⟨rfl,?_⟩;rw[<-vi F G];congr 3
   all_goals lia
  | false=>exact aC ⟨rfl,xh F G⟩
 rintro ys s L ⟨rfl,rfl⟩ X;have Y:Ext s (upd s L (.lst ((row g l d).map V.int))):=bh X;have h6:(upd s L (.lst ((row g l d).map V.int))) L=_:=aE;generalize upd s L (.lst ((row g l d).map V.int))=H6 at Y h6;walk_at"";refine lU (af.of (Y _ _ J)) (cA λt1 H7 e7 Z _=>?_);walk_at"";refine lU (af.of (e7 _ _ h6)) (cA λt2 H8 e8 a0 _=>?_);walk_at"";refine aO λt H9 e9 ht _=>?_;exact q _ l d H9 (B.trans (U.trans (Y.trans (e7.trans (e8.trans e9))))) o C N ⟨t,t1,t2,rfl,ht,e9 _ _ (e8 _ _ Z),e9 _ _ a0⟩
open Classical in
def jF(n:Nat)(R:Nat->Nat->Prop)(f:Nat->Bool):Nat->Bool:=λj=>decide (∃i,i<n/\f i=true/\R i j)
def jS{R:Nat->Nat->Prop}:jF n R f j=true↔∃i,i<n/\f i=true/\R i j:=by unfold jF;simp
def bM(n:Nat)(R:Nat->Nat->Prop)(f:Nat->Bool):Nat->Nat->Bool
 | 0=>f
 | k+1=>jF n R (bM n R f k)
def ft(n:Nat)(f g:Nat->Bool):Prop:=∀j,j<n->f j=g j
def Dt{R:Nat->Nat->Prop}{g:Nat->Bool}(h:ft n f g):ft n (jF n R f) (jF n R g):=λj _=>by
 rw[GH,jS,jS];constructor
 .rintro⟨i,hi,h1,h2⟩;exact⟨i,hi,by rw[<-h i hi];exact h1,h2⟩
 .rintro⟨i,hi,h1,h2⟩;exact⟨i,hi,by rw[h i hi];exact h1,h2⟩
theorem xf{n:Nat}{R:Nat->Nat->Prop}{f:Nat->Bool}{a k:Nat}(h:ft n (bM n R f a) (bM n R f k)):∀t,ft n (bM n R f (a+t)) (bM n R f (k+t))
 | 0=>h
 | t+1=>Dt (xf h t)
def f6(f:Nat->Bool):Nat->Nat
 | 0=>0
 | n+1=>f6 f n+if f n then 2 ^ n else 0
theorem mx(f:Nat->Bool):∀n,f6 f n<2 ^ n
 | 0=>by simp[f6]
 | n+1=>by
  have:=mx f n;have h2:2 ^ (n+1)=2 ^ n+2 ^ n:=by rw[Nat.pow_succ];lia
  show f6 f n+(if f n then 2 ^ n else 0)<_;split<;>lia
theorem wZ{f g:Nat->Bool}:∀n,f6 f n=f6 g n->ft n f g
 | 0,_=>λj b=>absurd b (Ha _)
 | n+1,h=>by
  have h1:=mx f n;have h2:=mx g n;have h':f6 f n+(if f n then 2 ^ n else 0)=f6 g n+(if g n then 2 ^ n else 0):=h;have key:f n=g n/\f6 f n=f6 g n:=by cases c:f n<;>cases d:g n<;>simp[c,d]at h' ⊢<;>lia
  intro j b;by_cases a:j<n
  .exact wZ n key.2 j a
  .have:j=n:=by lia
   subst this;exact key.1
theorem vj{F:Nat->Nat->Bool}(f:n<=12)(h:∀a b,a<b->b<k->¬ft n (F a) (F b)):k<=4096:=by
 have h1:=Bfs.iV 4096 ((GX k).map λa=>f6 (F a) n) (by
  rw[List.nodup_iff_pairwise_ne,Ii,Iw];intro i j hi d c e;simp at hi d e;exact h i j c d (wZ n e)) (λx g=>by
  obtain⟨a,_,rfl⟩:=G6.mp g;exact GA (mx (F a) n) (GC (L5 (by lia) f) (by decide)))
 simpa using h1
def gK(n:Nat)(R:Nat->Nat->Prop)(top:Nat)(M:Nat->Nat->Bool):Nat->Nat->Bool:=λi=>if i<top then M i else bM n R (M top) (i-top)
theorem Ff{xs:List α}(h:xs.length=k+1){v:α}(a:xs[k]?=Vn v):bT xs (-1)=Vn v:=by unfold bT fo;rw[h,G0 (by lia),G5 (by lia)];rw[show (-1+((k+1:Nat):Int)).toNat=k by lia];exact a
theorem D7(h:xs.length=k+1):c6 xs Vo (Vn (-1))=xs.take k:=by
 unfold c6;have a:HT.cB xs.length xs.length (Vn (-1))=k:=by show(if(-1:Int)<0 then(-1+(xs.length:Int)).toNat else min (-1:Int).toNat xs.length)=_;rw[G5 (by decide)];lia
 have b:HT.cB xs.length 0 Vo=0:=rfl;rw[a,b];simp
theorem mY{H:Hp}{n:Nat}:∀{hs:List Vb} {F:Nat->Nat->Bool},(∀(a:Nat) (r:Vb),hs[a]?=Vn r->H r=Vn (.lst (aV n (F a))))->Paired (bo H 1) (A0 V.ref hs) ((GX hs.length).map λa=>PyData.list (dB n (F a)))
 | [],_,_=>.nil
 | r::hs,F,h=>by rw[Gw,LS,Hr,Hr,Mb];exact .cons (kK (h 0 r rfl)) (mY λa b c=>h (a+1) b (by simpa using c))
theorem Fo{i x a:Nat}(h:x+a<=i):a+(i-x-a)=i-x:=by lia
theorem BP{i x a k:Nat}(h:x+a<=i)(ha:a<k+1):k+1+(i-x-a)=i+(k+1-a)-x:=by lia
theorem qV{i x a c:Nat}(h:x+a<=i):¬i+c<x/\¬i<x:=by lia
theorem Dk{x r h k a:Nat}(b:r=x+1)(c:h=k+1)(ha:a<k+1):min x r+h=x+a+(k+1-a):=by lia
theorem Ea{i x r:Nat}(a:r=x+1):i-min x r=i-x:=by lia
theorem wW{x r:Nat}(a:r=x+1):min x r=x:=by lia
inductive yM(K:FX)(vs:List V)(H:Hp)(Q:VK)(E:XK):Prop|mk:∀a m ws c x,vs=[a,.ref c]->bq H a m ws->HOuse m ws->aw H c x->bO m x->dE K->Tbs K H->(∀p d rs (b N:Nat) M H',Et H H'->Tbs K H'->H' p=Vn (.tup [.ref d,.int (b:Nat)])->Rows H' d rs m.toNat (gK m.toNat (bD ws m.toNat) x.2.toNat M)->rs.length=b+N->1<=N->b+N<=5200->(∀r,r<m.toNat->bj (λi=>gK m.toNat (bD ws m.toNat) x.2.toNat M i r) b N)->(∀i r:Nat,(i:Int)<=x.2->(r:Int)<m->(M i r=true↔∃n,Bfs.Rw (LB ws m.toNat x.2) n x ((r:Int),(i:Int))))->Q (.ref p) H')->yM K vs H Q E
theorem B8(T:Bu w mg base):Cal P w K mg base "all_levels" 9 ["house","place"] (yM K):=by
 refine(bK T.d_all_levels).oS ["house","place","rises","low","high","level"] λJ nd H vs Q E h=>?_;obtain⟨vh,m,ws,pa,x,rfl,hv,ok,a0,ix,a9,ap,q⟩:=h;have m1:=ok.m1;have m12:=ok.m12;obtain⟨i0,i1,i2,i3⟩:=id ix;refine⟨_,(av (aG (i:=2) nd rfl oi (aF (zZ T) J (ao (pv 0) aa)))
   (av (aG (i:=3) nd rfl oi (aF (zG T) J (ao (pv 0) (ao (pv 1) aa))))
   (av (aG (i:=4) nd rfl oi (bF (ao (ay (aQ K) (pv 3) (eX fh ae) (λ_ _=>rfl)) aa)))
   (av (aG (i:=5) nd rfl oi (aF (wb T) J (ao (pv 2) (ao (ay (aQ K) (pv 3) (eX fh ae) (λ_ _=>rfl)) aa))))
   (av (fE B2 (aU (tO J) (pv 5) (pv 4) (by with_unfolding_all rfl)) (av (br (bP K F8 Gp Gq bZ (pv 4) (ao (pv 5) aa)))
   (az (aG (i:=5) nd rfl oi (aF (wb T) J (ao (pv 2) (ao (pv 5) aa)))))))
   (az (aL (bz (ao (aH j2 (ij (gW K) (pv 3) jb (fG (eX fh ae))) (pv 4)) (ao (aH bp (ay (aD K) (pv 1) ae (λ_ _=>rfl)) (bP K F8 LD PySem.F.type_list_index (FK J) (pv 4) (ao (pv 5) aa))) aa)))))))))),?_⟩
 walk_at"";refine⟨vh,m,ws,rfl,hv,ok,a9,ap,λrl H1 e1 aq ar=>?_⟩;walk_at"";refine⟨vh,m,ws,pa,x,rfl,hv.et e1,ok,a0.et e1,ix,a9,aq,λlq rs M H2 e2 as rows be hM=>?_⟩;have L:=ar.et e2;have ab:=(a0.et e1).et e2;have d:rs.length=x.2.toNat+1:=by lia
 have n:rs[x.2.toNat]?=Vn rs[x.2.toNat]:=F2 (by lia);generalize rs[x.2.toNat]=r0 at n;have ac:=rows.2 _ _ n;have hat:bT (A0 V.ref rs) (-1)=Vn (.ref r0):=Ff (k:=x.2.toNat) (by rw[F1];exact d) (by rw[F3,n];rfl);walk_at"";refine aR (af.of rows.1) hat ?_;walk_at"";refine aO λp H3 e3 au b0=>?_;walk_at"";refine aR (af.of (e3 _ _ rows.1)) hat ?_;walk_at"";refine⟨rl,r0,m.toNat,_,_,rfl,L.et e3.et,e3 _ _ ac,by lia,λlv g H4 e4 bg ad hg=>?_⟩;have ah:=e3.trans e4;have ai:H4 lv=Vn (.lst (aV m.toNat (bM m.toNat (bD ws m.toNat) (M x.2.toNat) 1))):=by
  rw[ad];congr 2;exact dm λj N=>by rw[GH];exact(hg j N).trans jS.symm
 clear ad hg;walk_at"";refine fF (λmm σ H'=>∃hs lv k,Ext H2 H'/\H' p=Vn (.lst (A0 V.ref hs))/\hs.length=k+1/\(∀(a:Nat) (r:Vb),hs[a]?=Vn r->H' r=Vn (.lst (aV m.toNat (bM m.toNat (bD ws m.toNat) (M x.2.toNat) a))))/\(∀a b,a<b->b<k+1->¬ft m.toNat (bM m.toNat (bD ws m.toNat) (M x.2.toNat) a) (bM m.toNat (bD ws m.toNat) (M x.2.toNat) b))/\H' lv=Vn (.lst (aV m.toNat (bM m.toNat (bD ws m.toNat) (M x.2.toNat) (k+1))))/\mm=4097-k/\σ=[Vn vh,Vn (.ref pa),Vn (.ref rl),Vn (.ref lq),Vn (.ref p),Vn (.ref lv)])
  (λσ H'=>∃hs lv k a,Ext H2 H'/\H' p=Vn (.lst (A0 V.ref hs))/\hs.length=k+1/\(∀(a:Nat) (r:Vb),hs[a]?=Vn r->H' r=Vn (.lst (aV m.toNat (bM m.toNat (bD ws m.toNat) (M x.2.toNat) a))))/\(∀a b,a<b->b<k+1->¬ft m.toNat (bM m.toNat (bD ws m.toNat) (M x.2.toNat) a) (bM m.toNat (bD ws m.toNat) (M x.2.toNat) b))/\H' lv=Vn (.lst (aV m.toNat (bM m.toNat (bD ws m.toNat) (M x.2.toNat) (k+1))))/\a<k+1/\ft m.toNat (bM m.toNat (bD ws m.toNat) (M x.2.toNat) a) (bM m.toNat (bD ws m.toNat) (M x.2.toNat) (k+1))/\k+1<=4096/\σ=[Vn vh,Vn (.ref pa),Vn (.ref rl),Vn (.ref lq),Vn (.ref p),Vn (.ref lv)])
  4097 ⟨[r0],lv,0,ah,e4 _ _ au,rfl,λa r ha=>by
   cases a with
   | zero=>cases ha;exact ah _ _ ac
   | succ a=>simp at ha,λa b h1 h2=>by lia,ai,rfl,rfl⟩ ?_ ?_
 .rintro mm σ R ⟨hs,lv,k,W,l,A,hrow,B,s,rfl,rfl⟩;have hk:=vj (F:=bM m.toNat (bD ws m.toNat) (M x.2.toNat)) (show m.toNat<=12 by lia) B;have aj:=mY hrow;walk_at"";refine yp (kK s) l aj (by lia) ?_;have C:((GX hs.length).map λa=>PyData.list (dB m.toNat (bM m.toNat (bD ws m.toNat) (M x.2.toNat) a))).any (λe=>IB e (.list (dB m.toNat (bM m.toNat (bD ws m.toNat) (M x.2.toNat) (k+1)))))=true↔∃a,a<k+1/\ft m.toNat (bM m.toNat (bD ws m.toNat) (M x.2.toNat) a) (bM m.toNat (bD ws m.toNat) (M x.2.toNat) (k+1)):=by
   rw[LR,GG,A];constructor
   .rintro⟨a,ha,X⟩;exact⟨a,HK.mp ha,kE.mp X⟩
   .rintro⟨a,ha,X⟩;exact⟨a,HK.mpr ha,kE.mpr X⟩
  generalize ((GX hs.length).map λa=>PyData.list (dB m.toNat (bM m.toNat (bD ws m.toNat) (M x.2.toNat) a))).any (λe=>IB e (.list (dB m.toNat (bM m.toNat (bD ws m.toNat) (M x.2.toNat) (k+1)))))=bb at C ⊢;cases bb with
  | true=>
   obtain⟨a,ha,hsame⟩:=C.mp rfl;refine⟨_,rfl,aC ?_⟩;exact⟨hs,lv,k,a,W,l,A,hrow,B,s,ha,hsame,hk,rfl⟩
  | false=>
   have hno:∀a,a<k+1->¬ft m.toNat (bM m.toNat (bD ws m.toNat) (M x.2.toNat) a) (bM m.toNat (bD ws m.toNat) (M x.2.toNat) (k+1)):=λa ha hs=>by have:=C.mpr ⟨a,ha,hs⟩;cases this
   have O:∀a b,a<b->b<k+1+1->¬ft m.toNat (bM m.toNat (bD ws m.toNat) (M x.2.toNat) a) (bM m.toNat (bD ws m.toNat) (M x.2.toNat) b):=λa b hab hb=>by
    by_cases b1:b<k+1
    .exact B a b hab b1
    .have:b=k+1:=by lia
     subst this;exact hno a hab
   have bi:=vj (F:=bM m.toNat (bD ws m.toNat) (M x.2.toNat)) (show m.toNat<=12 by lia) O;refine⟨_,rfl,aI ⟨λak H'=>∃hs lv,Ext H2 H'/\H' p=Vn (.lst (A0 V.ref hs))/\hs.length=k+1+1/\(∀(a:Nat) (r:Vb),hs[a]?=Vn r->H' r=Vn (.lst (aV m.toNat (bM m.toNat (bD ws m.toNat) (M x.2.toNat) a))))/\H' lv=Vn (.lst (aV m.toNat (bM m.toNat (bD ws m.toNat) (M x.2.toNat) (k+1+1))))/\ak=[Vn vh,Vn (.ref pa),Vn (.ref rl),Vn (.ref lq),Vn (.ref p),Vn (.ref lv)],λak H' ⟨hs,lv,a1,a2,a3,a4,a5,a6⟩=>⟨4097-(k+1),by lia,hs,lv,k+1,a1,a2,a3,a4,O,a5,rfl,a6⟩,?_⟩⟩;have nqr:∀r∈hs++[lv],r≠p:=λr J z=>by
    have hb:∃f,R r=Vn (.lst (aV m.toNat f)):=by
     rcases Gr.mp J with h|h
     .obtain⟨j,N⟩:=GR h;exact⟨_,hrow j r N⟩
     .rw[Gb.mp h];exact⟨_,s⟩
    obtain⟨f,hb⟩:=hb;rw[z,l]at hb;have h2:A0 V.ref hs=aV m.toNat f:=by
     injection hb with hb
     injection hb
    have Y:=congrArg (λz:List V=>z[0]?) h2
    try dsimp only at Y
    rw[gy _ (by lia),F3]at Y;cases y:hs[0]? with
    | none=>rw[y]at Y;cases Y
    | some a=>rw[y]at Y;cases Y
   walk_at"";refine⟨cH (af.of l),?_⟩;walk_at"";refine bV l (dC (by rw[F1];lia)) ?_;have b2:H2 p=Vo:=b0;have Z:=b6 (o:=.lst (A0 V.ref hs++[.ref lv])) W b2;have keep:∀b o,b≠p->R b=Vn o->upd R p (.lst (A0 V.ref hs++[.ref lv])) b=Vn o:=λb o nb e=>by rw[aA nb];exact e
   have am:upd R p (.lst (A0 V.ref hs++[.ref lv])) p=Vn (.lst (A0 V.ref (hs++[lv]))):=by rw[aE,Gj];rfl
   have G:=keep lv _ (nqr lv (by simp)) s;have hrow6:∀(a:Nat) (r:Vb),(hs++[lv])[a]?=Vn r->upd R p (.lst (A0 V.ref hs++[.ref lv])) r=Vn (.lst (aV m.toNat (bM m.toNat (bD ws m.toNat) (M x.2.toNat) a))):=λa r ha=>by
    by_cases b4:a<hs.length
    .rw[Gu b4]at ha;exact keep r _ (nqr r (GN _ (Ga ha))) (hrow a r ha)
    .rw[Gs (by lia)]at ha;have hz:a-hs.length=0:=by have:=(F9.mp ha).1;simp at this;lia
     rw[hz]at ha;cases ha;have:a=k+1:=by lia
     subst this;exact G
   generalize upd R p (.lst (A0 V.ref hs++[.ref lv]))=H6 at Z am G hrow6 ⊢;walk_at"";refine⟨rl,lv,m.toNat,_,_,rfl,L.et Z.et,G,by lia,λb5 g2 H7 e7 _ b7 b8=>?_⟩;walk_at"";refine⟨hs++[lv],b5,Z.trans e7,e7 _ _ am,by rw[Gk,A];rfl,λa r ha=>e7 _ _ (hrow6 a r ha),?_,rfl⟩;rw[b7];congr 2;exact dm λj N=>by rw[GH];exact(b8 j N).trans jS.symm
 .rintro σ R ⟨hs,lv,k,a,W,l,A,hrow,B,s,ha,hsame,hk,rfl⟩;have S:=rows.ext W;walk_at"";refine gN (af.of S.1) (cA λlo H6 Z an _=>?_);rw[D7 (k:=x.2.toNat) (by rw[F1];exact d)]at an;walk_at"";refine ke an (Z _ _ l) (bU (by simp;lia)) (cA λll H7 e7 ba _=>?_);have u:=Z.trans e7;walk_at"";refine aB (ax.of (u _ _ (W _ _ ab))) (v:=.int x.2) rfl ?_;walk_at"";have hrow7:∀(a:Nat) (r:Vb),hs[a]?=Vn r->H7 r=Vn (.lst (aV m.toNat (bM m.toNat (bD ws m.toNat) (M x.2.toNat) a))):=λa r h=>u _ _ (hrow a r h);refine⟨cH (af.of (u _ _ l)),?_⟩;walk_at"";refine⟨1,p,_,.ref lv,_,_,a,rfl,rfl,kK (u _ _ s),u _ _ l,mY hrow7,by lia,⟨_,by rw[F3,Jj (by lia)];rfl,kE.mpr hsame⟩,λb e hb X=>?_,by lia,?_⟩
  .rw[F3,Jj (by lia)]at X;cases X;rw[IY];intro hc;have:=kE.mp hc;exact B b a hb ha λj N=>(this j N).trans (hsame j N).symm
  walk_at"";refine aO λpp H8 e8 bc _=>?_;have U:=W.trans (u.trans e8);refine q pp ll (rs.take x.2.toNat++hs) (x.2.toNat+a) (k+1-a) M H8 ((e1.trans e2).trans U.et) (as.ext U) ?_ ⟨?_,λi r hi=>?_⟩ ?_ (by lia) (by lia) (λr J=>?_) hM
  .rw[bc];congr 3;congr 2;lia
  .rw[e8 _ _ ba,Gj,J9]
  .unfold gK;by_cases I:i<x.2.toNat
   .rw[G5 I];rw[Gu (by rw[GU,wW d];exact I),Ic I]at hi;exact U _ _ (rows.2 i r hi)
   .rw[G0 I];rw[Gs (by rw[GU,wW d];exact J5 I),GU,Ea d]at hi;exact e8 _ _ (hrow7 _ _ hi)
  .rw[Gk,GU];exact Dk d A ha
  .intro i hi;show gK _ _ _ _ (i+(k+1-a)) r=gK _ _ _ _ i r;unfold gK;rw[G0 (qV hi).1,G0 (qV (c:=0) hi).2];have hp:=xf hsame (i-x.2.toNat-a) r J;rw[Fo hi,BP hi ha]at hp;exact hp.symm
theorem sH(h:i+1<=d)(a:d≠i+1):i+1+(d-1-(i+1))=d-1:=by lia
def aS(ws:List Way)(a b:Bfs.Pl):Prop:=∃w∈ws,cw w a.1 a.2=true/\b=(w.other,a.2+rz w.deed)
def aP(ws:List Way)(x y:Bfs.Pl):Prop:=∃n,Bfs.Rw (aS ws) n x y
def iA{w:Way}{n:Int}(b:w.room=r)(h:w.deed = "up"\/w.deed = "stay"\/(w.deed = "down"/\0<n)\/(w.deed = "zero"/\n=0)):cw w r n=true:=by
 unfold cw;rw[GZ b,Bool.true_and];rcases h with h|h|⟨h,a⟩|⟨h,a⟩
 .rw[h,G0 (by decide +kernel)]
  rfl
 .rw[h,G0 (by decide +kernel)]
  rfl
 .rw[h,G5 (by decide +kernel)];exact GZ a
 .rw[h,G0 (by decide +kernel),a];simp
def f9{w:Way}{n:Int}(hd:cD w.deed)(h:cw w r n=true):(w.deed = "up"/\rz w.deed=1)\/(w.deed = "stay"/\rz w.deed=0)\/(w.deed = "down"/\0<n/\rz w.deed = -1)\/(w.deed = "zero"/\n=0/\rz w.deed=0):=by
 unfold cw at h;rw[GI]at h;rcases hd with hd|hd|hd|hd
 .exact .inl ⟨hd,by rw[hd];exact jQ⟩
 .rw[hd,G5 (by decide +kernel)]at h;exact .inr (.inr (.inl ⟨hd,of_decide_eq_true h.2,by rw[hd];exact lj⟩))
 .exact .inr (.inl ⟨hd,by rw[hd];exact lI⟩)
 .rw[hd,G0 (by decide +kernel)]at h;have h2:decide ((GJ "zero") = "zero")=true:=by decide +kernel
  refine .inr (.inr (.inr ⟨hd,?_,by rw[hd];exact o7⟩));simpa using h.2
def aP.refl:aP ws x x:=⟨0,.nil⟩
theorem aP.trans{ws:List Way}{x y z:Bfs.Pl}(h:aP ws x y)(g:aP ws y z):aP ws x z:=by obtain⟨n,h⟩:=h;obtain⟨k,g⟩:=g;exact⟨n+k,h.trans g⟩
def aP.one(h:aS ws x y):aP ws x y:=⟨1,.snoc .nil h⟩
section
variable {m:Int} {ws:List Way} (ok:∀w∈ws,w.Ok m)
include ok
theorem fg{a b:Bfs.Pl}(h:aS ws a b)(ha:0<=a.2):0<=b.1/\b.1<m/\0<=b.2/\b.2<=a.2+1/\a.2<=b.2+1:=by obtain⟨w,d,ho,rfl⟩:=h;have c:=ok w d;refine⟨c.o0,c.o1,?_⟩;rcases f9 c.dd ho with⟨_,h⟩|⟨_,h⟩|⟨_,h1,h⟩|⟨_,h1,h⟩<;>(show 0<=a.2+rz w.deed/\a.2+rz w.deed<=a.2+1/\a.2<=a.2+rz w.deed+1;lia)
theorem xQ(h:Kpt ws m.toNat i j):∀L,0<=L->aP ws ((i:Int),L) ((j:Int),L):=by
 induction h with
 | refl _=>exact λ_ _=>.refl
 | @stay w l hd=>
  intro L _;have a:=ok w l;have r0:=a.r0;have o0:=a.o0;refine .one ⟨w,l,iA (by show w.room=(w.room.toNat:Int);lia) (.inr (.inl hd)),?_⟩;rw[hd,lI];exact IG (by show(w.other.toNat:Int)=w.other;lia) (by show L=L+0;lia)
 | trans _ _ h1 h2=>exact λL g=>(h1 L g).trans (h2 L g)
 | @arch u d n b hd c _ o=>
  intro L g;have e:=ok u n;have f:=ok d hd;have p:=e.r0;have q:=e.o0;have r:=f.r0;have s:=f.o0;have s1:aS ws (((u.room.toNat:Nat):Int),L) (((u.other.toNat:Nat):Int),L+1):=⟨u,n,iA (by show u.room=((u.room.toNat:Nat):Int);lia) (.inl b),by rw[b,jQ];exact IG (by show((u.other.toNat:Nat):Int)=u.other;lia) rfl⟩;have s2:aS ws (((d.room.toNat:Nat):Int),L+1) (((d.other.toNat:Nat):Int),L):=⟨d,hd,iA (by show d.room=((d.room.toNat:Nat):Int);lia) (.inr (.inr (.inl ⟨c,by lia⟩))),by rw[c,lj];exact IG (by show((d.other.toNat:Nat):Int)=d.other;lia) (by show L=L+1 + -1;lia)⟩;exact((aP.one s1).trans (o (L+1) (by lia))).trans (.one s2)
theorem rE:∀n (w:Nat->Bfs.Pl) i L,1<=L->(∀k,i<=k->k<i+n->aS ws (w k) (w (k+1)))->(∀k,i<=k->k<=i+n->L<=(w k).2)->(w i).2=L->(w (i+n)).2=L->0<=(w i).1->(w i).1<m->Kpt ws m.toNat (w i).1.toNat (w (i+n)).1.toNat:=by
 intro n;induction n using IS with
 | ind n F=>
  intro w i L J p E S h1 r0 r1;cases n with
  | zero=>exact .refl (by show(w i).1.toNat<m.toNat;lia)
  | succ n=>
   have s0:=p i (Gn _) (by lia);have in1:=fg ok s0 (by lia);obtain⟨v,G,ho,q⟩:=id s0;have H:=ok v G;have c:=gr ho;have M:(w (i+1)).1=v.other:=by rw[q]
   have T:(w (i+1)).2=(w i).2+rz v.deed:=by rw[q]
   have hge:=E (i+1) (by lia) (by lia);rcases f9 H.dd ho with⟨hd,f⟩|⟨hd,f⟩|⟨hd,_,f⟩|⟨hd,O,f⟩
   .obtain⟨d,r,s,g,j⟩:=Bfs.tp (h:=λk=>(w k).2) (l:=L) (P:=i+1) (n:=i+(n+1)) (by lia) (λk a b=>(fg ok (p k (by lia) b) (by have:=E k (by lia) (by lia);lia)).2.2.2.2) (by show(w (i+(n+1))).2<=L;omega) (by show L<=(w (i+1)).2;omega)
    try dsimp only at g j
    have u:d≠i+1:=λz=>by rw[z]at g;omega
    have I:=p (d-1) (by omega) (by omega);rw[show d-1+1=d by omega]at I;obtain⟨x,y,A,B⟩:=id I;have C:=ok x y;have e:=gr A;have Q:(w d).1=x.other:=by rw[B]
    have U:(w d).2=(w (d-1)).2+rz x.deed:=by rw[B]
    have R:=j (d-1) (by omega) (by omega);have o:x.deed = "down"/\rz x.deed = -1:=by
     rcases f9 C.dd A with⟨_,f⟩|⟨_,f⟩|⟨hd,_,f⟩|⟨_,_,f⟩
     .omega
     .omega
     .exact⟨hd,f⟩
     .omega
    have inner:=F (d-1-(i+1)) (by omega) w (i+1) (L+1) (by omega) (λk a b=>p k (by omega) (by omega)) (λk a b=>by have:=j k a (by omega);omega) (by omega) (by rw[sH r u];omega) in1.1 in1.2.1;rw[sH r u,M,<-e]at inner;have N:=Kpt.arch G hd y o.1 inner;rw[c,<-Q]at N;have ind:=fg ok I (by omega);have rest:=F (i+(n+1)-d) (by omega) w d L J (λk a b=>p k (by omega) (by omega)) (λk a b=>E k (by omega) (by omega)) g (by rw[Nat.add_sub_of_le s];exact h1) ind.1 ind.2.1;rw[Nat.add_sub_of_le s]at rest;exact .trans N rest
   .have rest:=F n (by omega) w (i+1) L J (λk a b=>p k (by omega) (by omega)) (λk a b=>E k (by omega) (by omega)) (by omega) (by rw[show i+1+n=i+(n+1) by omega];exact h1) in1.1 in1.2.1;rw[show i+1+n=i+(n+1) by omega,M]at rest;have st:=Kpt.stay (n:=m.toNat) G hd;rw[c]at st;exact .trans st rest
   .omega
   .omega
theorem ph{w:Nat->Bfs.Pl}{n:Nat}(a:0<=(w 0).1/\(w 0).1<m/\0<=(w 0).2)(b:∀k,k<n->aS ws (w k) (w (k+1))):∀k,k<=n->0<=(w k).1/\(w k).1<m/\0<=(w k).2
 | 0,_=>a
 | k+1,d=>by have c:=ph a b k (by lia);have:=fg ok (b k (by lia)) c.2.2;exact⟨this.1,this.2.1,this.2.2.1⟩
theorem FQ(d:0<=top)(e:bL m top x)(h:Bfs.Rw (LB ws m.toNat top) k x y):aP ws x y/\bL m top y:=by
 induction h with
 | nil=>exact⟨.refl,e⟩
 | @snoc n x y z _ hs o=>
  obtain⟨f,g⟩:=o e;rcases hs with⟨w,p,ho,rfl,hle⟩|⟨q,i,j,l,a,rfl⟩
  .have st:aS ws y (w.other,y.2+rz w.deed):=⟨w,p,ho,rfl⟩;have:=fg ok st g.2.2.1;exact⟨f.trans (.one st),this.1,this.2.1,this.2.2.1,hle⟩
  .have hlt:=Kpt.lt ok l;have b:y.2=top:=by have:=g.2.2.2;lia
   have hs:=xQ ok l top d;have c:y=((i:Int),top):=IG a b;rw[<-c]at hs;exact⟨f.trans hs,by show(0:Int)<=j;lia,by show(j:Int)<m;lia,d,IU _⟩
theorem A3(R:0<=top):∀n (w:Nat->Bfs.Pl),0<=(w 0).1->(w 0).1<m->(w 0).2=top->(∀k,k<n->aS ws (w k) (w (k+1)))->(w n).2<=top->∃k,Bfs.Rw (LB ws m.toNat top) k (w 0) (w n):=by
 intro n;induction n using IS with
 | ind n E=>
  intro w b c i d hle;cases n with
  | zero=>exact⟨0,.nil⟩
  | succ n=>
   have hin:=ph ok (w:=w) (n:=n+1) ⟨b,c,by lia⟩ d;have sn:=d n (by lia);have J:=fg ok sn (hin n (by lia)).2.2;by_cases e:(w n).2<=top
   .obtain⟨k,g⟩:=E n (by lia) w b c i (λk g=>d k (by lia)) e;obtain⟨v,s,ho,L⟩:=sn;exact⟨k+1,.snoc g (.inl ⟨v,s,ho,L,hle⟩)⟩
   .obtain⟨u,S,j,f⟩:=Bfs.kQ n (λk g=>(fg ok (d k (by lia)) (hin k (by lia)).2.2).2.2.2.1) (by show(w 0).2<=top;lia) (by show top<=(w n).2;lia)
    have M:u≠n:=λz=>by rw[z]at j;lia
    have F:=d u (by lia);have N:=fg ok F (hin u (by lia)).2.2;have O:=f (u+1) (by lia) (by lia);obtain⟨v,s,ho,o⟩:=id F;obtain⟨x,p,q,r⟩:=id sn;have P:(w (u+1)).1=v.other:=by rw[o]
    have T:(w (u+1)).2=(w u).2+rz v.deed:=by rw[o]
    have Q:(w (n+1)).1=x.other:=by rw[r]
    have U:(w (n+1)).2=(w n).2+rz x.deed:=by rw[r]
    have y:v.deed = "up":=by
     rcases f9 (ok v s).dd ho with⟨hd,_⟩|⟨_,e⟩|⟨_,_,e⟩|⟨_,_,e⟩
     .exact hd
     .omega
     .omega
     .omega
    have A:x.deed = "down":=by
     rcases f9 (ok x p).dd q with⟨_,e⟩|⟨_,e⟩|⟨hd,_,_⟩|⟨_,_,e⟩
     .omega
     .omega
     .exact hd
     .omega
    have a:=hin (u+1) (by lia);have inner:=rE ok (n-(u+1)) w (u+1) (top+1) (by lia) (λk B C=>d k (by omega)) (λk B C=>by have:=f k (by omega) (by omega);omega) (by omega) (by rw[show u+1+(n-(u+1))=n by omega];omega) a.1 a.2.1;rw[show u+1+(n-(u+1))=n by omega,P,<-gr q]at inner;have G:=Kpt.arch s y p A inner;rw[gr ho,<-Q]at G;obtain⟨k,g⟩:=E u (by omega) w b c i (λk g=>d k (by omega)) (by omega);have H:=hin u (by omega);have I:=hin (n+1) (by omega);refine⟨k+1,.snoc g (.inr ⟨by omega,_,_,G,by omega,?_⟩)⟩;exact IG (by show(w (n+1)).1=(((w (n+1)).1.toNat:Nat):Int);omega) (by show(w (n+1)).2=top;omega)
def Ab(d:0<=top)(b:bL m top x)(c:x.2=top)(e:y.2<=top):(∃n,Bfs.Rw (LB ws m.toNat top) n x y)↔aP ws x y:=by
 constructor
 .rintro⟨n,h⟩;exact(FQ ok d b h).1
 .rintro⟨n,h⟩;obtain⟨w,a,wn,f⟩:=h.fn;have:=A3 ok d n w (by rw[a];exact b.1) (by rw[a];exact b.2.1) (by rw[a];exact c) f (by rw[wn];exact e);rw[a,wn]at this;exact this
theorem sV(H:0<=x.1/\x.1<m/\0<=x.2){i r:Nat}(hi:x.2<=(i:Int)):aP ws x ((r:Int),((i+1:Nat):Int))↔∃p,p<m.toNat/\aP ws x ((p:Int),(i:Int))/\bD ws m.toNat p r:=by
 constructor
 .rintro⟨n,h⟩;obtain⟨w,s,wn,d⟩:=h.fn;have hin:=ph ok (w:=w) (n:=n) (by rw[s];exact H) d;have y:(w n).2=(i:Int)+1:=by rw[wn];lia
  obtain⟨u,O,b,c⟩:=Bfs.kQ (h:=λk=>(w k).2) (l:=(i:Int)) n (λk o=>(fg ok (d k o) (hin k (by lia)).2.2).2.2.2.1) (by show(w 0).2<=(i:Int);rw[s];exact hi) (by show(i:Int)<=(w n).2;lia)
  have I:u≠n:=λz=>by rw[z]at b;lia
  have J:=d u (by lia);have L:=c (u+1) (by lia) (by lia);obtain⟨v,e,ho,f⟩:=id J;have M:(w (u+1)).1=v.other:=by rw[f]
  have P:(w (u+1)).2=(w u).2+rz v.deed:=by rw[f]
  have A:v.deed = "up"/\rz v.deed=1:=by
   rcases f9 (ok v e).dd ho with⟨hd,q⟩|⟨_,q⟩|⟨_,_,q⟩|⟨_,_,q⟩
   .exact⟨hd,q⟩
   .omega
   .omega
   .omega
  have a:=hin (u+1) (by lia);have G:=hin u (by lia);have inner:=rE ok (n-(u+1)) w (u+1) ((i:Int)+1) (by lia) (λk B C=>d k (by lia)) (λk B C=>by have:=c k (by lia) (by lia);lia) (by lia) (by rw[show u+1+(n-(u+1))=n by lia];exact y) a.1 a.2.1;rw[show u+1+(n-(u+1))=n by lia,M,show (w n).1.toNat=r by rw[wn];exact Gf r]at inner;refine⟨(w u).1.toNat,by lia,⟨u,?_⟩,v,e,A.1,by rw[gr ho],inner⟩;have seg:=Bfs.kr (S:=aS ws) (w:=w) (i:=0) (j:=u) (by lia) (λk _ o=>d k (by lia));rw[s,Nat.sub_zero]at seg;have E:w u=((((w u).1.toNat:Nat):Int),(i:Int)):=IG (by show(w u).1=(((w u).1.toNat:Nat):Int);lia) b;rw[E]at seg;exact seg
 .rintro⟨p,Q,N,v,e,hd,F,o⟩;have g:=ok v e;have r0:=g.r0;have o0:=g.o0;have st:aS ws ((p:Int),(i:Int)) (((v.other.toNat:Nat):Int),(i:Int)+1):=⟨v,e,iA (by show v.room=((p:Nat):Int);lia) (.inl hd),by rw[hd,jQ];exact IG (by show((v.other.toNat:Nat):Int)=v.other;lia) rfl⟩;have hs:=xQ ok o ((i:Int)+1) (by lia);have:=(N.trans (.one st)).trans hs;rw[show ((i+1:Nat):Int)=(i:Int)+1 by lia];exact this
theorem EV(b:0<=x.1/\x.1<m/\0<=x.2)(e:∀i r:Nat,(i:Int)<=x.2->(r:Int)<m->(M i r=true↔∃n,Bfs.Rw (LB ws m.toNat x.2) n x ((r:Int),(i:Int)))):∀i r,r<m.toNat->(gK m.toNat (bD ws m.toNat) x.2.toNat M i r=true↔aP ws x ((r:Int),(i:Int))):=by
 have c:bL m x.2 x:=⟨b.1,b.2.1,b.2.2,IU _⟩;have low:∀i r:Nat,(i:Int)<=x.2->r<m.toNat->(M i r=true↔aP ws x ((r:Int),(i:Int))):=λi r hi a=>(e i r hi (by omega)).trans (Ab ok b.2.2 c rfl hi);have high:∀k r,r<m.toNat->(bM m.toNat (bD ws m.toNat) (M x.2.toNat) k r=true↔aP ws x (r,((x.2.toNat+k:Nat):Int))):=by
  intro k;induction k with
  | zero=>exact λr a=>low x.2.toNat r (by lia) a
  | succ k d=>
   intro r a;show jF _ _ _ r=true↔_;rw[jS,show x.2.toNat+(k+1)=x.2.toNat+k+1 by lia,sV ok b (by omega)];constructor
   .rintro⟨i,hi,h1,h2⟩;exact⟨i,hi,(d i hi).mp h1,h2⟩
   .rintro⟨i,hi,h1,h2⟩;exact⟨i,hi,(d i hi).mpr h1,h2⟩
 intro i r a;unfold gK;by_cases hi:i<x.2.toNat
 .rw[G5 hi];exact low i r (by omega) a
 .rw[G0 hi,high (i-x.2.toNat) r a,show x.2.toNat+(i-x.2.toNat)=i by omega]
end
inductive uj(K:FX)(vs:List V)(H:Hp)(Q:VK)(E:XK):Prop|mk:∀a rs m F b N r,vs=[.ref a,.int (b:Nat),.int (r:Nat)]->Rows H a rs m F->rs.length=b+N->1<=N->b+N<=20000->r<m->bj (λi=>F i r) b N->(∀v (l d:Nat) H',Ext H H'->Least (λi=>F i r) d l->l<=b->d<=N->bN H' v l d (row (λi=>F i r) 0 l) (row (λi=>F i r) l d)->Q v H')->uj K vs H Q E
theorem zA(T:Bu w mg base):Cal P w K mg base "stair_of_room" 3 ["levels","base","room"] (uj K):=by
 refine(dw T.d_stair_of_room).oS ["levels","base","room"] λx nd H vs Q E h=>?_;obtain⟨J,rs,m,F,b,N,r,rfl,rows,f,y,g,z,c,q⟩:=h;refine⟨_,(az (aL (aF (uF T) x (ao (eo ["level"] [2] (bW K (pv 0)) (λ_=>(aN (i:=0) (show(["level","room"]:List Vm).Nodup from by decide +kernel) rfl oi oj)) (λ_=>dn) (λ_=>(ay (aQ K) (pv 0) (pv 1) (λ_ _=>rfl)))) (ao (pv 1) aa))))),?_⟩;walk_at"";refine bX (af.of rows.1) ?_;refine dP (λi ys H'=>H'=H/\ys=aV i (λi=>F i r)) (GC (show(A0 V.ref rs).length<=20000 by rw[F1];lia) (by decide)) ⟨rfl,rfl⟩ (λi ys H' _ h=>⟨by rw[h.1];exact af.of rows.1,by rw[h.2,cz];exact Gn _⟩) ?_ ?_
 .rintro i v ys H1 p ⟨rfl,rfl⟩;rw[F3]at p;obtain⟨a,ha,rfl⟩:=Ge.mp p;have hrow:=rows.2 i a ha;walk_at"";refine aI ?_;walk_at"";refine aR (af.of hrow) (fk (by lia) (by lia)) ?_;rw[Gf];refine⟨rfl,?_⟩;rw[jG]
 .rintro ys H1 e ⟨A,rfl⟩ j;subst A;rw[F1,f];have s:=bh (o:=.lst (aV (b+N) λi=>F i r)) j;have u:(upd H1 e (.lst (aV (b+N) λi=>F i r))) e=_:=aE;generalize upd H1 e (.lst (aV (b+N) λi=>F i r))=H2 at s u ⊢;walk_at"";exact⟨e,b,N,_,rfl,y,g,u,c,λv l d B C G I hd n=>q v l d B (s.trans C) G I hd n⟩
def fB(H:Hp)(vs:List V)(m:Int)(ws:List Way)(x:Bfs.Pl):Prop:=(vs.length:Int)=m/\∀(r:Nat) (v:V),vs[r]?=Vn v->∃(F:Nat->Bool) (l d:Nat),bN H v l d (row F 0 l) (row F l d)/\Least F d l/\1<=d/\l+d<=5200/\∀i:Nat,F i=true↔aP ws x ((r:Int),(i:Int))
inductive vW(K:FX)(vs:List V)(H:Hp)(Q:VK)(E:XK):Prop|mk:∀a m ws b x,vs=[a,.ref b]->bq H a m ws->HOuse m ws->aw H b x->bO m x->dE K->Tbs K H->(∀l xs H',Et H H'->Tbs K H'->(∀o,H l=Vn o->∃ps,o=.tbl ps)->H' l=Vn (.lst xs)->fB H' xs m ws x->Q (.ref l) H')->vW K vs H Q E
theorem o4(T:Bu w mg base):Cal P w K mg base "forward" 10 ["house","place"] (vW K):=by
 refine(bK T.d_forward).oS ["house","place","told"] λR nd H vs Q E h=>?_;obtain⟨vh,m,ws,pa,x,rfl,s,ok,u,A,S,U,q⟩:=h;have m1:=ok.m1;have m12:=ok.m12;refine⟨_,(av (br (aF (lA T) R (ao (pv 0) aa)))
   (av (br (aF (uJ T) R (ao (pv 0) (ao (bF (ao (pv 1) aa)) aa))))
   (av (aG (i:=2) nd rfl oj (aF (B8 T) R (ao (pv 0) (ao (pv 1) aa))))
   (az (aL (eo ["room"] [2] (cX rfl T.range_ (ao (ay (aD K) (pv 0) ae (λ_ _=>rfl)) aa)) (λ_=>(aN (i:=0) (show(["room","told"]:List Vm).Nodup from by decide +kernel) rfl oi oj)) (λ_=>dn) (λ_=>(aF (zA T) R (ao (ay (aD K) (pv 1) ae (λ_ _=>rfl)) (ao (ay (aD K) (pv 1) ae (λ_ _=>rfl)) (ao (pv 0) aa))))))))))),?_⟩
 walk_at"";refine⟨vh,m,ws,rfl,s,ok,λH1 e1=>?_⟩;obtain⟨g,B,W,hh,_⟩:=id (s.ext e1);subst W;walk_at"";refine aO λpl H2 X Y _=>?_;have a:=e1.trans X;walk_at"";refine⟨g,.ref B,m,pl,[pa],[x],rfl,X _ _ hh,Y,.cons (a _ _ u) .nil,λy hy=>by rw[Gb.mp hy];exact A,?_⟩;walk_at"";refine⟨.ref g,m,ws,pa,x,rfl,s.ext a,ok,a _ _ u,A,S,U.ext a,λp lq rs b N M H3 Z a0 hp rows a3 hN a9 e hM=>?_⟩;have f:=EV ok.ok ⟨A.1,A.2.1,A.2.2.1⟩ hM;generalize gK m.toNat (bD ws m.toNat) x.2.toNat M=F at rows e f;have a4:H3 g=Vn (.tup [.int m,.ref B]):=Z _ _ (X _ _ hh) (λps z=>by cases z);walk_at"";refine aB (ax.of a4) (v:=.int m) rfl ?_;walk_at"";refine cU (by lia) ?_;refine f7 (λi ys H'=>Ext H3 H'/\ys.length=i/\∀(r:Nat) (v:V),ys[r]?=Vn v->∃(F:Nat->Bool) (l d:Nat),bN H' v l d (row F 0 l) (row F l d)/\Least F d l/\1<=d/\l+d<=5200/\∀i:Nat,F i=true↔aP ws x ((r:Int),(i:Int))) (bU (by lia)) ⟨Ext.rfl' _,rfl,λr v h=>by simp at h⟩ (λi ys H' _ h=>LK h.2.1) ?_ ?_
 .rintro i ys H4 hi ⟨n,C,hys⟩;rw[show (0:Int)+(i:Int)=((i:Nat):Int) by lia];have G:=n _ _ hp;walk_at"";refine aI ?_;walk_at"";refine aB (ax.of G) (v:=.ref lq) rfl ?_;walk_at"";refine aB (ax.of G) (v:=.int (b:Nat)) rfl ?_;walk_at"";refine⟨lq,rs,m.toNat,F,b,N,i,rfl,rows.ext n,a3,hN,by lia,hi,e i hi,λv l d H5 I hL hl hd a5=>?_⟩;refine⟨n.trans I,by rw[Gk,C];rfl,λr v' c=>?_⟩;by_cases J:r<ys.length
  .rw[Gu J]at c;obtain⟨F',l',d',a1,a2⟩:=hys r v' c;exact⟨F',l',d',a1.ext I,a2⟩
  .rw[Gs (by lia)]at c;have hz:r-ys.length=0:=by have:=(F9.mp c).1;simp at this;lia
   rw[hz]at c;cases c;have a6:r=i:=by lia
   subst a6;exact⟨λj=>F j r,l,d,a5,hL,hL.pos,by lia,λj=>f j r hi⟩
 .rintro ys H4 p9 ⟨n,C,hys⟩ L;have I:=bh (o:=.lst ys) L;have O:=n.trans I;walk_at"";refine q p9 ys _ ((a.et.trans Z).trans O.et) (a0.ext O) (λo ho=>HL λz=>by have:=((a.et.trans Z).trans n.et) p9 o ho λps w=>z ⟨ps,w⟩;rw[L]at this;cases this) aE ⟨by lia,λr v s=>?_⟩
  obtain⟨F',l',d',a1,a2⟩:=hys r v s;exact⟨F',l',d',a1.ext I,a2⟩
theorem oh(ok:∀w∈ws,w.Ok m){p r:Nat}(h:bD ws m.toNat p r):p<m.toNat/\r<m.toNat:=by obtain⟨v,b,hd,a,c⟩:=h;have:=Kpt.lt ok c;have r1:=(ok v b).r1;lia
theorem lJ(ok:∀w∈ws,w.Ok m)(d:0<=x.1/\x.1<m/\0<=x.2):∀k r,r<m.toNat->(aP ws x ((r:Int),((x.2.toNat+k:Nat):Int))↔∃s,s<m.toNat/\aP ws x ((s:Int),x.2)/\Rnd.Wg (bD ws m.toNat) k s r):=by
 intro k;induction k with
 | zero=>
  intro r b;rw[show ((x.2.toNat+0:Nat):Int)=x.2 by lia];constructor
  .exact λh=>⟨r,b,h,.nil⟩
  .rintro⟨s,_,h,w⟩;cases w;exact h
 | succ k c=>
  intro r b;rw[show x.2.toNat+(k+1)=x.2.toNat+k+1 by lia,sV ok d (by lia)];constructor
  .rintro⟨p,e,h,hs⟩;obtain⟨s,h1,h2,a⟩:=(c p e).mp h;exact⟨s,h1,h2,.snoc a hs⟩
  .rintro⟨s,h1,h2,a⟩;cases a with
   | @snoc _ _ p _ a hs=>
    have:=oh ok hs;exact⟨p,this.1,(c p this.1).mpr ⟨s,h1,h2,a⟩,hs⟩
theorem fB.near(h:fB H xs m ws x)(ok:HOuse m ws)(E:bO m x):∃P,1<=P/\P<=81/\∀(r:Nat) v,xs[r]?=Vn v->∃(F:Nat->Bool) (l d:Nat),bN H v l d (row F 0 l) (row F l d)/\Least F d l/\1<=d/\d ∣ P/\l<=1288/\∀i,F i=true↔aP ws x ((r:Int),(i:Int)):=by
 have m12:=ok.m12;obtain⟨a,b,c,G⟩:=E;have g:m.toNat<=12:=by lia
 obtain⟨P,e,f,w⟩:=Rnd.round (n:=m.toNat) (A:=bD ws m.toNat) (λi j h=>oh ok.ok h) g;have I:m.toNat*m.toNat<=12*12:=Jx g g;refine⟨P,e,f,λr v z=>?_⟩;obtain⟨F,l,d,o,B,hd,_,p⟩:=h.2 r v z;have C:r<m.toNat:=by have:=(F9.mp z).1;have:=h.1;lia
 have per:bj F (x.2.toNat+288) P:=λy L=>by
  obtain⟨k,rfl⟩:∃k,y=x.2.toNat+k:=⟨y-x.2.toNat,by lia⟩;rw[GH,p,p,show x.2.toNat+k+P=x.2.toNat+(k+P) by lia,lJ ok.ok ⟨a,b,c⟩ _ r C,lJ ok.ok ⟨a,b,c⟩ _ r C];constructor
  .rintro⟨s,h1,h2,q⟩;exact⟨s,h1,h2,w s r (k+P) k h1 (by lia) (by lia) (JY k P) q⟩
  .rintro⟨s,h1,h2,q⟩;exact⟨s,h1,h2,w s r k (k+P) h1 (by lia) (by lia) (JY k P).symm q⟩
 obtain⟨u,M⟩:=Rnd.rh B e per;exact⟨F,l,d,o,B,hd,u,by lia,p⟩
structure Gd(b s:Int)(o a:List Int):Prop where
 ok:Ok b s o a
 b3:b<=3000
 s8:s<=840
theorem FJ{r:List Int}:iR lo hi (x::r)↔lo<=x/\x<hi/\iR (x+1) hi r:=by
 constructor
 .rintro⟨h1,h2⟩;obtain⟨p1,p2⟩:=MQ.mp h1;have b:=h2 x F7;exact⟨b.1,b.2,p2,λz a=>⟨by have:=p1 z a;lia,(h2 z (F4 _ a)).2⟩⟩
 .rintro⟨h1,h2,d,c⟩;refine⟨MQ.mpr ⟨λz a=>by have:=c z a;lia,d⟩,λz a=>?_⟩;rcases Gh.mp a with rfl|a
  .exact⟨h1,h2⟩
  .have:=c z a;exact⟨by lia,this.2⟩
inductive yF(K:FX)(vs:List V)(H:Hp)(Q:VK)(E:XK):Prop|mk:∀(p:Vb) (lo hi:Int) (xs:List Int),vs=[.ref p,.int lo,.int hi]->H p=Vn (.tup (xs.map V.int))->iR lo hi xs->Q (.bl true) H->yF K vs H Q E
theorem vN(T:Bu w mg base):Cal P w K mg base "is_rising_row" 2 ["thing","low","end"] (yF K):=by
 refine(dw T.d_is_rising_row).oS ["thing","low","end","lowest","number"] λf nd H vs Q E h=>?_;obtain⟨p,lo,hi,xs,rfl,a,c,q⟩:=h;refine⟨_,(av (bH (dR (cj (bx hZ rfl T.isinstance_ Hf (ao (pv 0) (ao (ib (v:=.ty "tuple") rfl T.tuple_ Hk rfl) aa))))) (az (aL b9)) a8)
   (av (aG (i:=3) nd rfl oi (pv 1))
   (av (bJ B2 rfl (jH K (pv 0)) (aN (i:=4) nd rfl oi) (av (bH (PW.pt (eQ (dR (cj (aF (kM T) f (ao (pv 4) aa)))) (eQ (aU fJ (pv 4) (pv 3) (aT _)) (fZ (aU pM (pv 4) (pv 2) (aT _)))))) (az (aL b9)) a8)
   (az (aG (i:=3) nd rfl oi (aH bp (pv 4) ae)))))
   (az (aL b9))))),?_⟩
 walk_at"";refine ic (n:="tuple") (.inr ⟨rfl,_,a⟩) (b:=true) rfl ?_;walk_at"";refine aC ?_;walk_at"";refine jA (ax.of a) ?_;refine mE (xs:=xs.map V.int) (λi σ H'=>H'=H/\∃lw w,σ=[Vn (.ref p),Vn (.int lo),Vn (.int hi),Vn (.int lw),w]/\iR lw hi (xs.drop i))
  ⟨rfl,lo,Vo,rfl,c⟩ (λi σ H' _ h=>by rw[h.1];exact ax.of a) ?_ ?_
 .rintro i u σ H' g ⟨rfl,lw,w,rfl,e⟩;obtain⟨x,rfl,j⟩:=oQ g;have hd:xs.drop i=x::xs.drop (i+1):=by obtain⟨d,rfl⟩:=F9.mp j;exact Ho d
  rw[hd]at e;obtain⟨h1,h2,l⟩:=FJ.mp e;walk_at"";refine⟨_,"int",rfl,rfl,?_⟩;walk_at"";refine aC ?_;walk_at"";rw[GY (show ¬x<lw by lia)];refine aC ?_;walk_at"";rw[GY (show ¬hi<=x by lia)];refine aC ?_;walk_at"";exact⟨rfl,_,_,rfl,l⟩
 .rintro σ H' ⟨rfl,lw,w,rfl,_⟩;walk_at"";exact q
inductive s9(K:FX)(vs:List V)(H:Hp)(Q:VK)(E:XK):Prop|mk:∀(b s:Int) (o a:List Int) (q r:Vb),vs=[.int b,.int s,.ref q,.ref r]->H q=Vn (.tup (o.map V.int))->H r=Vn (.tup (a.map V.int))->Ok b s o a->Q (.bl true) H->s9 K vs H Q E
theorem D5(T:Bu w mg base):Cal P w K mg base "are_stair_places" 3 ["base","step","once","again"] (s9 K):=by
 refine(sE T.d_are_stair_places).oS ["base","step","once","again"] λc nd H vs Q E h=>?_;obtain⟨b,s',o,a,d,r,rfl,h2,e,hok,q⟩:=h;have hb:=hok.hb;have hs:=hok.hs;refine⟨_,(av (bH (PW.pt (eQ (dR (cj (aF (kM T) c (ao (pv 0) aa)))) (eQ (dR (cj (aF (kM T) c (ao (pv 1) aa)))) (eQ (aU fJ (pv 0) ae (aT _)) (fZ (aU fJ (pv 1) ae (aT _))))))) (az (aL b9)) a8)
   (az (aL (fm (aF (vN T) c (ao (pv 2) (ao ae (ao (pv 0) aa)))) (eL (aF (vN T) c (ao (pv 3) (ao (pv 0) (ao (aH bp (pv 0) (pv 1)) aa))))))))),?_⟩
 walk_at"";refine⟨_,"int",rfl,rfl,?_⟩;walk_at"";refine aC ?_;walk_at"";refine⟨_,"int",rfl,rfl,?_⟩;walk_at"";refine aC ?_;walk_at"";rw[GY (show ¬b<0 by lia)];refine aC ?_;walk_at"";rw[GY (show ¬s'<1 by lia)];refine aC ?_;walk_at"";refine⟨d,_,_,o,rfl,h2,hok.ho,?_⟩;walk_at"";refine aI ?_;walk_at"";exact⟨r,_,_,a,rfl,e,hok.ha,q⟩
inductive vT(K:FX)(vs:List V)(H:Hp)(Q:VK)(E:XK):Prop|mk:∀v b s o a,vs=[v]->bN H v b s o a->Ok b s o a->Q (.bl true) H->vT K vs H Q E
def DF(T:Bu w mg base):Cal P w K mg base "is_stair" 4 ["thing"] (vT K):=by
 refine(cI T.d_is_stair).oS ["thing"] λc nd H vs Q E h=>?_;obtain⟨v,b,s',o,a,rfl,⟨p,d,r,rfl,h1,h2,e⟩,hok,q⟩:=h;refine⟨_,(av (bH (PW.pt (eQ (dR (cj (bx hZ rfl T.isinstance_ Hf (ao (pv 0) (ao (ib (v:=.ty "tuple") rfl T.tuple_ Hk rfl) aa))))) (fZ (aU gH (bx (cL K) rfl T.len_ HR (ao (pv 0) aa)) ae (aT _))))) (az (aL b9)) a8)
   (az (aL (aF (D5 T) c (ao (ay (aD K) (pv 0) ae (λ_ _=>rfl)) (ao (ay (aD K) (pv 0) ae (λ_ _=>rfl)) (ao (ay (aD K) (pv 0) ae (λ_ _=>rfl)) (ao (ay (aD K) (pv 0) ae (λ_ _=>rfl)) aa)))))))),?_⟩
 walk_at"";refine ic (.inr ⟨rfl,_,h1⟩) rfl ?_;walk_at"";refine aC ?_;walk_at"";refine jK (ax.of h1) ?_;walk_at"";refine aC ?_;walk_at"";refine aB (ax.of h1) rfl ?_;walk_at"";refine aB (ax.of h1) rfl ?_;walk_at"";refine aB (ax.of h1) rfl ?_;walk_at"";refine aB (ax.of h1) rfl ?_;walk_at"";exact⟨b,s',o,a,d,r,rfl,h2,e,hok,q⟩
inductive rO(K:FX)(vs:List V)(H:Hp)(Q:VK)(E:XK):Prop|mk:∀v b s o a,vs=[v]->bN H v b s o a->Ok b s o a->Q .non H->rO K vs H Q E
def nJ(T:Bu w mg base):Cal P w K mg base "refuse_no_stair" 5 ["thing"] (rO K):=by refine(cI T.d_refuse_no_stair).oS ["thing"] λc nd H vs Q E h=>?_;obtain⟨v,b,s',o,a,rfl,d,hok,q⟩:=h;refine⟨_,(az (bH (dR (cj (aF (DF T) c (ao (pv 0) aa)))) (az iZ) a8)),?_⟩;walk_at"";refine⟨v,b,s',o,a,rfl,d,hok,?_⟩;walk_at"";exact aC q
inductive yS(K:FX)(vs:List V)(H:Hp)(Q:VK)(E:XK):Prop|mk:∀v b s o a,vs=[v]->bN H v b s o a->b<=3000->s<=840->Q .non H->yS K vs H Q E
theorem qo(T:Bu w mg base):Cal P w K mg base "refuse_great_stair" 1 ["stair"] (yS K):=by
 obtain⟨e,c⟩:=T.g_GREATEST_STEP;obtain⟨f,d⟩:=T.g_GREATEST_BASE;refine(cI T.d_refuse_great_stair).oS ["stair"] λg nd H vs Q E h=>?_;obtain⟨v,b,s',o,a,rfl,⟨p,i,r,rfl,h1,h2,j⟩,hb,hs,q⟩:=h;refine⟨_,(av (bH (aU fX (ay (aD K) (pv 0) ae (λ_ _=>rfl)) (jz (v:=.int 3000) rfl d ⟨_,rfl⟩) (aT _)) (az iZ) a8)
   (az (bH (aU fX (ay (aD K) (pv 0) ae (λ_ _=>rfl)) (jz (v:=.int 840) rfl c ⟨_,rfl⟩) (aT _)) (az iZ) a8))),?_⟩
 walk_at"";refine aB (ax.of h1) rfl ?_;walk_at"";rw[GY (show ¬3000<b by lia)];refine aC ?_;walk_at"";refine aB (ax.of h1) rfl ?_;walk_at"";rw[GY (show ¬840<s' by lia)];exact aC q
inductive wX(K:FX)(vs:List V)(H:Hp)(Q:VK)(E:XK):Prop|mk:∀v b s o a,vs=[v]->bN H v b s o a->Gd b s o a->Q .non H->wX K vs H Q E
def BO(T:Bu w mg base):Cal P w K mg base "refuse_bad_stair" 6 ["thing"] (wX K):=by
 refine(cI T.d_refuse_bad_stair).oS ["thing"] λd nd H vs Q E h=>?_;obtain⟨v,b,s',o,a,rfl,e,c,q⟩:=h;refine⟨_,(av (br (aF (nJ T) d (ao (pv 0) aa)))
   (az (br (aF (qo T) d (ao (pv 0) aa))))),?_⟩
 walk_at"";refine⟨v,b,s',o,a,rfl,e,c.ok,?_⟩;walk_at"";exact⟨v,b,s',o,a,rfl,e,c.b3,c.s8,q⟩
def kR(x)(xs:List Int):jw (.int x) (xs.map V.int)=xs.contains x:=by
 unfold jw;rw[LR,GH,GG,HZ];constructor
 .rintro⟨y,a,e⟩;have e':(y == x)=true:=e;rw[<-(by simpa using e':y=x)];exact a
 .intro b;exact⟨x,b,by show(x == x)=true;simp⟩
def pS(xs:List Int):(xs.map V.int).all eT=true:=by rw[List.all_map,GF];intro x _;rfl
inductive vc(K:FX)(vs:List V)(H:Hp)(Q:VK)(E:XK):Prop|mk:∀v x b s o a,vs=[v,.int x]->bN H v b s o a->Gd b s o a->Q (.bl (mem b s o a x)) H->vc K vs H Q E
theorem C8(T:Bu w mg base):Cal P w K mg base "holds" 7 ["stair","x"] (vc K):=by
 refine(bK T.d_holds).oS ["stair","x","base"] λf nd H vs Q E h=>?_;obtain⟨v,x,b,s',o,a,rfl,d,e,q⟩:=h;have hs:=e.ok.hs;refine⟨_,(av (br (aF (BO T) f (ao (pv 0) aa)))
   (av (aG (i:=2) nd rfl oi (ay (aD K) (pv 0) ae (λ_ _=>rfl)))
   (av (bH (aU fJ (pv 1) (pv 2) (aT _)) (az (aL (fU (j5 K) (pv 1) (ay (aD K) (pv 0) ae (λ_ _=>rfl)) (by with_unfolding_all rfl)))) a8)
   (az (aL (fU (j5 K) (aH bp (pv 2) (aH cY (aH dU (pv 1) (pv 2)) (ay (aD K) (pv 0) ae (λ_ _=>rfl)))) (ay (aD K) (pv 0) ae (λ_ _=>rfl)) (by with_unfolding_all rfl))))))),?_⟩
 walk_at"";refine⟨v,b,s',o,a,rfl,d,e,?_⟩;obtain⟨p,j,r,rfl,h1,h2,g⟩:=d;walk_at"";refine aB (ax.of h1) rfl ?_;walk_at"";by_cases c:x<b
 .rw[GZ c];refine aI ?_;walk_at"";refine aB (ax.of h1) rfl ?_;walk_at"";refine kJ (.inr (ax.of h2)) rfl (pS o) ?_;rw[lL _ c]at q;rw[kR];exact q
 .rw[GY c];refine aC ?_;walk_at"";refine aB (ax.of h1) rfl ?_;walk_at"";refine aB (ax.of h1) rfl ?_;walk_at"";refine kJ (.inr (ax.of g)) rfl (pS a) ?_;rw[kS _ (by lia)]at q;rw[kR];exact q
theorem DW{K:FX}{a:Vb}{g:TG}(Pv:Nat->St->Hp->Prop)(f:Pv 0 σ H)(h:∀i σ H,i<=xs.length->Pv i σ H->af K H a xs)
  (hs:∀i u σ H p H',xs[i]?=Vn u->Pv i σ H->Ext H H'->H' p=Vn (.tup [.int i,u])->H p=Vo->g (.ref p) σ H' λb H2=>tb ⟨Pv (i+1),D.rt,D.nx,Pv (i+1)⟩ b H2) (hd:∀σ H,Pv xs.length σ H->D.nx σ H):iL (kG K a) g tb D σ H:=by
 refine⟨λi m σ H=>m=xs.length-i/\i<=xs.length/\Pv i σ H,⟨xs.length,by simp,HM _,f⟩,?_⟩;rintro i m σ H ⟨rfl,hi,p⟩;have c:=h i σ H hi p;by_cases hlt:i<xs.length
 .refine .inr ⟨⟨xs,xs[i],c,by simp[hlt]⟩,Pv (i+1),λj H' l=>⟨xs.length-(i+1),by lia,rfl,hlt,l⟩,λx H' y=>?_⟩;obtain⟨pp,u,rfl,d,rfl,n⟩:=y;exact hs i u σ H pp _ (n.2 xs c) p (bh d) aE d
 .have e:i=xs.length:=by lia
  subst e;exact .inl ⟨⟨xs,c,Gn _⟩,hd σ H p⟩
theorem mh{nx:Bfs.Pl->Nat->Option Bfs.Pl}:∀(a b:List Nat) (x:Bfs.Pl),Bfs.gone (nx:=nx) x (a++b)=(Bfs.gone (nx:=nx) x a).bind λy=>Bfs.gone (nx:=nx) y b
 | [],b,x=>rfl
 | k::a,b,x=>by
  show(nx x k).bind (λy=>Bfs.gone (nx:=nx) y (a++b))=((nx x k).bind λy=>Bfs.gone (nx:=nx) y a).bind _;cases nx x k with
  | none=>rfl
  | some u=>exact mh a b u
def aY(nx:Bfs.Pl->Nat->Option Bfs.Pl)(x:Bfs.Pl)(ks:List Nat)(j:Nat):Bfs.Pl:=(Bfs.gone (nx:=nx) x (ks.take j)).getD (0,0)
def iw(h:Bfs.gone (nx:=nx) x ks=Vn g)(j):Bfs.gone (nx:=nx) x (ks.take j)=Vn (aY nx x ks j)/\Bfs.gone (nx:=nx) (aY nx x ks j) (ks.drop j)=Vn g:=by
 have e:=mh (nx:=nx) (ks.take j) (ks.drop j) x;rw[Lj,h]at e;obtain⟨y,a,b⟩:=IV.mp e.symm;have:aY nx x ks j=y:=by unfold aY;rw[a];rfl
 rw[this];exact⟨a,b⟩
def jD(h:Bfs.gone (nx:=nx) x ks=Vn g)(b:ks[j]?=Vn k):nx (aY nx x ks j) k=Vn (aY nx x ks (j+1)):=by
 obtain⟨h1,h2⟩:=iw h j;have a:=(F9.mp b).1;have c:ks.drop j=k::ks.drop (j+1):=by rw[Ho a];rw[F2 a]at b;cases b;rfl
 rw[c]at h2;obtain⟨z,d,_⟩:=IV.mp (show(nx (aY nx x ks j) k).bind _=Vn g from h2);have:aY nx x ks (j+1)=z:=by unfold aY;rw[show ks.take (j+1)=ks.take j++[k] by rw[Kr,b];rfl,Bfs.lr h1 d];rfl
 rw[this];exact d
def yz(h:Bfs.gone (nx:=nx) x ks=Vn g)(a i):aY nx (aY nx x ks a) (ks.drop a) i=aY nx x ks (a+i):=by show(Bfs.gone (nx:=nx) (aY nx x ks a) ((ks.drop a).take i)).getD (0,0)=(Bfs.gone (nx:=nx) x (ks.take (a+i))).getD (0,0);rw[List.take_add,mh,(iw h a).1];rfl
def FL(hi:i<=n):aY nx x (ks.take n) i=aY nx x ks i:=by unfold aY;rw[List.take_take,KY hi]
theorem tH{nx:Bfs.Pl->Nat->Option Bfs.Pl}{g:Bfs.Pl}:∀{ks:List Nat} {x:Bfs.Pl},Bfs.gone (nx:=nx) x ks=Vn g->trail nx x ks=(GX (ks.length+1)).map (aY nx x ks)
 | [],x,h=>rfl
 | k::r,x,h=>by obtain⟨u,a,b⟩:=IV.mp (show(nx x k).bind _=Vn g from h);rw[Gw,LS,Hr,Mb];show x::((nx x k).map λy=>trail nx y r).getD []=x::_;rw[a];show x::trail nx u r=_;rw[tH b];congr 1;apply Kb;intro j _;show aY nx u r j=((nx x k).bind λy=>Bfs.gone (nx:=nx) y (r.take j)).getD (0,0);rw[a];rfl
theorem my(h:Bfs.gone (nx:=nx) x ks=Vn g)(a:j<=ks.length):(trail nx x ks)[j]?=Vn (aY nx x ks j):=by rw[tH h,F3,Jj (by lia)];rfl
theorem qh(ok:HOuse m ws){a b:Bfs.Pl}(h:aM ws T a k=Vn b):b.2<=a.2+1/\a.2<=b.2+1/\∀w,ws[k]?=Vn w->w.deed = "zero"->a.2=0/\b.2=0:=by
 obtain⟨w,f,i,hs,ho,j⟩:=iJ h;have hd:=(ok.ok w (Ga f)).dd;have e:=m9 hd hs;have r1:=pI w.deed;have l:=mX w.deed;refine⟨by lia,by lia,λn c g=>?_⟩;rw[f]at c;cases c;rw[g,iE]at hs;by_cases d:a.2=0
 .rw[GZ d]at hs;exact⟨d,by rw[<-GK hs];exact d⟩
 .rw[GY d]at hs;cases hs
theorem pL{h:Nat->Int}{n:Nat}{v:Int}(hs:∀t,t<n->h (t+1)<=h t+1)(c:v<h n):∀d i,i+d=n->(∀t,i<=t->t<=n->h t≠v)->v<h i
 | 0,i,e,_=>by rw[show i=n by lia];exact c
 | d+1,i,e,hno=>by have h1:=pL hs c d (i+1) (by lia) λt a b=>hno t (by lia) b;have h2:=hs i (by lia);have f:=hno i (by lia) (by lia);lia
theorem Cs{h:Nat->Int}{v:Int}(hs:∀t,t<n->h (t+1)<=h t+1)(b:h 0<=v)(c:v<=h n):∃i,i<=n/\h i=v:=by refine HL λno=>?_;have hne:∀t,t<=n->h t≠v:=λt a e=>no ⟨t,a,e⟩;have:=pL (v:=v) hs (by have:=hne n (Gn _);lia) n 0 (by lia) λt _ a=>hne t a;lia
def iu(h:Nat->Int)(n:Nat)(v:Int)(i:Nat):Prop:=i<=n/\h i=v/\∀t,i<t->t<=n->h t≠v
theorem iu.above{h:Nat->Int}{v:Int}(hs:∀t,t<n->h (t+1)<=h t+1)(L:iu h n v i)(e:v<h n):∀t,i<t->t<=n->v<h t:=λt a b=>
 pL hs e (n-t) t (by lia) λu c d=>L.2.2 u (by lia) d
theorem iu.lt{h}{n i j}{v u}(hs:∀t,t<n->h (t+1)<=h t+1)(L:iu h n v i)(M:iu h n u j)(a:v<u)(d:u<=h n):i<j:=by
 have e:=L.2.1;have f:=M.2.1;rcases JZ i j with z|z|z
 .exact z
 .subst z;lia
 .by_cases b:u<h n
  .have:=M.above hs b i z L.1;lia
  .have:=M.2.2 i z L.1;have c:h n=u:=by lia
   have:j=n:=HL λw=>M.2.2 n (by have:=M.1;lia) (Gn _) c;have:=L.1;lia
def jO(kvs:List (Key×V))(ps:List Bfs.Pl)(j:Nat):Prop:=∀(i:Nat) (p:Bfs.Pl),i<j->ps[i]?=Vn p->∃(a:Nat) (b:Bfs.Pl),a<j/\ps[a]?=Vn b/\b.2=p.2/\aX kvs (.inl p.2)=Vn (.int (a:Int))/\∀t q,a<t->t<j->ps[t]?=Vn q->q.2≠p.2
theorem jO.add{kvs:List (Key×V)}{ps:List Bfs.Pl}{p:Bfs.Pl}(h:jO kvs ps j)(d:ps[j]?=Vn p):jO (putK kvs (.inl p.2) (.int (j:Int))) ps (j+1):=λi p1 hi c=>by
 by_cases e:p1.2=p.2
 .refine⟨j,p,by lia,d,e.symm,by rw[e,gw,G5 rfl],λt q h1 h2=>by lia⟩
 .have f:i<j:=by
   rcases(show i<j\/i=j by lia)with z|z
   .exact z
   .subst z;rw[d]at c;cases c;exact absurd rfl e
  obtain⟨l,m,h1,h2,n,o,r⟩:=h i p1 f c;refine⟨l,m,by lia,h2,n,by rw[gw,G0 (λz=>e (Mh z))];exact o,λt q a b g=>?_⟩;rcases(show t<j\/t=j by lia)with z|z
  .exact r t q a z g
  .subst z;rw[d]at g;cases g;exact λw=>e w.symm
inductive xN(K:FX)(vs:List V)(H:Hp)(Q:VK)(E:XK):Prop|mk:∀(l:Vb) (as:List Vb) (ps:List Bfs.Pl),vs=[.ref l]->H l=Vn (.lst (A0 V.ref as))->Paired (aw H) as ps->ps.length<=24013->(∀d kvs H',Ext H H'->H' d=Vn (.dK kvs)->jO kvs ps ps.length->Q (.ref d) H')->xN K vs H Q E
theorem DZ(T:Bu w mg base):Cal P w K mg base "last_met" 1 ["places"] (xN K):=by
 refine(cI T.d_last_met).oS ["places","last","gone","met"] λI nd H vs Q E h=>?_;obtain⟨l,as,ps,rfl,B,C,M,q⟩:=h;have m:=G9 C;refine⟨_,(@av _ _ _ _ _ (@aG _ _ 1 _ _ _ _ nd rfl oi yJ rfl oi)
   (@av _ _ _ _ _ (bJ B2 rfl (nY K rfl T.enumerate_ (ag (pv 0) aa rfl)) (ee K rfl (bG (aN (i:=2) nd rfl oi) (bG (aN (i:=3) nd rfl oi) dY))) (@az _ _ _ (gE (bB I) (pv 1) (@ay _ _ _ _ _ _ _ (aD K) (pv 3) ae (λ_ _=>rfl)) (pv 2) rfl)))
   (@az _ _ _ (@aL _ _ _ _ (pv 1))))),?_⟩
 walk_at"";refine λd f=>?_;walk_at"";have F:=bh (o:=.dK []) f;refine nT ?_;walk_at"";refine oT (af.of (F _ _ B)) ?_;refine DW (λj σ H'=>∃kvs r s,σ=[Vn (.ref l),Vn (.ref d),r,s]/\Ext H H'/\H' d=Vn (.dK kvs)/\kvs.length<=j/\jO kvs ps j) ⟨[],_,_,rfl,F,aE,Gn _,λi p h=>absurd h (Ha _)⟩ (λi σ H' _ h=>by obtain⟨_,_,_,_,e,_⟩:=h;exact af.of (e _ _ B)) ?_ ?_
 .rintro j u σ H2 pp N G ⟨kvs,r,s,rfl,g,c,J,a⟩ x y _;rw[F3]at G;obtain⟨b,hb,rfl⟩:=Ge.mp G;obtain⟨p,z,A⟩:=cn C hb;have L:=(F9.mp hb).1;refine dZ (ax.of y) rfl ?_;walk_at"";refine aB (ax.of ((g.trans x) _ _ A)) (v:=.int p.2) rfl ?_;refine⟨d,_,rfl,dz.k (x _ _ c) (k:=.inl p.2) (dC (by lia)),?_⟩;exact⟨_,_,_,rfl,b6 (g.trans x) f,aE,GC (kH _ _ _) (by lia),a.add z⟩
 .rintro σ H2 ⟨kvs,r,s,rfl,g,c,J,a⟩;rw[F1,m]at a;walk_at"";exact q d kvs H2 g c a
structure Bg(kvs:List (Key×V))(rm:Nat->Int)(G:Nat->Nat)(c:Nat):Prop where
 yes:∀a,a<c->aX kvs (.inl (rm (G a)))=Vn (.int (G a:Int))
 only:∀k v,aX kvs k=Vn v->∃a,a<c/\k=.inl (rm (G a))/\v=.int (G a:Int)
 len:kvs.length=c
theorem Bg.add{kvs:List (Key×V)}{c:Nat}(h:Bg kvs rm G c)(hno:aX kvs (.inl (rm (G c)))=Vo):Bg (putK kvs (.inl (rm (G c))) (.int (G c:Int))) rm G (c+1) where
 yes:=λa ha=>by
  rw[gw];by_cases e:(Sum.inl (rm (G a)):Key)=.inl (rm (G c))
  .rw[G5 e];rcases(show a<c\/a=c by lia)with z|z
   .have:=h.yes a z;rw[e,hno]at this;cases this
   .rw[z]
  .rw[G0 e];rcases(show a<c\/a=c by lia)with z|z
   .exact h.yes a z
   .exact absurd (by rw[z]) e
 only:=λk v b=>by
  rw[gw]at b;by_cases e:k=.inl (rm (G c))
  .rw[G5 e]at b;exact⟨c,by lia,e,(GK b).symm⟩
  .rw[G0 e]at b;obtain⟨a,h1,h2⟩:=h.only k v b;exact⟨a,by lia,h2⟩
 len:=by rw[jI _ hno,Gk,h.len];rfl
theorem Bg.few{kvs:List (Key×V)}{c:Nat}(h:Bg kvs rm G c)(g:∀a b,a<c->b<c->G a=G b->a=b)(d:∀a,a<c->0<=rm (G a)/\rm (G a)<n):c<=n:=by
 have:=Bfs.iV n ((GX c).map λa=>(rm (G a)).toNat) (by
  unfold LQ;rw[Ii];refine JE ?_ (JN);intro a b ha hb hab e;have ha:=HK.mp ha;have hb:=HK.mp hb;have h1:=d a ha;have h2:=d b hb;have e':rm (G a)=rm (G b):=by lia
  have f:=h.yes a ha;rw[e',h.yes b hb]at f;have:=g b a hb ha (by have:=V.int.inj (GK f);lia);lia) (λu i=>by
  obtain⟨a,ha,rfl⟩:=G6.mp i;have:=d a (HK.mp ha);lia)
 rw[F1,ID]at this;exact this
def ie(m:Int)(ws:List Way)(x:Bfs.Pl)(as bs:List Nat):Prop:=∃(U:Int) (y z:Bfs.Pl),Bfs.gone (nx:=aM ws U) x as=Vn y/\Bfs.gone (nx:=aM ws U) y bs=Vn z/\z.1=y.1/\y.2<z.2/\0<bs.length/\(∀j,j<=bs.length->y.2<=(aY (aM ws U) y bs j).2)/\(∀k∈bs,∀w,ws[k]?=Vn w->w.deed≠"zero")/\((as.length+bs.length:Nat):Int)<=m*(x.2+m+m*m+1)
def vU(ok:HOuse m ws)(a:bL m U x)(h:Bfs.Wk (aM ws U) x n y):bL m U y:=by
 induction h with
 | zero=>exact a
 | succ _ b c=>exact nQ ok c.2.2.1 b
theorem yX{m U:Int}{ws:List Way}(ok:HOuse m ws){x g:Bfs.Pl}{ks:List Nat}(a:bL m U x)(h:Bfs.gone (nx:=aM ws U) x ks=Vn g):∀j,j<=ks.length->bL m U (aY (aM ws U) x ks j)
 | 0,_=>a
 | j+1,b=>nQ ok (yX ok a h j (by lia)).2.2.1 (jD h (F2 (by lia)))
theorem Ap(ok:HOuse m ws)(G:0<=x.2)(h:Bfs.gone (nx:=aM ws U) x ks=Vn g)(p:g.2=x.2+m){a c i j:Nat}(q:a<c)(r:(c:Int)<=m)
  (e:iu (λt=>(aY (aM ws U) x ks t).2) ks.length (x.2+(a:Int)) i) (f:iu (λt=>(aY (aM ws U) x ks t).2) ks.length (x.2+(c:Int)) j) (s:(aY (aM ws U) x ks i).1=(aY (aM ws U) x ks j).1) (H:(ks.length:Int)<=m*(x.2+m+m*m+1)) :
  i<j/\ie m ws x (ks.take i) ((ks.drop i).take (j-i)):=by
 have hs:∀t,t<ks.length->(aY (aM ws U) x ks (t+1)).2<=(aY (aM ws U) x ks t).2+1:=λt d=>(qh ok (jD h (F2 d))).1;have n:(aY (aM ws U) x ks ks.length).2=x.2+m:=by have:=(iw h ks.length).1;rw[Gx,h]at this;rw[<-GK this];exact p
 have l:i<j:=e.lt hs f (by lia) (by show _<=(aY (aM ws U) x ks ks.length).2;lia);have b:=e.above hs (by show _<(aY (aM ws U) x ks ks.length).2;lia);have u:=f.1;have v:(aY (aM ws U) x ks i).2=x.2+(a:Int):=e.2.1;have I:(aY (aM ws U) x ks j).2=x.2+(c:Int):=f.2.1;obtain⟨y,A⟩:=iw h i;have o:=(iw A (j-i)).1;rw[yz h,show i+(j-i)=j by lia]at o;have hlen:((ks.drop i).take (j-i)).length=j-i:=by rw[GU,JF];lia
 refine⟨l,U,_,_,y,o,s.symm,by lia,by lia,λt d=>?_,λk B w C E=>?_,?_⟩
 .rw[hlen]at d;rw[FL d,yz h,v];rcases Kq t with z|z
  .subst z;show _<=(aY (aM ws U) x ks i).2;lia
  .have:=b (i+t) (by lia) (by lia);lia
 .obtain⟨t,d⟩:=Lk.mp B;have F:=(F9.mp d).1;rw[Ic (by lia),MP]at d;have:=(qh ok (jD h d)).2.2 w C E;have:=b (i+t+1) (by lia) (by lia);lia
 .rw[hlen,GU];lia
theorem uW(a:n<=xs.length):c6 xs Vo (Vn (n:Int))=xs.take n:=by
 unfold c6;rw[HT.mi];have e:HT.cB xs.length xs.length (Vn (n:Int))=n:=by show(if(n:Int)<0 then((n:Int)+(xs.length:Int)).toNat else min (n:Int).toNat xs.length)=n;rw[G0 (by lia)];lia
 rw[e,Lx];simp
theorem DX{a b:Nat}(hab:a<=b)(d:b<=xs.length):c6 xs (Vn (a:Int)) (Vn (b:Int))=(xs.drop a).take (b-a):=by
 unfold c6;have e:HT.cB xs.length xs.length (Vn (b:Int))=b:=by show(if(b:Int)<0 then((b:Int)+(xs.length:Int)).toNat else min (b:Int).toNat xs.length)=b;rw[G0 (by lia)];lia
 have c:HT.cB xs.length 0 (Vn (a:Int))=a:=by show(if(a:Int)<0 then((a:Int)+(xs.length:Int)).toNat else min (a:Int).toNat xs.length)=a;rw[G0 (by lia)];lia
 rw[e,c]
inductive yL(K:FX)(vs:List V)(H:Hp)(Q:VK)(E:XK):Prop|mk:∀a m ws b ga x g,vs=[a,.ref b,.ref ga]->bq H a m ws->HOuse m ws->aw H b x->aw H ga g->bO m x->g.2=x.2+m->(∃n,Bfs.cF (aM ws (cc m x g)) x n g)->(∀t c d as bs H',Ext H H'->H' t=Vn (.tup [.str "rises",.ref c,.ref d])->H' c=Vn (.lst (a7 as))->H' d=Vn (.lst (a7 bs))->ie m ws x as bs->Q (.ref t) H')->yL K vs H Q E
theorem BM(T:Bu w mg base):Cal P w K mg base "rising_part" 5 ["house","place","goal"] (yL K):=by
 refine(dw T.d_rising_part).oS ["house","place","goal","walk","places","last","begun","number","gone","first"] λB nd H vs Q E h=>?_;obtain⟨vh,m,ws,X,ga,x,g,rfl,hv,ok,J,ah,ix,L,⟨n0,Y⟩,q⟩:=h;have m2:=ok.m12;obtain⟨x0,x1,x2,x3⟩:=id ix;refine⟨_,(@av _ _ _ _ _ (@aG _ _ 3 _ _ _ _ nd rfl oi (aF (og T) B (ag (pv 0) (ag (pv 1) (ag (pv 2) aa rfl) rfl) rfl)) rfl oi)
   (@av _ _ _ _ _ (@aG _ _ 4 _ _ _ _ nd rfl oi (aF (D3 T) B (ag (pv 0) (ag (pv 1) (ag (pv 3) aa rfl) rfl) rfl)) rfl oi)
   (@av _ _ _ _ _ (@aG _ _ 5 _ _ _ _ nd rfl oi (aF (DZ T) B (ag (pv 4) aa rfl)) rfl oi)
   (@av _ _ _ _ _ (@aG _ _ 6 _ _ _ _ nd rfl oi yJ rfl oi)
   (@av _ _ _ _ _ (@aG _ _ 7 _ _ _ _ nd rfl oi (@ay _ _ _ _ _ _ _ (aD K) (pv 1) ae (λ_ _=>rfl)) rfl oi)
   (@av _ _ _ _ _ (@aG _ _ 8 _ _ _ _ nd rfl oi (c7 (bB B) (pv 5) (pv 7) (λ_ _=>rfl)) rfl oi)
   (@av _ _ _ _ _ (fE B2 (g7 (iQ (bB B) (@ay _ _ _ _ _ _ _ (aD K) (@ay _ _ _ _ _ _ _ (aQ K) (pv 4) (pv 8) (λ_ _=>rfl)) ae (λ_ _=>rfl)) (pv 6)) (by with_unfolding_all rfl)) (@av _ _ _ _ _ (gE (bB B) (pv 6) (@ay _ _ _ _ _ _ _ (aD K) (@ay _ _ _ _ _ _ _ (aQ K) (pv 4) (pv 8) (λ_ _=>rfl)) ae (λ_ _=>rfl)) (pv 8) rfl)
   (@av _ _ _ _ _ (kF (i:=7) nd rfl oi ae kY)
   (@az _ _ _ (@aG _ _ 8 _ _ _ _ nd rfl oi (c7 (bB B) (pv 5) (pv 7) (λ_ _=>rfl)) rfl oi)))))
   (@av _ _ _ _ _ (@aG _ _ 9 _ _ _ _ nd rfl oi (c7 (bB B) (pv 6) (@ay _ _ _ _ _ _ _ (aD K) (@ay _ _ _ _ _ _ _ (aQ K) (pv 4) (pv 8) (λ_ _=>rfl)) ae (λ_ _=>rfl)) (λ_ _=>rfl)) rfl oi)
   (@az _ _ _ (@aL _ _ _ _ (@bz _ _ _ _ _ (ag bf (ag (ij (gW K) (pv 3) jb (fG (pv 9))) (ag (ij (gW K) (pv 3) (fG (pv 9)) (fG (pv 8))) aa rfl) rfl) rfl)))))))))))),?_⟩
 walk_at"";refine⟨vh,m,ws,X,ga,x,g,rfl,hv,ok,J,ah,ix,by lia,λhno=>absurd Y (hno _),λn wl H1 ks hD hn e1 ar Z au d=>?_⟩;have N:=nN (m:=m) (x:=x) (g:=g) (by lia);have a0:cc m x g=x.2+m+m*m:=by unfold cc;rw[G5 (by lia),L]
 have a3:(n:Int)<=m*(cc m x g+1)-1:=Bfs.cF.few (by lia) (by lia) hD λk z hz=>vU ok ⟨x0,x1,x2,N.1⟩ hz;rw[a0]at a3;have hin:=yX ok ⟨x0,x1,x2,N.1⟩ d;generalize cc m x g=U at d hin;clear N a0 hD Y;walk_at"";refine⟨vh,m,ws,X,wl,U,x,g,ks,rfl,hv.ext e1,ok,e1 _ _ J,Z,by lia,d,λpl H2 as e2 O R=>?_⟩;have ai:=pV d;walk_at"";refine⟨pl,as,_,rfl,O,R,by lia,λld lk H3 e3 a4 a5=>?_⟩;have hs:∀t,t<ks.length->(aY (aM ws U) x ks (t+1)).2<=(aY (aM ws U) x ks t).2+1:=λt ht=>(qh ok (jD d (F2 ht))).1;have ap:(aY (aM ws U) x ks ks.length).2=x.2+m:=by have:=(iw d ks.length).1;rw[Gx,d]at this;rw[<-GK this];exact L
 obtain⟨G,y⟩:∃G:Nat->Nat,∀a:Nat,(a:Int)<=m->iu (λt=>(aY (aM ws U) x ks t).2) ks.length (x.2+(a:Int)) (G a)/\aX lk (.inl (x.2+(a:Int)))=Vn (.int (G a:Int)):=by
  refine JK (r:=λ(a i:Nat)=>(a:Int)<=m->iu (λt=>(aY (aM ws U) x ks t).2) ks.length (x.2+(a:Int)) i/\aX lk (.inl (x.2+(a:Int)))=Vn (.int (i:Int))) λa=>?_;by_cases ha:(a:Int)<=m
  .obtain⟨i,hi,aj⟩:=Cs (h:=λt=>(aY (aM ws U) x ks t).2) (v:=x.2+(a:Int)) hs (by show x.2<=_;lia) (by show _<=(aY (aM ws U) x ks ks.length).2;lia);obtain⟨i',p',h1,h2,h3,h4,h5⟩:=a5 i _ (by lia) (my d hi);have C:(aY (aM ws U) x ks i).2=x.2+(a:Int):=aj;rw[my d (by lia)]at h2;cases h2;rw[C]at h3 h4;exact⟨i',λ_=>⟨⟨by lia,h3,λt S a2=>by have:=h5 t _ S (by lia) (my d a2);rw[C]at this;exact this⟩,h4⟩⟩
  .exact⟨0,λz=>absurd z ha⟩
 have s:=e3 _ _ O;have F:=(e2.trans e3) _ _ Z;have hat:∀a:Nat,(a:Int)<=m->∃b,as[G a]?=Vn b/\aw H3 b (aY (aM ws U) x ks (G a)):=λa ha=>by obtain⟨b,hb,p⟩:=nE R (my d (y a ha).1.1);exact⟨b,hb,e3 _ _ p⟩
 have a6:aw H3 X x:=(e1.trans (e2.trans e3)) _ _ J;clear a5 R O ai;walk_at"";refine λW I=>?_;have f:=bh (o:=.dK []) I;walk_at"";refine aB (ax.of (f _ _ a6)) (v:=.int x.2) rfl ?_;walk_at"";have A:=(y 0 (by lia)).2;rw[show x.2+((0:Nat):Int)=x.2 by lia]at A;refine⟨ld,_,rfl,by rw[<-A];exact bC.k (k:=.inl x.2) (f _ _ a4),?_⟩;walk_at"";refine fF (λM σ H'=>∃(c:Nat) (kvs:List (Key×V)),σ=[some vh,some (.ref X),some (.ref ga),some (.ref wl),some (.ref pl),some (.ref ld),some (.ref W),some (.int (x.2+(c:Int))),some (.int (G c:Int)),none]/\Ext H3 H'/\H' W=some (.dK kvs)/\Bg kvs (λt=>(aY (aM ws U) x ks t).1) G c/\(c:Int)<=m/\m.toNat+1-c=M)
  (λσ H'=>∃(a c:Nat) (kvs:List (Key×V)),σ=[Vn vh,Vn (.ref X),Vn (.ref ga),Vn (.ref wl),Vn (.ref pl),Vn (.ref ld),Vn (.ref W),Vn (.int (x.2+(c:Int))),Vn (.int (G c:Int)),Vo]/\Ext H3 H'/\H' W=Vn (.dK kvs)/\(c:Int)<=m/\a<c/\aX kvs (.inl (aY (aM ws U) x ks (G c)).1)=Vn (.int (G a:Int))/\(aY (aM ws U) x ks (G a)).1=(aY (aM ws U) x ks (G c)).1) (m.toNat+1)
  ⟨0,[],by rw[show x.2+((0:Nat):Int)=x.2 by lia];rfl,f,aE,⟨λa h=>absurd h (Ha _),λk v h=>(by cases h),rfl⟩,by lia,rfl⟩ ?_ ?_
 .clear f A;rintro M σ H4 ⟨c,kvs,rfl,f,u,hB,l,hM⟩;obtain⟨b,hb,p⟩:=hat c l;walk_at"";refine aR (af.of (f _ _ s)) (v:=.ref b) (cO (by rw[F3,hb];rfl)) ?_;walk_at"";refine aB (ax.of (f _ _ p)) (v:=.int (aY (aM ws U) x ks (G c)).1) rfl ?_;walk_at"";refine⟨W,_,rfl,bC.k u (k:=.inl (aY (aM ws U) x ks (G c)).1),?_⟩;cases j:aX kvs (.inl (aY (aM ws U) x ks (G c)).1)with
  | some v=>
   obtain⟨a,ha,hk,rfl⟩:=hB.only _ _ j;refine rd_exb (aC ?_);exact⟨a,c,kvs,rfl,f,u,l,ha,j,(Mh hk).symm⟩
  | none=>
   refine rd_exb (aI ⟨_,λ_ _ h=>h,?_⟩);have a9:=hB.add j;have aq:c+1<=m.toNat:=a9.few (λS a2 h1 h2 e=>by
    have l1:=(y S (by lia)).1.2.1;have l2:=(y a2 (by lia)).1.2.1;rw[e]at l1;have:x.2+(S:Int)=x.2+(a2:Int):=l1.symm.trans l2;lia) (λS h1=>by
    have:=hin (G S) (y S (by lia)).1.1;exact⟨this.1,by have:=this.2.1;lia⟩)
   walk_at"";refine aR (af.of (f _ _ s)) (v:=.ref b) (cO (by rw[F3,hb];rfl)) ?_;walk_at"";refine aB (ax.of (f _ _ p)) (v:=.int (aY (aM ws U) x ks (G c)).1) rfl ?_;refine⟨W,_,rfl,dz.k u (k:=.inl (aY (aM ws U) x ks (G c)).1) (dC (by have:=hB.len;lia)),?_⟩;have e5:=b6 (o:=.dK (putK kvs (.inl (aY (aM ws U) x ks (G c)).1) (.int (G c:Int)))) f I;walk_at"";have ak:=(y (c+1) (by lia)).2;refine⟨ld,_,rfl,by rw[show x.2+(c:Int)+1=x.2+((c+1:Nat):Int) by lia,<-ak];exact bC.k (k:=.inl (x.2+((c+1:Nat):Int))) (e5 _ _ a4),?_⟩;walk_at"";exact⟨_,by lia,c+1,_,by rw[show x.2+((c+1:Nat):Int)=x.2+(c:Int)+1 by lia];rfl,e5,aE,a9,by lia,rfl⟩
 clear f A;rintro σ H4 ⟨a,c,kvs,rfl,f,u,l,am,j,an⟩;obtain⟨b,hb,p⟩:=hat c l;obtain⟨b0,ab⟩:=Ap ok x2 d L am l (y a (by lia)).1 (y c l).1 an (by lia);have b1:=(y c l).1.1;walk_at"";refine aR (af.of (f _ _ s)) (v:=.ref b) (cO (by rw[F3,hb];rfl)) ?_;walk_at"";refine aB (ax.of (f _ _ p)) (v:=.int (aY (aM ws U) x ks (G c)).1) rfl ?_;walk_at"";refine⟨W,_,rfl,by rw[<-j];exact bC.k (k:=.inl (aY (aM ws U) x ks (G c)).1) u,?_⟩;walk_at"";refine gN (af.of (f _ _ F)) (cA λl1 H5 e5 ac _=>?_);rw[uW (by rw[F1];lia),<-J9]at ac;walk_at"";refine gN (af.of (e5 _ _ (f _ _ F))) (cA λl2 H6 e6 ad _=>?_);rw[DX (by lia) (by rw[F1];lia),<-MG,<-J9]at ad;walk_at"";refine aO λt H7 e7 ht _=>?_;exact q t l1 l2 _ _ H7 (e1.trans (e2.trans (e3.trans (f.trans (e5.trans (e6.trans e7)))))) ht ((e6.trans e7) _ _ ac) (e7 _ _ ad) ab
theorem pz{w:Way}(hd:cD w.deed){n b:Int}:cN w.deed n=Vn b↔cw w w.room n=true/\b=n+rz w.deed:=by
 constructor
 .intro h;refine⟨?_,m9 hd h⟩;refine iA rfl ?_;rcases hd with e|e|e|e
  .exact .inl e
  .refine .inr (.inr (.inl ⟨e,?_⟩));rw[e,jc]at h;by_cases a:0<n
   .exact a
   .rw[GY a]at h;cases h
  .exact .inr (.inl e)
  .refine .inr (.inr (.inr ⟨e,?_⟩));rw[e,iE]at h;by_cases a:n=0
   .exact a
   .rw[GY a]at h;cases h
 .rintro⟨h,rfl⟩;rcases f9 hd h with⟨e,z⟩|⟨e,z⟩|⟨e,a,z⟩|⟨e,a,z⟩<;>rw[z,e]
  .exact kq n
  .rw[kN];congr 1;lia
  .rw[jc,GZ a,G5 rfl];rfl
  .rw[iE,GZ a,G5 rfl];congr 1;lia
def oJ(ok:∀w∈ws,w.Ok m){a b:Bfs.Pl}(h:aS ws a b)(e:b.2<=U):∃k,aM ws U a k=some b:=by obtain⟨w,c,ho,rfl⟩:=h;obtain⟨k,f⟩:=Lk.mp c;have d:=gr ho;rw[<-d]at ho;refine⟨k,?_⟩;unfold aM;rw[f,Gz,G5 d,(pz (ok w c).dd).mpr ⟨ho,rfl⟩,Gz,G5 e]
def mw(ok:∀w∈ws,w.Ok m){a b:Bfs.Pl}(h:aM ws U a k=Vn b):aS ws a b:=by obtain⟨w,h1,h2,d,e,_⟩:=iJ h;have c:=Ga h1;have:=(pz (ok w c).dd).mp d;rw[h2]at this;exact⟨w,c,this.1,IG e this.2⟩
theorem o5(ok:HOuse m ws)(j:bO m x):aP ws x g↔∃n,Bfs.cF (aM ws (cc m x g)) x n g:=by
 have m1:=ok.m1;constructor
 .rintro⟨n,h⟩;have f:x.2<=(if g.2>x.2 then g.2 else x.2)/\g.2<=(if g.2>x.2 then g.2 else x.2):=by split<;>constructor<;>lia
  obtain⟨l,o,r⟩:=Bfs.cut (by lia) (λp q h=>by
    obtain⟨w,i,ho,rfl⟩:=h;have r1:=pI w.deed;have v:=mX w.deed;lia) (λp q c h y h1 h2=>by
    obtain⟨w,i,ho,rfl⟩:=h;refine⟨w,i,iA (gr ho) ?_,IG rfl (by show p.2+rz w.deed-c=p.2-c+rz w.deed;lia)⟩;rcases f9 (ok.ok w i).dd ho with⟨e,z⟩|⟨e,z⟩|⟨e,s,z⟩|⟨e,s,z⟩
    .exact .inl e
    .exact .inr (.inl e)
    .exact .inr (.inr (.inl ⟨e,by show 0<p.2-c;lia⟩))
    .omega) (λp q h=>by
    obtain⟨w,i,ho,rfl⟩:=h;exact⟨(ok.ok w i).o0,(ok.ok w i).o1⟩) (Int.le_trans j.2.2.1 f.1) n x g h j.1 j.2.1 f.1 f.2
  have wk:Bfs.Wk (aM ws (cc m x g)) x l g:=r.wk (λa c h=>oJ ok.ok h.1 h.2);obtain⟨k,_,u⟩:=Bfs.BX l wk;exact⟨k,u⟩
 .rintro⟨n,d⟩;exact⟨n,d.1.rw.imp λa c h=>mw ok.ok h.choose_spec⟩
theorem fB.gd(h:fB H xs m ws x)(ok:HOuse m ws)(p:bO m x):∀(r:Nat) v,xs[r]?=Vn v->∃b s o a,bN H v b s o a/\Gd b s o a/\(∀n,0<=n->(mem b s o a n=true↔aP ws x ((r:Int),n)))/\∀n,n<0->mem b s o a n=false:=by
 obtain⟨P,q,i,c⟩:=h.near ok p;intro r v u;obtain⟨F,l,d,f,w,hd,g,A,y⟩:=c r v u;have j:d<=P:=Jm (by lia) g;refine⟨_,_,_,_,f,⟨vx F l d hd,by lia,by lia⟩,λn c=>?_,λn c=>?_⟩
 .have e:=va hd w.per n.toNat;rw[Gg c]at e;rw[e,y n.toNat,Gg c]
 .rw[lL _ (by lia),IY];intro z;have:=i9.mp (HZ.mp z);lia
def Fj(ok:HOuse m ws)(b:bO m x)(hno:∀r,0<=r->r<m->¬aP ws x (r,x.2+m)):∀n y,Bfs.Rw (aS ws) n x y->(0<=y.1/\y.1<m/\0<=y.2)/\y.2<x.2+m:=by
 intro n y h;have m1:=ok.m1;have:∀z:Bfs.Pl,Bfs.Rw (aS ws) n z y->z=x->(0<=y.1/\y.1<m/\0<=y.2)/\y.2<x.2+m:=by
  intro z h;induction h with
  | nil=>rintro rfl;exact⟨⟨b.1,b.2.1,b.2.2.1⟩,by omega⟩
  | @snoc n z y a c hs f=>
   rintro rfl;obtain⟨⟨j,l,g⟩,hlt⟩:=f (by first|exact c|exact ⟨_,c⟩|skip) rfl;obtain⟨d,e,i,b3,o⟩:=fg ok.ok hs g;refine⟨⟨d,e,i⟩,?_⟩;rcases(show a.2<z.2+m\/a.2=z.2+m by omega)with q|q
   .exact q
   .exact absurd ⟨n+1,by rw[show (a.1,z.2+m)=a from IG rfl q.symm];exact .snoc c hs⟩ (hno a.1 d e)
 exact this x h rfl
theorem Bx(a:Least F d l)(b:∀i,B<=i->F i=false):∀i,F i=true->i<l:=λi hi=>by refine HL λz=>?_;have h1:=a.pos;have h2:=a.per.times B i (by lia);have c:B<=B*d:=LI B h1;rw[b (i+B*d) (by lia),hi]at h2;cases h2
inductive uX(K:FX)(vs:List V)(H:Hp)(Q:VK)(E:XK):Prop|mk:∀a m ws c x l xs,vs=[a,.ref c,.ref l]->bq H a m ws->HOuse m ws->aw H c x->bO m x->H l=Vn (.lst xs)->fB H xs m ws x->(∀gl as H',Ext H H'->H' gl=Vn (.lst (A0 V.ref as))->(∀b∈as,∃r:Int,0<=r/\r<m/\aw H' b (r,x.2+m)/\aP ws x (r,x.2+m))->(as=[]->∀r:Nat,r<m.toNat->¬aP ws x ((r:Int),x.2+m))->Q (.ref gl) H')->uX K vs H Q E
theorem Fz(T:Bu w mg base):Cal P w K mg base "unbounded_goals" 8 ["house","place","stairs"] (uX K):=by
 refine(dw T.d_unbounded_goals).oS ["house","place","stairs","number"] λe nd H vs Q E h=>?_;obtain⟨vh,m,ws,pa,x,l,xs,rfl,W,ok,C,N,O,R,q⟩:=h;have m2:=ok.m12;have x2:=N.2.2.1;obtain⟨hh,t1,rfl,k1,k2⟩:=id W;have X:=R.1;have F:=R.gd ok N;refine⟨_,(@av _ _ _ _ _ (@aG _ _ 3 _ _ _ _ nd rfl oj (aH bp (@ay _ _ _ _ _ _ _ (aD K) (pv 1) ae (λ_ _=>rfl)) (@ay _ _ _ _ _ _ _ (aD K) (pv 0) ae (λ_ _=>rfl))) rfl oi)
   (@az _ _ _ (@aL _ _ _ _ (eo ["room","stair"] [3] (nY K rfl T.enumerate_ (ag (pv 2) aa rfl)) (λ_=>(ee (n:=2) K rfl (bG (aN (i:=0) (show(["room","stair","number"]:List Vm).Nodup from by decide +kernel) rfl oi oj) (bG (aN (i:=1) (show(["room","stair","number"]:List Vm).Nodup from by decide +kernel) rfl oi oj) dY)))) (λ_=>(eJ (cj (aF (C8 T) e (ag (pv 1) (ag (pv 2) aa rfl) rfl))))) (λ_=>(@bz _ _ _ _ _ (ag (pv 0) (ag (pv 2) aa rfl) rfl))))))),?_⟩
 walk_at"";refine aB (ax.of C) (v:=.int x.2) rfl ?_;walk_at"";refine aB (ax.of k1) (v:=.int m) rfl ?_;walk_at"";refine nT ?_;walk_at"";refine oT (af.of O) ?_;refine xx (xs:=xs) (λi ys H'=>Ext H H'/\∃as,ys=A0 V.ref as/\as.length<=i/\(∀b∈as,∃r:Int,0<=r/\r<m/\aw H' b (r,x.2+m)/\aP ws x (r,x.2+m))/\(as=[]->∀r:Nat,r<i->¬aP ws x ((r:Int),x.2+m))) (bU (by lia)) ⟨Ext.rfl' _,[],rfl,Gn _,λb h=>(nomatch h),λ_ r h=>absurd h (Ha _)⟩ (λi ys H' h=>⟨af.of (h.1 _ _ O),by obtain⟨_,as,rfl,h,_⟩:=h;rw[F1];exact h⟩) ?_ ?_
 .rintro i u ys H2 pp H3 S ⟨f,as,rfl,g,hall,d⟩ j G _;obtain⟨b,s',o,a,I,Y,h1,h2⟩:=F i u S;have hi:=(F9.mp S).1;refine dZ (ax.of G) rfl ?_;walk_at"";refine⟨u,x.2+m,b,s',o,a,rfl,I.ext (f.trans j),Y,_,rfl,?_⟩;cases J:mem b s' o a (x.2+m)with
  | true=>
   refine aI ?_;walk_at"";refine aO λnp H4 U L _=>?_;refine⟨f.trans (j.trans U),as++[np],by rw[Gj];rfl,by rw[Gk];exact Jf g,λc M=>?_,λz=>by simp at z⟩;rcases Gr.mp M with z|z
   .obtain⟨r,p,s,y,A⟩:=hall c z;exact⟨r,p,s,(j.trans U) _ _ y,A⟩
   .rw[Gb.mp z];exact⟨(i:Int),by lia,by lia,L,(h1 _ (by lia)).mp J⟩
  | false=>
   refine aC ?_;refine⟨f.trans j,as,rfl,by lia,λc M=>?_,λz r e=>?_⟩
   .obtain⟨r,p,s,y,A⟩:=hall c M;exact⟨r,p,s,j _ _ y,A⟩
   .rcases(show r<i\/r=i by lia)with w|w
    .exact d z r w
    .subst w;intro e;rw[(h1 _ (by lia)).mpr e]at J;cases J
 .rintro ys H2 Z ⟨f,as,rfl,g,hall,d⟩ B;refine q Z as _ (f.trans (bh B)) aE (λb hb=>?_) (λz r e=>d z r (by lia));obtain⟨r,p,s,y,A⟩:=hall b hb;exact⟨r,p,s,(bh B) _ _ y,A⟩
inductive tJ(K:FX)(vs:List V)(H:Hp)(Q:VK)(E:XK):Prop|mk:∀a m ws b x,vs=[a,.ref b]->bq H a m ws->HOuse m ws->aw H b x->bO m x->dE K->Tbs K H->((∃r:Int,aP ws x (r,x.2+m))->∀t c d as bs H',Et H H'->Tbs K H'->H' t=Vn (.tup [.str "rises",.ref c,.ref d])->H' c=Vn (.lst (a7 as))->H' d=Vn (.lst (a7 bs))->ie m ws x as bs->Q (.ref t) H')->((∀r:Int,0<=r->r<m->¬aP ws x (r,x.2+m))->∀t l N r U ks H',Et H H'->Tbs K H'->(∀o,H l=Vn o->∃ps,o=.tbl ps)->H' t=Vn (.tup [.str "most",.int N,.ref l])->H' l=Vn (.lst (a7 ks))->Bfs.gone (nx:=aM ws U) x ks=Vn (r,N)->(ks.length:Int)<=m*(x.2+m+m*m+1)->(∀y,aP ws x y->y.2<=N)->aP ws x (r,N)->Q (.ref t) H')->tJ K vs H Q E
theorem wB(T:Bu w mg base):Cal P w K mg base "greatest" 11 ["house","place"] (tJ K):=by
 refine(bK T.d_greatest).oS ["house","place","stairs","goals","number","rooms"] λa nd H vs Q E h=>?_;obtain⟨vh,m,ws,S,x,rfl,hv,ok,W,q,ak,am,q1,q2⟩:=h;have m1:=ok.m1;have m2:=ok.m12;obtain⟨x0,x1,x2,x3⟩:=id q;refine⟨_,(@av _ _ _ _ _ (@aG _ _ 2 _ _ _ _ nd rfl oi (aF (o4 T) a (ag (pv 0) (ag (pv 1) aa rfl) rfl)) rfl oi)
   (@av _ _ _ _ _ (@aG _ _ 3 _ _ _ _ nd rfl oi (aF (Fz T) a (ag (pv 0) (ag (pv 1) (ag (pv 2) aa rfl) rfl) rfl)) rfl oi)
   (@av _ _ _ _ _ (@bH _ _ _ _ _ _ _ _ (mN K (pv 3) (λ_=>rfl)) (@az _ _ _ (@aL _ _ _ _ (aF (BM T) a (ag (pv 0) (ag (pv 1) (ag (@ay _ _ _ _ _ _ _ (aQ K) (pv 3) ae (λ_ _=>rfl)) aa rfl) rfl) rfl)))) a8)
   (@av _ _ _ _ _ (@aG _ _ 4 _ _ _ _ nd rfl oj (bx (qx K rfl) rfl T.max_ IK (ag (eo ["stair"] [] (bW K (pv 2)) (λ_=>(aN (i:=0) (show(["stair"]:List Vm).Nodup from by decide +kernel) rfl oi oj)) (λ_=>(eJ (mN K (@ay _ _ _ _ _ _ _ (aD K) (pv 0) ae (λ_ _=>rfl)) (λ_=>rfl)))) (λ_=>(bx (zQ K rfl) rfl T.max_ IK (ag (@ay _ _ _ _ _ _ _ (aD K) (pv 0) ae (λ_ _=>rfl)) aa rfl)))) aa rfl)) rfl oi)
   (@av _ _ _ _ _ (di (i:=5) ["room","stair"] [4] nd rfl oi (nY K rfl T.enumerate_ (ag (pv 2) aa rfl)) (λ_=>(ee (n:=2) K rfl (bG (aN (i:=0) (show(["room","stair","number"]:List Vm).Nodup from by decide +kernel) rfl oi oj) (bG (aN (i:=1) (show(["room","stair","number"]:List Vm).Nodup from by decide +kernel) rfl oi oj) dY)))) (λ_=>(eJ (aU (j5 K) (pv 2) (@ay _ _ _ _ _ _ _ (aD K) (pv 1) ae (λ_ _=>rfl)) (by with_unfolding_all rfl)))) (λ_=>(pv 0)))
   (@az _ _ _ (@aL _ _ _ _ (@bz _ _ _ _ _ (ag bf (ag (pv 4) (ag (aF (og T) a (ag (pv 0) (ag (pv 1) (ag (@bz _ _ _ _ _ (ag (@ay _ _ _ _ _ _ _ (aQ K) (pv 5) ae (λ_ _=>rfl)) (ag (pv 4) aa rfl) rfl)) aa rfl) rfl) rfl)) aa rfl) rfl) rfl))))))))),?_⟩
 walk_at"";refine⟨vh,m,ws,S,x,rfl,hv,ok,W,q,ak,am,λl xs H1 X Y bm hl fw=>?_⟩;have Z:=hv.et X;have a0:aw H1 S x:=aw.et X W;walk_at"";refine⟨vh,m,ws,S,x,l,xs,rfl,Z,ok,a0,q,hl,fw,λgl as H2 c s hall A=>?_⟩;walk_at"";have a3:=Z.ext c;have a4:aw H2 S x:=c _ _ a0;cases as with
 | cons b as=>
  obtain⟨r,r0,r1,hb,a⟩:=hall b F7;refine⟨true,.inl ⟨_,af.of s,rfl⟩,aI ?_⟩;walk_at"";refine aR (af.of s) (v:=.ref b) (cO (j:=0) rfl) ?_;walk_at"";exact⟨vh,m,ws,S,b,x,(r,x.2+m),rfl,a3,ok,a4,hb,q,rfl,(o5 ok q).mp a,λt l1 l2 as bs H3 C ht h1 h2 a5=>q1 ⟨r,a⟩ t l1 l2 as bs H3 (X.trans (c.trans C).et) (Y.ext (c.trans C)) ht h1 h2 a5⟩
 | nil=>
  have hno:∀r:Int,0<=r->r<m->¬aP ws x (r,x.2+m):=λr r0 r1=>by have:=A rfl r.toNat (by lia);rw[Gg r0]at this;exact this
  have hlow:=Fj ok q hno;have bn:=fw.1;have a6:∀(r:Nat) (v:V),xs[r]?=Vn v->∃(p:Vb) (l d:Nat) (f ra:Vb) (F:Nat->Bool),v=.ref p/\H1 p=Vn (.tup [.int l,.int d,.ref f,.ref ra])/\H1 f=Vn (.tup ((row F 0 l).map V.int))/\(∀i:Nat,F i=true↔aP ws x ((r:Int),(i:Int)))/\∀i,F i=true->i<l:=λr v hv=>by obtain⟨F,l,d,⟨p,f,ra,rfl,h1,h2,h3⟩,hL,hd,_,G⟩:=fw.2 r v hv;refine⟨p,l,d,f,ra,F,rfl,h1,h2,G,Bx (B:=(x.2+m).toNat) hL λi hi=>?_⟩;rw[IY];intro z;obtain⟨n,hn⟩:=(G i).mp z;have:=(hlow n _ hn).2;have:(i:Int)<x.2+m:=this;lia
  refine⟨false,.inl ⟨_,af.of s,rfl⟩,aC ?_⟩;have I:=c _ _ hl;walk_at"";refine bX (af.of I) ?_;refine dP (xs:=xs) (λi ys H'=>H'=H2/\∃ns:List Int,ys=ns.map V.int/\ns.length<=i/\(∀N∈ns,∃r:Nat,r<xs.length/\aP ws x ((r:Int),N))/\∀(r:Nat) (k:Nat),r<i->aP ws x ((r:Int),(k:Int))->∃N∈ns,(k:Int)<=N) (bU (by lia)) ⟨rfl,[],rfl,Gn _,λN h=>(nomatch h),λr k h=>absurd h (Ha _)⟩ (λi ys H' hi h=>⟨by rw[h.1];exact af.of I,by obtain⟨_,ns,rfl,h,_⟩:=h;rw[F1];exact h⟩) ?_ ?_
  .rintro i u ys H3 hu ⟨rfl,ns,rfl,a9,hN,hk⟩;obtain⟨p,lo,d,f,ra,F,rfl,h1,h2,G,J⟩:=a6 i u hu;have hi:=(F9.mp hu).1;walk_at"";refine aB (ax.of (c _ _ h1)) (v:=.ref f) rfl ?_;have hnew:∀k:Nat,aP ws x ((i:Int),(k:Int))->(k:Int)∈row F 0 lo:=λk z=>by have:=(G k).mpr z;exact i9.mpr ⟨by lia,by have:=J k this;lia,by rw[Gf];exact this⟩
   cases hrow:row F 0 lo with
   | nil=>
    refine⟨false,.inr (.inl ⟨_,ax.of (c _ _ h2),by rw[hrow];rfl⟩),aC ?_⟩;refine⟨rfl,ns,rfl,by lia,hN,λr k a z=>?_⟩;rcases(show r<i\/r=i by lia)with w|w
    .exact hk r k w z
    .subst w;have:=hnew k z;rw[hrow]at this;cases this
   | cons y0 bu=>
    refine⟨true,.inr (.inl ⟨_,ax.of (c _ _ h2),by rw[hrow];rfl⟩),aI ?_⟩;walk_at"";refine aB (ax.of (c _ _ h1)) (v:=.ref f) rfl ?_;walk_at"";refine CL (ax.of (c _ _ h2)) (by rw[hrow];simp) λM hM an=>?_;obtain⟨M0,M1,M2⟩:=i9.mp hM;refine⟨rfl,ns++[M],by rw[Gj];rfl,by rw[Gk];exact Jf a9,λN ap=>?_,λr k a z=>?_⟩
    .rcases Gr.mp ap with w|w
     .exact hN N w
     .rw[Gb.mp w];refine⟨i,hi,?_⟩;have:=(G M.toNat).mp M2;rw[Gg (by lia)]at this;exact this
    .rcases(show r<i\/r=i by lia)with w|w
     .obtain⟨N,a1,a2⟩:=hk r k w z;exact⟨N,GN _ a1,a2⟩
     .subst w;exact⟨M,GL _ (Gb.mpr rfl),an _ (hnew k z)⟩
  rintro ys H3 p9 ⟨rfl,ns,rfl,a9,hN,hk⟩ aq;have C:=bh (o:=.lst (ns.map V.int)) aq;have h9:(upd H3 p9 (.lst (ns.map V.int))) p9=Vn (.lst (ns.map V.int)):=aE;generalize upd H3 p9 (.lst (ns.map V.int))=H4 at C h9 ⊢;walk_at"";have ar:((x.1.toNat:Int),(x.2.toNat:Int))=x:=IG (Gg x0) (Gg x2);obtain⟨N0,au,_⟩:=hk x.1.toNat x.2.toNat (by lia) (by rw[ar];exact⟨0,.nil⟩);refine⟨p9,ns,rfl,af.of h9,Jv au,λN b0 L=>?_⟩;obtain⟨r9,b1,ab⟩:=hN N b0;obtain⟨n9,b2⟩:=id ab;obtain⟨⟨_,_,ac⟩,ad⟩:=hlow n9 _ b2;have O:0<=N:=ac;have b4:N<x.2+m:=ad;have b5:∀y,aP ws x y->y.2<=N:=λy hy=>by obtain⟨n,hn⟩:=id hy;obtain⟨⟨y0,y1,y2⟩,_⟩:=hlow n y hn;obtain⟨N',a1,a2⟩:=hk y.1.toNat y.2.toNat (by lia) (by rw[Gg y0,Gg y2];exact hy);have:=L N' a1;lia
  have ah:=C _ _ I;walk_at"";refine nT ?_;walk_at"";refine oT (af.of ah) ?_;refine xx (xs:=xs) (λi ys H'=>Ext H4 H'/\∃rs:List Int,ys=rs.map V.int/\rs.length<=i/\(∀r∈rs,aP ws x (r,N))/\(r9<i->rs≠[])) (bU (by lia)) ⟨Ext.rfl' _,[],rfl,Gn _,λr h=>(nomatch h),λh=>absurd h (Ha _)⟩ (λi ys H' h=>⟨af.of (h.1 _ _ ah),by obtain⟨_,rs,rfl,h,_⟩:=h;rw[F1];exact h⟩) ?_ ?_
  .rintro i u ys H5 pp H6 hu ⟨e5,rs,rfl,hrs,hall,hne⟩ U b7 _;obtain⟨p,lo,d,f,ra,F,rfl,h1,h2,G,J⟩:=a6 i u hu;have ai:=c.trans (C.trans (e5.trans U));refine dZ (ax.of b7) rfl ?_;walk_at"";refine aB (ax.of (ai _ _ h1)) (v:=.ref f) rfl ?_;walk_at"";refine kJ (.inr (ax.of (ai _ _ h2))) rfl (pS _) ?_;rw[kR];have hc:(row F 0 lo).contains N=true↔aP ws x ((i:Int),N):=by have aj:=G N.toNat;rw[Gg O]at aj;rw[HZ,i9,<-aj];exact⟨λz=>z.2.2,λz=>⟨by omega,by have:=J _ z;omega,z⟩⟩
   cases hb:(row F 0 lo).contains N with
   | true=>
    refine rd_exb (aI ?_);walk_at"";refine⟨e5.trans U,rs++[(i:Int)],by rw[Gj];rfl,by rw[Gk];exact Jf hrs,λr a=>?_,λ_ z=>by simp at z⟩;rcases Gr.mp a with w|w
    .exact hall r w
    .rw[Gb.mp w];exact hc.mp hb
   | false=>
    refine rd_exb (aC ?_);refine⟨e5.trans U,rs,rfl,by omega,hall,λa=>?_⟩;rcases(show r9<i\/r9=i by omega)with w|w
    .exact hne w
    .subst w;rw[hc.mpr ab]at hb;cases hb
  rintro ys H5 p8 ⟨e5,rs,rfl,hrs,R,hne⟩ b8;have U:=e5.trans (bh (o:=.lst (rs.map V.int)) b8);have h8:(upd H5 p8 (.lst (rs.map V.int))) p8=Vn (.lst (rs.map V.int)):=aE;generalize upd H5 p8 (.lst (rs.map V.int))=H6 at U h8 ⊢;obtain⟨r,rs,rfl⟩:=List.exists_cons_of_ne_nil (hne b1);have a:=R r F7;walk_at"";refine aR (af.of h8) (v:=.int r) (cO (j:=0) rfl) ?_;walk_at"";refine aO λga H7 e7 ba _=>?_;have e:=C.trans (U.trans e7);obtain⟨nD,hD⟩:=(o5 ok q).mp a;walk_at"";refine⟨vh,m,ws,S,ga,x,(r,N),rfl,a3.ext e,ok,e _ _ a4,ba,q,by show N<=1012;omega,λhno=>absurd hD (hno _),λn wl H8 ks hD hn e8 bb bc bv be=>?_⟩;walk_at"";refine aO λt H9 e9 ht _=>?_;have bi:0<=m*m:=Gy (by omega) (by omega);have bg:=nN (m:=m) (x:=x) (g:=(r,N)) (by omega);have c0:cc m x (r,N)<=x.2+m+m*m:=by show(if N>x.2 then N else x.2)+m*m<=_;split<;>omega
  have bl:(n:Int)<=m*(cc m x (r,N)+1)-1:=Bfs.cF.few (by omega) (by omega) hD λk z hz=>vU ok ⟨x0,x1,x2,bg.1⟩ hz;have hmul:m*(cc m x (r,N)+1)<=m*(x.2+m+m*m+1):=KP (by omega) (by omega);refine q2 hno t wl N r _ ks H9 (X.trans (c.trans (e.trans (e8.trans e9))).et) (Y.ext (c.trans (e.trans (e8.trans e9)))) (λo ho=>?_) ht (e9 _ _ bc) be (by omega) b5 a;refine HL λz=>?_;have:=e _ _ (c _ _ (X _ _ ho (λps w=>z ⟨ps,w⟩)));rw[bb]at this;cases this
def il(ws:List Way)(z:Bfs.Pl)(k:Nat):Bool:=(ws[k]?).any λw=>cw w z.1 z.2
def jB(ws:List Way)(z:Bfs.Pl)(k:Nat):Bfs.Pl:=((ws[k]?).map λw=>(w.other,z.2+rz w.deed)).getD z
def fi(ws:List Way)(z:Bfs.Pl):List Nat:=(cG ws z.1 ws.length).filter (il ws z)
def aW(ws:List Way)(z:Bfs.Pl):List (Nat×Bfs.Pl):=(fi ws z).map λk=>(k,jB ws z k)
def pU(h:k∈fi ws z):∃w,ws[k]?=Vn w/\cw w z.1 z.2=true/\jB ws z k=(w.other,z.2+rz w.deed):=by obtain⟨h1,h2⟩:=G8.mp h;obtain⟨w,a,_⟩:=m5 h1;unfold il at h2;rw[a]at h2;exact⟨w,a,h2,by unfold jB;rw[a];rfl⟩
def C0{w:Way}(a:ws[k]?=Vn w)(ho:cw w z.1 z.2=true):k∈fi ws z:=by refine G8.mpr ⟨?_,by unfold il;rw[a];exact ho⟩;refine G8.mpr ⟨HK.mpr (F9.mp a).1,?_⟩;rw[a];exact GZ (gr ho)
def fQ:(∃k,(k,y)∈aW ws z)↔aS ws z y:=by
 constructor
 .rintro⟨k,h⟩;obtain⟨j,c,e⟩:=G6.mp h;cases e;obtain⟨w,a,ho,e⟩:=pU c;exact⟨w,Ga a,ho,e⟩
 .rintro⟨w,a,ho,e⟩;obtain⟨k,b⟩:=GR a;refine⟨k,G6.mpr ⟨k,C0 b ho,?_⟩⟩;unfold jB;rw[b,e];rfl
def vn:(fi ws z).length<=ws.length:=GC (HJ _ _) (GC (HJ _ _) (by rw[ID];exact Gn _))
def mr:(aW ws z).length<=ws.length:=by unfold aW;rw[F1];exact vn
abbrev eh(H:Hp)(a:Vb)(e:Nat×Bfs.Pl):Prop:=∃b,H a=Vn (.tup [.int (e.1:Int),.ref b])/\aw H b e.2
def eh.ext(h:Ext H H'){a:Vb}(s:eh H a e):eh H' a e:=let ⟨b,h1,h2⟩:=s;⟨b,h _ _ h1,h _ _ h2⟩
theorem eh.put{H:Hp}{c:Vb}{u u':HO}(d:H c=Vn u)(f:∀xs,u≠.tup xs){a:Vb}{e:Nat×Bfs.Pl}(s:eh H a e):eh (upd H c u') a e:=by obtain⟨b,h1,h2⟩:=s;exact⟨b,by rw[aA (bA h1 d (λz=>f _ z.symm))];exact h1,aw.put d f h2⟩
def cZ(ws:List Way)(H:Hp)(kv:List Key×V)(z:Bfs.Pl):Prop:=kv.1=aK z/\∃l as,kv.2=.ref l/\H l=Vn (.lst (A0 V.ref as))/\Paired (eh H) as (aW ws z)
theorem cZ.ext{ws:List Way}{H H':Hp}(h:Ext H H'){kv:List Key×V}{z:Bfs.Pl}(s:cZ ws H kv z):cZ ws H' kv z:=by obtain⟨h1,l,as,h2,a,b⟩:=s;exact⟨h1,l,as,h2,h _ _ a,Paired.mapP b λ_ _ z=>z.ext h⟩
theorem cZ.put{ws:List Way}{H:Hp}{c:Vb}{u u':HO}(a:H c=Vn u)(b:∀xs,u≠.tup xs){kv:List Key×V}{z:Bfs.Pl}(d:kv.2≠.ref c)(s:cZ ws H kv z):cZ ws (upd H c u') kv z:=by obtain⟨h1,l,as,h2,f,g⟩:=s;exact⟨h1,l,as,h2,by rw[aA (λe=>d (by rw[h2,e]))];exact f,Paired.mapP g λ_ _ z=>z.put a b⟩
def qM{u u':HO}(d:H c=Vn u)(e:∀xs,u≠.tup xs)(h:Paired (cZ ws H) kvs qs)(b:∀kv∈kvs,kv.2≠.ref c):Paired (cZ ws (upd H c u')) kvs qs:=by
 induction h with
 | nil=>exact .nil
 | cons a _ f=>exact .cons (a.put d e (b _ F7)) (f λkv h=>b kv (F4 _ h))
structure SS(ws:List Way)(H0 H:Hp)(f rw:Vb)(qs R:List Bfs.Pl):Prop where
 ext:Ext H0 H
 fn:H0 f=Vo
 rn:H0 rw=Vo
 d:∃kvs,H f=Vn (.dT kvs)/\Paired (cZ ws H) kvs qs/\∀kv∈kvs,kv.2≠.ref rw/\kv.2≠.ref f
 r:∃as,H rw=Vn (.lst (A0 V.ref as))/\Paired (aw H) as R
def SS.step{f rw:Vb}(h:SS ws H0 H f rw qs R)(e:Ext H H1):SS ws H0 H1 f rw qs R:=by obtain⟨h1,h2,b,⟨kvs,c,d,g⟩,as,i,j⟩:=h;exact⟨h1.trans e,h2,b,⟨kvs,e _ _ c,Paired.mapP d λ_ _ z=>z.ext e,g⟩,as,e _ _ i,bt (λa x h=>e _ _ h) j⟩
def eC:∀xs,(HO.dT kvs)≠.tup xs:=λxs z=>by cases z
def fb{ys:List V}:∀xs,(HO.lst ys)≠.tup xs:=λxs z=>by cases z
def SS.row{f rw:Vb}(h:SS ws H0 H f rw qs R)(g:Paired (aw H) as' R'):SS ws H0 (upd H rw (.lst (A0 V.ref as'))) f rw qs R':=by obtain⟨h1,h2,c,⟨kvs,d,i,e⟩,as,b,l⟩:=h;have ne:f≠rw:=bA d b (by intro z;cases z);exact⟨b6 h1 c,h2,c,⟨kvs,by rw[aA ne];exact d,qM b fb i λkv j=>(e kv j).1,e⟩,as',aE,bt (λa x z=>aw.put b fb z) g⟩
theorem SS.put{ws:List Way}{H0 H:Hp}{f rw l:Vb}{qs R:List Bfs.Pl}{z:Bfs.Pl}{as':List Vb}(h:SS ws H0 H f rw qs R)(n:z∉qs)(g:H l=Vn (.lst (A0 V.ref as')))(o:Paired (eh H) as' (aW ws z))(nl:l≠rw):
  ∃kvs,H f=Vn (.dT kvs)/\kvs.length=qs.length/\SS ws H0 (upd H f (.dT (putK kvs (aK z) (.ref l)))) f rw (qs++[z]) R:=by
 obtain⟨h1,h2,p,⟨kvs,b,c,i⟩,as,j,q⟩:=h;have ne:rw≠f:=bA j b (by intro z;cases z);have m:l≠f:=bA g b (by intro z;cases z);have kn:aX kvs (aK z)=Vo:=fP (key:=λz=>z) (λ_ _ z=>z.1) c (by simpa using n);refine⟨kvs,b,G9 c,b6 h1 h2,h2,p,⟨kvs++[(aK z,.ref l)],by rw[aE,jI _ kn],?_,λkv d=>?_⟩,as,by rw[aA ne];exact j,bt (λa x z=>aw.put b eC z) q⟩
 .refine IT (qM b eC c λkv d=>(i kv d).2) ⟨rfl,l,as',rfl,by rw[aA m];exact g,Paired.mapP o λ_ _ z=>z.put b eC⟩
 .rcases Gr.mp d with h|h
  .exact i kv h
  .rw[Gb.mp h];exact⟨λe=>nl (by cases e;rfl),λe=>m (by cases e;rfl)⟩
def BQ{F:α->β->Prop}{as cs:List α}{xs ys:List β}(h:Paired F as xs)(g:Paired F cs ys):Paired F (as++cs) (xs++ys):=by
 induction h with
 | nil=>exact g
 | cons a _ b=>exact .cons a b
def sA(h:Paired (aw H) as (R++[z])):∃as' b,as=as'++[b]/\Paired (aw H) as' R/\aw H b z:=by
 induction R generalizing as with
 | nil=>
  cases h with
  | cons a t=>
   cases t;exact⟨[],_,rfl,.nil,a⟩
 | cons r R c=>
  cases h with
  | cons a t=>
   obtain⟨as',b,rfl,h1,h2⟩:=c t;exact⟨_::as',b,rfl,.cons a h1,h2⟩
structure SM(m T:Int)(ws:List Way)(x:Bfs.Pl)(qs R:List Bfs.Pl):Prop where
 nd:qs.Nodup
 wk:∀z∈qs++R,aP ws x z
 ins:∀z∈qs++R,bL m T z
 has:x∈qs++R
 cl:∀z∈qs,∀y,aS ws z y->y∈qs++R
def SM.done(h:SM m T ws x qs []):∀z,z∈qs↔aP ws x z:=λz=>by
 have wk:=h.wk;have c:=h.has;have cl:=h.cl;rw[HW]at wk c cl;refine⟨wk z,λ⟨n,d⟩=>?_⟩;have go:∀(n:Nat) (a b:Bfs.Pl),Bfs.Rw (aS ws) n a b->a∈qs->b∈qs:=by
  intro n a b e;induction e with
  | nil=>exact λh=>h
  | snoc _ hs f=>exact λha=>cl _ (f ha) _ hs
 exact go n x z d c
def SM.skip(h:SM m T ws x qs (R++[z]))(c:z∈qs):SM m T ws x qs R:=by
 have cut:∀y,y∈qs++(R++[z])->y∈qs++R:=λy b=>by
  rcases Gr.mp b with a|a
  .exact GN _ a
  .rcases Gr.mp a with a|a
   .exact GL _ a
   .rw[Gb.mp a];exact GN _ c
 have back:∀y,y∈qs++R->y∈qs++(R++[z]):=λy b=>by rw[<-Hu];exact GN _ b
 exact⟨h.nd,λy b=>h.wk y (back y b),λy b=>h.ins y (back y b),cut _ h.has,λy b u d=>cut _ (h.cl y b u d)⟩
def SM.new(h:SM m T ws x qs (R++[z]))(g:z∉qs)(i:∀y,aP ws x y->bL m T y):SM m T ws x (qs++[z]) (R++(aW ws z).map (·.2)):=by
 have d:=h.wk z (by simp);have low:∀y,y∈qs++(R++[z])->y∈(qs++[z])++(R++(aW ws z).map (·.2)):=λy b=>by
  rcases Gr.mp b with a|a
  .exact GN _ (GN _ a)
  .rcases Gr.mp a with a|a
   .exact GL _ (GN _ a)
   .exact GN _ (GL _ a)
 have all:∀y,y∈(qs++[z])++(R++(aW ws z).map (·.2))->aP ws x y:=λy b=>by
  rcases Gr.mp b with a|a
  .rcases Gr.mp a with a|a
   .exact h.wk y (GN _ a)
   .rw[Gb.mp a];exact d
  .rcases Gr.mp a with a|a
   .exact h.wk y (GL _ (GN _ a))
   .obtain⟨⟨k,o⟩,j,rfl⟩:=G6.mp a;exact d.trans (.one (fQ.mp ⟨k,j⟩))
 refine⟨?_,all,λy b=>i y (all y b),low _ h.has,λy b u f=>?_⟩
 .rw[HP];refine⟨h.nd,by simp,λa ha c l e=>?_⟩;rw[Gb.mp l]at e;exact g (e ▸ ha)
 .rcases Gr.mp b with a|a
  .exact low _ (h.cl y a u f)
  .rw[Gb.mp a]at f;obtain⟨k,n⟩:=fQ.mpr f;exact GL _ (GL _ (G6.mpr ⟨_,n,rfl⟩))
inductive qN(K:FX)(vs:List V)(H:Hp)(Q:VK)(E:XK):Prop|mk:∀v m ws a x T,vs=[v,.ref a]->bq H v m ws->HOuse m ws->aw H a x->T<=2000->(∀y,aP ws x y->bL m T y)->(∀f kvs qs H',Ext H H'->H f=Vo->H' f=Vn (.dT kvs)->Paired (cZ ws H') kvs qs->qs.Nodup->qs.length<=24012->(∀kv∈kvs,kv.2≠.ref f)->(∀y,y∈qs↔aP ws x y)->Q (.ref f) H')->qN K vs H Q E
theorem CY(T:Bu w mg base):Cal P w K mg base "steps_by_place" 3 ["house","place"] (qN K):=by
 refine(bK T.d_steps_by_place).oS ["house","place","ways","counts","steps","row","here","gone"] λhr nd H vs Q E h=>?_;obtain⟨v,m,ws,pa,x,TT,rfl,hv,ok,hx,hT,hin,q⟩:=h;have m2:=ok.m12;have O:=ok.few;obtain⟨hh,t,rfl,g1,g2⟩:=id hv;obtain⟨bs,g3,al⟩:=cq.al g2;refine⟨_,(@av _ _ _ _ _ (@aG _ _ 2 _ _ _ _ nd rfl oj (@ay _ _ _ _ _ _ _ (aD K) (pv 0) ae (λ_ _=>rfl)) rfl oi)
   (@av _ _ _ _ _ (@aG _ _ 3 _ _ _ _ nd rfl oi (aF (rS T) hr (ag (pv 0) aa rfl)) rfl oi)
   (@av _ _ _ _ _ (@aG _ _ 4 _ _ _ _ nd rfl oi kX rfl oi)
   (@av _ _ _ _ _ (@aG _ _ 5 _ _ _ _ nd rfl oi (@bF _ _ _ _ (ag (pv 1) aa rfl)) rfl oi)
   (@av _ _ _ _ _ (fE B2 (mN K (pv 5) (λ_=>rfl)) (@av _ _ _ _ _ (@aG _ _ 6 _ _ _ _ nd rfl oj (sr K F8 Ll Lm uZ (pv 5)) rfl oi)
   (@az _ _ _ (cK (g7 (iQ (bB hr) (pv 6) (pv 4)) (by with_unfolding_all rfl)) (@av _ _ _ _ _ (di (i:=7) ["count"] [2,6] nd rfl oi (bW K (@ay _ _ _ _ _ _ _ (aQ K) (pv 3) (@ay _ _ _ _ _ _ _ (aD K) (pv 6) ae (λ_ _=>rfl)) (λ_ _=>rfl))) (λ_=>(aN (i:=0) (show(["count","ways","here"]:List Vm).Nodup from by decide +kernel) rfl oi oj)) (λ_=>(eJ (cj (aF (mI T) hr (ag (@ay _ _ _ _ _ _ _ (aD K) (pv 1) (pv 0) (λ_ _=>rfl)) (ag (pv 2) aa rfl) rfl))))) (λ_=>(pv 0)))
   (@av _ _ _ _ _ (gE (bB hr) (pv 4) (pv 6) (eo ["count"] [2,6] (bW K (pv 7)) (λ_=>(aN (i:=0) (show(["count","ways","here"]:List Vm).Nodup from by decide +kernel) rfl oi oj)) (λ_=>dn) (λ_=>(@bz _ _ _ _ _ (ag (pv 0) (ag (aF (lx T) hr (ag (@ay _ _ _ _ _ _ _ (aD K) (pv 1) (pv 0) (λ_ _=>rfl)) (ag (pv 2) aa rfl) rfl)) aa rfl) rfl)))) rfl)
   (@az _ _ _ (br (bP K F8 K6 K7 xW (pv 5) (ag (eo ["count","there"] [] (bW K (c7 (bB hr) (pv 4) (pv 6) (λ_ _=>rfl))) (λ_=>(ee (n:=2) K rfl (bG (aN (i:=0) (show(["count","there"]:List Vm).Nodup from by decide +kernel) rfl oi oj) (bG (aN (i:=1) (show(["count","there"]:List Vm).Nodup from by decide +kernel) rfl oi oj) dY)))) (λ_=>dn) (λ_=>(pv 1))) aa rfl)))))) a8))))
   (@az _ _ _ (@aL _ _ _ _ (pv 4)))))))),?_⟩
 walk_at"";refine aB (ax.of g1) (v:=.ref t) rfl ?_;walk_at"";refine⟨_,m,ws,rfl,hv,ok,λc ls H1 e1 ct=>?_⟩;walk_at"";refine λf hfn=>?_;walk_at"";refine aO λrw H3 e3 b4 b5=>?_;walk_at"";have a0:Ext H1 (upd H1 f (.dT [])):=bh hfn;have ah:H1 rw=Vo:=a0.none b5;have s0:SS ws H1 H3 f rw [] [x]:=⟨a0.trans e3,hfn,ah,⟨[],e3 _ _ aE,.nil,λkv h=>by cases h⟩,[pa],b4,.cons (e3 _ _ (a0 _ _ (e1 _ _ hx))) .nil⟩;have m0:SM m TT ws x [] [x]:=⟨IF,λz j=>by rw[Gb.mp j];exact .refl,λz j=>by rw[Gb.mp j];exact hin _ .refl,by simp,λz j=>by cases j⟩;clear ah a0 b4 b5 e3;refine fF (λM σ H'=>∃qs R k1 k2,SS ws H1 H' f rw qs R/\SM m TT ws x qs R/\R.length<=1+100*qs.length/\M=101*(24013-qs.length)+R.length/\σ=[Vn (.ref hh),Vn (.ref pa),Vn (.ref t),Vn (.ref c),Vn (.ref f),Vn (.ref rw),k1,k2]) (λσ H'=>∃qs k1 k2,SS ws H1 H' f rw qs []/\SM m TT ws x qs []/\σ=[Vn (.ref hh),Vn (.ref pa),Vn (.ref t),Vn (.ref c),Vn (.ref f),Vn (.ref rw),k1,k2]) _ ⟨[],[x],_,_,s0,m0,by simp,rfl,rfl⟩ ?_ ?_
 .clear s0 m0;rintro M σ H4 ⟨qs,R,k1,k2,ss,sm,c2,rfl,rfl⟩;have b7:qs.length<=24012:=bL.few m2 hT sm.nd λz j=>sm.ins z (GN _ j);obtain⟨as,B,pr⟩:=ss.r;have b8:=ck pr;walk_at"";by_cases hR:R=[]
  .subst hR;have:as=[]:=by cases as with|nil=>rfl|cons a b=>cases b8
   subst this;refine⟨false,.inl ⟨_,af.of B,rfl⟩,?_⟩;refine aC ?_;exact⟨qs,_,_,ss,sm,rfl⟩
  obtain⟨R',z,rfl⟩:∃R' z,R=R'++[z]:=⟨R.dropLast,R.getLast hR,(KZ hR).symm⟩;obtain⟨as',b,rfl,ai,ba⟩:∃as' b,as=as'++[b]/\Paired (aw H4) as' R'/\aw H4 b z:=sA pr;have cp:=ck ai;have cr:R'.length<=100*qs.length:=by rw[Gk,HN]at c2;lia
  refine⟨true,.inl ⟨_,af.of B,by simp⟩,?_⟩;refine aI ?_;refine⟨λbb H'=>∃C G k1 k2,SS ws H1 H' f rw C G/\SM m TT ws x C G/\G.length<=1+100*C.length/\101*(24013-C.length)+G.length<101*(24013-qs.length)+(R'++[z]).length/\bb=[Vn (.ref hh),Vn (.ref pa),Vn (.ref t),Vn (.ref c),Vn (.ref f),Vn (.ref rw),k1,k2],λbb H' ⟨C,G,k1,k2,a1,a2,a3,a4,a5⟩=>⟨_,a4,C,G,k1,k2,a1,a2,a3,rfl,a5⟩,?_⟩;walk_at"";refine⟨cH (af.of B),?_⟩;walk_at"";refine⟨rw,_,.ref b,rfl,rfl,B,by rw[Gj,Gk,MR,HN,Kt,Gs (Gn _),LU];rfl,?_⟩;rw[show (A0 V.ref (as'++[b])).dropLast=A0 V.ref as' by rw[Gj];exact L6];have g:=ss.row (as':=as') ai;have I:aw (upd H4 rw (.lst (A0 V.ref as'))) b z:=aw.put B fb ba;generalize upd H4 rw (.lst (A0 V.ref as'))=H5 at g I;clear ss pr ai ba B b8 H4;obtain⟨kvs,bc,aj,c3⟩:=g.d;walk_at"";refine cE ?_;walk_at"";refine⟨f,_,rfl,bC.t bc (k:=aK z) I,?_⟩;by_cases j:z∈qs
  .obtain⟨v1,c4,_⟩:=eZ (key:=λz=>z) (λ_ _ z=>z.1) aj (by simpa using sm.nd) j;rw[c4];refine rd_exb (aC ?_);walk_at"";refine⟨qs,R',_,_,g,sm.skip j,by lia,by rw[Gk,HN];lia,rfl⟩
  rw[fP (key:=λz=>z) (λ_ _ z=>z.1) aj (by simpa using j)];refine rd_exb (aI ?_);have iz:=sm.ins z (by simp);have c5:=sm.new j hin;have ak:=ct.ext g.ext;have c9:z.1.toNat<ls.length:=by rw[ct.len];have:=iz.1;have:=iz.2.1;lia
  have am:ls[z.1.toNat]?=Vn ls[z.1.toNat]:=F2 c9;generalize ls[z.1.toNat]=l at am;have a6:=ak.it _ _ am;rw[show ((z.1.toNat:Nat):Int)=z.1 by have:=iz.1;lia]at a6;have S:=(e1.trans g.ext) _ _ g3;walk_at"";refine aB (ax.of I) (v:=.int z.1) rfl ?_;walk_at"";refine aR (af.of ak.at_) (v:=.ref l) (eO iz.1 (by rw[F3,am];rfl)) ?_;walk_at"";refine bX (af.of a6) ?_;have hcl:(cG ws z.1 ws.length).length<=100:=GC (HJ _ _) (by rw[ID];exact O);refine dP (xs:=a7 (cG ws z.1 ws.length)) (λi ys H'=>H'=H5/\ys=a7 (((cG ws z.1 ws.length).take i).filter (il ws z))) (bU (by rw[F1];lia)) ⟨rfl,rfl⟩ (λi ys H' _ h=>by obtain⟨rfl,rfl⟩:=h;refine⟨af.of a6,?_⟩;rw[F1];exact GC (HJ _ _) (by rw[GU];lia)) ?_ ?_
  .rintro i u ys H6 hu ⟨rfl,rfl⟩;rw[F3]at hu;obtain⟨k,hk,rfl⟩:=Ge.mp hu;obtain⟨w,hw,ca⟩:=m5 (Ga hk);have an:k<bs.length:=by rw[al.1];exact(F9.mp hw).1
   have p:=F2 an;generalize bs[k]=bk at p;have ap:=(e1.trans g.ext) _ _ (al.2 k bk w p hw);have step:((cG ws z.1 ws.length).take (i+1)).filter (il ws z)=((cG ws z.1 ws.length).take i).filter (il ws z)++if cw w z.1 z.2=true then[k]else[]:=by rw[G7,hk,Hc];congr 1;show IJ _ [k]=_;rw[He,show il ws z k=cw w z.1 z.2 by unfold il;rw[hw];rfl];rfl
   walk_at"";refine aB (ax.of S) (v:=.ref bk) (cO (by rw[F3,p];rfl)) ?_;walk_at"";refine⟨bk,w,b,z,rfl,ap,I,?_⟩;rw[step];cases ho:cw w z.1 z.2 with
   | false=>
    refine rd_exb (aC ⟨rfl,?_⟩);rw[G0 Gi,HW]
   | true=>
    refine rd_exb (aI ?_);walk_at"";refine⟨rfl,?_⟩;rw[G5 rfl,j8]
  rintro ys H6 p6 ⟨rfl,rfl⟩ aq;rw[F1,Gx];rw[show IJ (il ws z) (cG ws z.1 ws.length)=fi ws z from rfl];have J:=g.step (bh (o:=.lst (a7 (fi ws z))) aq);have ab:=(bh (o:=.lst (a7 (fi ws z))) aq) _ _ I;have ac:upd H6 p6 (.lst (a7 (fi ws z))) p6=Vn (.lst (a7 (fi ws z))):=aE;generalize upd H6 p6 (.lst (a7 (fi ws z)))=H7 at J ab ac ⊢;clear g I bc aj c3 a6 ak S aq kvs;have S:=(e1.trans J.ext) _ _ g3;have d0:(fi ws z).length<=100:=GC vn O;walk_at"";refine bX (af.of ac) ?_;refine dP (xs:=a7 (fi ws z)) (λi ys H'=>Ext H7 H'/\∃cs,ys=A0 V.ref cs/\Paired (eh H') cs (((fi ws z).take i).map λk=>(k,jB ws z k))) (bU (by rw[F1];lia)) ⟨Ext.rfl' _,[],rfl,.nil⟩ (λi ys H' _ h=>by obtain⟨e,cs,rfl,s⟩:=h;refine⟨af.of (e _ _ ac),?_⟩;rw[F1,G9 s,F1,GU];lia) ?_ ?_
  .rintro i u ys H8 hu ⟨e8,cs,rfl,s⟩;rw[F3]at hu;obtain⟨k,hk,rfl⟩:=Ge.mp hu;obtain⟨w,hw,ho,be⟩:=pU (Ga hk);have cd:=ok.ok w (Ga hw);have an:k<bs.length:=by rw[al.1];exact(F9.mp hw).1
   have p:=F2 an;generalize bs[k]=bk at p;have ap:=(e1.trans (J.ext.trans e8)) _ _ (al.2 k bk w p hw);walk_at"";refine aI ?_;walk_at"";refine aB (ax.of (e8 _ _ S)) (v:=.ref bk) (cO (by rw[F3,p];rfl)) ?_;walk_at"";refine⟨bk,w,b,z,rfl,ap,cd.dd,e8 _ _ ab,λtt H9 e9 ht _=>?_⟩;walk_at"";refine aO λa9 HA eA hA _=>?_;refine⟨e8.trans (e9.trans eA),cs++[a9],by rw[Gj];rfl,?_⟩;rw[G7,hk,Gj];refine IT (Paired.mapP s λ_ _ z=>z.ext (e9.trans eA)) ⟨tt,hA,?_⟩;show aw HA tt (jB ws z k);rw[be];exact eA _ _ ht
  rintro ys H8 L ⟨e8,cs,rfl,s⟩ U;rw[F1,Gx]at s;have e9:=e8.trans (bh (o:=.lst (A0 V.ref cs)) U);have A:Paired (eh (upd H8 L (.lst (A0 V.ref cs)))) cs (aW ws z):=Paired.mapP s λ_ _ z=>z.ext (bh U);have W:upd H8 L (.lst (A0 V.ref cs)) L=Vn (.lst (A0 V.ref cs)):=aE;obtain⟨d1,bg,ce⟩:=J.r;have nl:L≠rw:=λe=>by rw[e,e8 _ _ bg]at U;cases U
  have ar:=J.step e9;have ad:=e9 _ _ ab;generalize upd H8 L (.lst (A0 V.ref cs))=H9 at e9 A W ar ad ⊢;clear e8 s U ac S ab J bg ce;obtain⟨kvs,X,d2,au⟩:=ar.put j W A nl;have bi:aw (upd H9 f (.dT (putK kvs (aK z) (.ref L)))) b z:=aw.put X eC ad;have bl:upd H9 f (.dT (putK kvs (aK z) (.ref L))) f=Vn (.dT (putK kvs (aK z) (.ref L))):=aE;have b0:upd H9 f (.dT (putK kvs (aK z) (.ref L))) L=Vn (.lst (A0 V.ref cs)):=by rw[aA (bA W X (by intro z;cases z))];exact W
  have Y:Paired (eh (upd H9 f (.dT (putK kvs (aK z) (.ref L))))) cs (aW ws z):=Paired.mapP A λ_ _ z=>z.put X eC;walk_at"";refine⟨f,_,rfl,dz.t X (k:=aK z) ad (dC (by lia)),?_⟩;generalize upd H9 f (.dT (putK kvs (aK z) (.ref L)))=HA at au bi bl b0 Y ⊢;clear ar ad W A X e9;obtain⟨cf,bm,ch⟩:=au.r;have cu:(aW ws z).length<=100:=GC mr O;have bn:=G9 Y;walk_at"";refine⟨cH (af.of bm),?_⟩;walk_at"";refine⟨f,.ref L,rfl,by have:=bC.t bl (k:=aK z) bi;rw[gw,G5 rfl]at this;exact this,?_⟩;refine bX (af.of b0) ?_;refine dP (xs:=A0 V.ref cs) (λi ys H'=>H'=HA/\∃ts,ys=A0 V.ref ts/\Paired (aw HA) ts (((aW ws z).take i).map (·.2))) (bU (by rw[F1];lia)) ⟨rfl,[],rfl,.nil⟩ (λi ys H' _ h=>by obtain⟨rfl,ts,rfl,N⟩:=h;refine⟨af.of b0,?_⟩;rw[F1,ck N,F1,GU];lia) ?_ ?_
  .rintro i u ys HB hu ⟨rfl,ts,rfl,N⟩;rw[F3]at hu;obtain⟨a,ha,rfl⟩:=Ge.mp hu;obtain⟨⟨k,y⟩,hy,b2,hab,ci⟩:=cn Y ha;walk_at"";refine dZ (ax.of hab) rfl ?_;walk_at"";refine aI ?_;walk_at"";refine⟨rfl,ts++[b2],by rw[Gj];rfl,?_⟩;rw[G7,hy,Gj];exact gq N ci
  rintro ys HB p9 ⟨rfl,ts,rfl,N⟩ cl;rw[F1,bn,Gx]at N;have eB:=bh (o:=.lst (A0 V.ref ts)) cl;have bu:upd HB p9 (.lst (A0 V.ref ts)) p9=some (.lst (A0 V.ref ts)):=aE;have bv:=au.step eB;have Z:=bt (λa x h=>eB _ _ h) N;have c0:=eB _ _ bm;have b1:=bt (λa x h=>eB _ _ h) ch;generalize upd HB p9 (.lst (A0 V.ref ts))=HC at eB bu bv Z c0 b1 ⊢;have cv:=ck b1;have c1:=ck Z;rw[F1]at c1;walk_at"";refine⟨rw,p9,_,_,rfl,rfl,c0,bu,by rw[F1,F1];exact GC (show _<=2500000 by lia) (by decide),?_⟩;rw[<-Gj];have co:=bv.row (as':=cf++ts) (R':=R'++(aW ws z).map (·.2)) (BQ b1 Z);walk_at"";refine⟨qs++[z],R'++(aW ws z).map (·.2),_,_,co,c5,?_,?_,rfl⟩
  .rw[Gk,Gk,F1,HN];lia
  .rw[Gk,Gk,Gk,F1,HN];lia
 .rintro σ H4 ⟨qs,k1,k2,ss,sm,rfl⟩;have b7:qs.length<=24012:=bL.few m2 hT sm.nd λz j=>sm.ins z (GN _ j);obtain⟨kvs,hd,pk,nf⟩:=ss.d;walk_at"";exact q f kvs qs H4 (e1.trans ss.ext) (e1.none hfn) hd pk sm.nd b7 (λkv hk=>(nf kv hk).2) sm.done
def Kx(f:Vb)(H H':Hp):Prop:=∀b o,b≠f->H b=Vn o->H' b=Vn o
def Kx.ext{f:Vb}(h:Kx f H H')(e:Ext H' H2):Kx f H H2:=λb o n z=>e _ _ (h b o n z)
def Kx.put{f a:Vb}{o:HO}(h:Kx f H H')(n:H a=Vo):Kx f H (upd H' a o):=λb u nb z=>by rw[aA (λe=>by rw[e,n]at z;cases z)];exact h b u nb z
def Kx.pl{f:Vb}{u:HO}(h:Kx f H H')(b:H f=Vn u)(c:∀xs,u≠.tup xs){a:Vb}(p:aw H a x):aw H' a x:=h _ _ (bA p b (λz=>c _ z.symm)) p
def cZ.kx{f:Vb}{u:HO}(h:Kx f H H')(c:H f=Vn u)(d:∀xs,u≠.tup xs)(i:kv.2≠.ref f)(s:cZ ws H kv z):cZ ws H' kv z:=by obtain⟨h1,l,as,h2,j,m⟩:=s;refine⟨h1,l,as,h2,h _ _ (λe=>i (by rw[h2,e])) j,Paired.mapP m λa e z=>?_⟩;obtain⟨b,g,n⟩:=z;exact⟨b,h _ _ (bA g c (λe=>d _ e.symm)) g,h.pl c d n⟩
abbrev AD(kv:List Key×V)(za:Bfs.Pl×Vb):Prop:=kv.1=aK za.1/\kv.2=.ref za.2
structure AH(H0 H:Hp)(g:Vb)(zas:List (Bfs.Pl×Vb))(A:Bfs.Pl->List Bfs.Pl):Prop where
 gn:H0 g=Vo
 d:∃kvs,H g=Vn (.dT kvs)/\Paired AD kvs zas
 nd:(zas.map (·.2)).Nodup
 fr:∀za∈zas,H0 za.2=Vo
 it:∀za∈zas,∃as,H za.2=Vn (.lst (A0 V.ref as))/\Paired (aw H) as (A za.1)
def AH.ext{g:Vb}(h:AH H0 H g zas A)(e:Ext H H'):AH H0 H' g zas A:=by
 obtain⟨h1,⟨kvs,h2,b⟩,c,d,f⟩:=h;exact⟨h1,⟨kvs,e _ _ h2,b⟩,c,d,λza i=>by obtain⟨as,j,l⟩:=f za i;exact⟨as,e _ _ j,bt (λa x h=>e _ _ h) l⟩⟩
theorem AH.put{H0 H:Hp}{g c:Vb}{u u':HO}{zas:List (Bfs.Pl×Vb)}{A:Bfs.Pl->List Bfs.Pl}(h:AH H0 H g zas A)(d:H c=Vn u)(e:∀xs,u≠.tup xs)(f:c≠g)(i:∀za∈zas,c≠za.2):AH H0 (upd H c u') g zas A:=by
 obtain⟨h1,⟨kvs,h2,j⟩,l,m,n⟩:=h;exact⟨h1,⟨kvs,by rw[aA f.symm];exact h2,j⟩,l,m,λza b=>by obtain⟨as,o,p⟩:=n za b;exact⟨as,by rw[aA (i za b).symm];exact o,bt (λa x h=>aw.put d e h) p⟩⟩
def AH.val{g:Vb}(h:AH H0 H g zas A)(nd:(zas.map (·.1)).Nodup){a:Vb}(b:(y,a)∈zas):∃kvs,H g=Vn (.dT kvs)/\aX kvs (aK y)=Vn (.ref a):=by obtain⟨kvs,h2,c⟩:=h.d;obtain⟨v,f,_,e⟩:=eZ (key:=λza:Bfs.Pl×Vb=>za.1) (λ_ _ z=>z.1) c nd b;exact⟨kvs,h2,by rw[f];exact congrArg Vn e⟩
def AH.push{g b:Vb}{a:Vb}(h:AH H0 H g zas A)(nd:(zas.map (·.1)).Nodup)(m:(y,a)∈zas)(hb:aw H b z):
  ∃as,H a=Vn (.lst (A0 V.ref as))/\as.length=(A y).length/\AH H0 (upd H a (.lst (A0 V.ref as++[.ref b]))) g zas (λu=>if u=y then A u++[z]else A u):=by
 obtain⟨h1,⟨kvs,h2,w⟩,r,B,s⟩:=h;obtain⟨as,f,v⟩:=s _ m;have C:g≠a:=bA h2 f (by intro z;cases z);refine⟨as,f,ck v,h1,⟨kvs,by rw[aA C];exact h2,w⟩,r,B,λza n=>?_⟩;by_cases e:za.1=y
 .have o:za=(y,a):=by
   obtain⟨i,hi⟩:=GR n;obtain⟨j,d⟩:=GR m;have l:(zas.map (·.1))[i]?=Vn y:=by rw[F3,hi];exact congrArg Vn e
   have p:(zas.map (·.1))[j]?=Vn y:=by rw[F3,d];rfl
   have:=(Ij (F9.mp l).1 nd).mp (l.trans p.symm);subst this;rw[hi]at d;exact GK d
  subst o;refine⟨as++[b],by rw[aE,Gj];rfl,?_⟩;rw[G5 rfl];exact gq (bt (λc x h=>aw.put f fb h) v) (aw.put f fb hb)
 .rw[G0 e];obtain⟨q,E,F⟩:=s za n;have na:za.2≠a:=λo=>by
   obtain⟨i,hi⟩:=GR n;obtain⟨j,d⟩:=GR m;have l:(zas.map (·.2))[i]?=Vn a:=by rw[F3,hi];exact congrArg Vn o
   have p:(zas.map (·.2))[j]?=Vn a:=by rw[F3,d];rfl
   have:=(Ij (F9.mp l).1 r).mp (l.trans p.symm);subst this;rw[hi]at d;exact e (by rw[GK d])
  exact⟨q,by rw[aA na];exact E,bt (λc x h=>aw.put f fb h) F⟩
def AH.new{g a:Vb}(h:AH H0 H g zas A)(m:z∉zas.map (·.1))(ha:H a=Vn (.lst []))(n:H0 a=Vo)(na:∀za∈zas,za.2≠a)(hA:A z=[]):
  ∃kvs,H g=Vn (.dT kvs)/\kvs.length=zas.length/\AH H0 (upd H g (.dT (putK kvs (aK z) (.ref a)))) g (zas++[(z,a)]) A:=by
 obtain⟨h1,⟨kvs,h2,b⟩,o,p,q⟩:=h;have kn:aX kvs (aK z)=Vo:=fP (key:=λza:Bfs.Pl×Vb=>za.1) (λ_ _ z=>z.1) b m;have f:a≠g:=bA ha h2 (by intro z;cases z);refine⟨kvs,h2,G9 b,h1,⟨_,by rw[aE,jI _ kn],IT b ⟨rfl,rfl⟩⟩,?_,λza i=>?_,λza i=>?_⟩
 .rw[Gj,HP];refine⟨o,by simp,λc r d hd e=>?_⟩;obtain⟨za,j,rfl⟩:=G6.mp r;have:d=a:=by simpa using hd
  exact na za j (e.trans this)
 .rcases Gr.mp i with w|w
  .exact p za w
  .rw[Gb.mp w];exact n
 .rcases Gr.mp i with w|w
  .obtain⟨as,l,s⟩:=q za w;exact⟨as,by rw[aA (bA l h2 (by intro z;cases z))];exact l,bt (λc x h=>aw.put h2 eC h) s⟩
  .rw[Gb.mp w];exact⟨[],by rw[aA f];exact ha,by rw[hA];exact .nil⟩
def xq(h:aX kvs k=Vn v):∃kv∈kvs,kv.2=v:=by
 induction kvs with
 | nil=>cases h
 | cons a t b=>
  by_cases e:a.1=k
  .rw[fj e]at h;exact⟨a,F7,GK h⟩
  .rw[eR e]at h;obtain⟨kv,h1,h2⟩:=b h;exact⟨kv,F4 _ h1,h2⟩
def c8(l:List (Nat×Bfs.Pl))(y:Bfs.Pl):Nat:=(l.map (·.2)).count y
def bR(ws:List Way)(zs:List Bfs.Pl)(y:Bfs.Pl):List Bfs.Pl:=zs.flatMap λz=>GO (c8 (aW ws z) y) z
def Ae(ws)(zs)(z y):bR ws (zs++[z]) y=bR ws zs y++GO (c8 (aW ws z) y) z:=by unfold bR;simp
inductive rV(K:FX)(vs:List V)(H:Hp)(Q:VK)(E:XK):Prop|mk:∀f kvs qs ws,vs=[.ref f]->H f=Vn (.dT kvs)->Paired (cZ ws H) kvs qs->qs.Nodup->qs.length<=24012->ws.length<=100->(∀kv∈kvs,kv.2≠.ref f)->(∀z∈qs,∀y,aS ws z y->y∈qs)->(∀g od zas H',Kx f H H'->H' f=Vn (.frz od (.dT kvs))->AH H H' g zas (bR ws qs)->zas.map (·.1)=qs->Q (.ref g) H')->rV K vs H Q E
theorem Dx(T:Bu w mg base):Cal P w K mg base "places_ahead" 1 ["steps"] (rV K):=by
 refine(cI T.d_places_ahead).oS ["steps","ahead","here","count","there"] λhr nd H vs Q E h=>?_;obtain⟨f,kvs,qs,ws,rfl,hf,pk,Z,ca,a5,nk,hcl,q⟩:=h;have a6:=G9 pk;refine⟨_,(@av _ _ _ _ _ (@aG _ _ 1 _ _ _ _ nd rfl oi kX rfl oi)
   (@av _ _ _ _ _ (bJ B2 rfl (lT (pv 0)) (aN (i:=2) nd rfl oi) (@az _ _ _ (gE (bB hr) (pv 1) (pv 2) (@bF _ _ _ _ aa) rfl)))
   (@av _ _ _ _ _ (bJ B2 rfl (lT (pv 0)) (aN (i:=2) nd rfl oi) (@az _ _ _ (bJ B2 rfl (bW K (c7 (bB hr) (pv 0) (pv 2) (λ_ _=>rfl))) (ee K rfl (bG (aN (i:=3) nd rfl oi) (bG (aN (i:=4) nd rfl oi) dY))) (@az _ _ _ (br (bP K F8 Gp Gq bZ (c7 (bB hr) (pv 1) (pv 4) (λ_ _=>rfl)) (ag (pv 2) aa rfl)))))))
   (@az _ _ _ (@aL _ _ _ _ (pv 1)))))),?_⟩
 walk_at"";refine λg a1=>?_;walk_at"";have O:f≠g:=λe=>by rw[e,a1]at hf;cases hf
 have b8:upd H g (.dT []) f=Vn (.dT kvs):=by rw[aA O];exact hf
 refine⟨f,kvs,rfl,.inl b8,λod bs a2=>?_⟩;have ba:=G9 a2;have a9:∀(i:Nat) (b:Vb),bs[i]?=Vn b->∃z,qs[i]?=Vn z/\aw H b z:=λi b hb=>by
  obtain⟨kv,C,m⟩:=cn a2 hb;obtain⟨z,B,a3⟩:=cn pk C;refine⟨z,B,?_⟩;rw[a3.1]at m;have m:upd H g (.dT []) b=Vn (.tup [.int z.1,.int z.2]):=m;have nb:b≠g:=λe=>by rw[e,aE]at m;cases m
  rw[aA nb]at m;exact m
 clear a2;have a0:AH H (upd (upd H g (.dT [])) f (.frz od (.dT kvs))) g [] (λ_=>[]):=⟨a1,⟨[],by rw[aA O.symm,aE],.nil⟩,IF,λza h=>(nomatch h),λza h=>(nomatch h)⟩;have k0:Kx f H (upd (upd H g (.dT [])) f (.frz od (.dT kvs))):=λb o nb z=>by rw[aA nb,aA (λe=>by rw[e,a1]at z;cases z)];exact z
 have f0:upd (upd H g (.dT [])) f (.frz od (.dT kvs)) f=Vn (.frz od (.dT kvs)):=aE;generalize upd (upd H g (.dT [])) f (.frz od (.dT kvs))=H1 at a0 k0 f0 ⊢;refine pR (λi σ H'=>∃k1 zas,σ=[Vn (.ref f),Vn (.ref g),k1,Vo,Vo]/\Kx f H H'/\H' f=Vn (.frz od (.dT kvs))/\AH H H' g zas (λ_=>[])/\zas.map (·.1)=qs.take i) ⟨_,[],rfl,k0,f0,a0,rfl⟩ (λi σ H' h=>by obtain⟨_,_,_,_,h,_⟩:=h;exact h) ?_ ?_
 .rintro i b σ H2 hb ⟨k1,zas,rfl,kx,r,F,d⟩;obtain⟨z,B,ab⟩:=a9 i b hb;have bb:aw H2 b z:=kx.pl hf eC ab;walk_at"";refine aO λa H3 e3 ha L=>?_;walk_at"";have na:∀za∈zas,za.2≠a:=λza B e=>by obtain⟨as,h1,_⟩:=F.it za B;rw[e,L]at h1;cases h1
  have bc:H a=Vo:=by
   cases w:H a with
   | none=>rfl
   | some o=>
    by_cases e:a=f
    .rw[e,r]at L;cases L
    .rw[kx _ _ e w]at L;cases L
  have be:z∉zas.map (·.1):=by
   rw[d];intro hm;obtain⟨j,hj⟩:=GR hm;rw[List.getElem?_take]at hj;split at hj
   .rename_i hji;have:=(Ij (F9.mp hj).1 Z).mp (hj.trans B.symm);lia
   .cases hj
  obtain⟨ac,bg,cd,bi⟩:=(F.ext e3).new be ha bc na rfl;have ce:zas.length<=24012:=by have:=congrArg Lo d;rw[F1,GU]at this;lia
  refine⟨g,_,rfl,dz.t bg (k:=aK z) (e3 _ _ bb) (dC (by lia)),?_⟩;refine⟨_,_,rfl,(kx.ext e3).put F.gn,?_,bi,?_⟩
  .rw[aA O];exact e3 _ _ r
  .rw[Gj,d,G7,B];rfl
 rintro σ H2 ⟨k1,zas,rfl,kx,r,F,d⟩;rw[ba,a6,Gx]at d;walk_at"";refine⟨f,kvs,rfl,.inr ⟨od,r⟩,λp ad M=>?_⟩;have ai:=G9 M;have U:∀(i:Nat) (b:Vb),ad[i]?=Vn b->∃z,qs[i]?=Vn z/\aw H2 b z:=λi b hb=>by obtain⟨kv,C,m⟩:=cn M hb;obtain⟨z,B,a3⟩:=cn pk C;refine⟨z,B,?_⟩;rw[a3.1]at m;exact m
 clear M a9;have bl:∀za∈zas,f≠za.2:=λza B e=>by obtain⟨as,h1,_⟩:=F.it za B;rw[<-e,r]at h1;cases h1
 have W:∀xs,(HO.frz od (.dT kvs))≠.tup xs:=λxs z=>by cases z
 have aj:AH H (upd H2 f (.frz p (.dT kvs))) g zas (bR ws (qs.take 0)):=F.put r W O bl;have ak:Kx f H (upd H2 f (.frz p (.dT kvs))):=λb o nb z=>by rw[aA nb];exact kx b o nb z
 have f3:upd H2 f (.frz p (.dT kvs)) f=Vn (.frz p (.dT kvs)):=aE;have am:∀(i:Nat) (b:Vb),ad[i]?=Vn b->∃z,qs[i]?=Vn z/\aw (upd H2 f (.frz p (.dT kvs))) b z:=λi b hb=>by obtain⟨z,B,hp⟩:=U i b hb;exact⟨z,B,aw.put r W hp⟩
 generalize upd H2 f (.frz p (.dT kvs))=H3 at aj ak f3 am ⊢;clear F kx r U H2;have an:(zas.map (·.1)).Nodup:=by rw[d];exact Z
 refine pR (λi σ H'=>∃k1 k2 k3,σ=[Vn (.ref f),Vn (.ref g),k1,k2,k3]/\Kx f H H'/\(∀b z,aw H3 b z->aw H' b z)/\H' f=Vn (.frz p (.dT kvs))/\AH H H' g zas (bR ws (qs.take i))/\∀y,(bR ws (qs.take i) y).length<=100*i) ⟨_,_,_,rfl,ak,λ_ _ h=>h,f3,aj,λy=>Gn _⟩ (λi σ H' h=>by obtain⟨_,_,_,_,_,_,h,_⟩:=h;exact h) ?_ ?_
 .rintro i b σ H4 hb ⟨k1,k2,k3,rfl,kx,kp,R,F,hle⟩;obtain⟨z,B,X⟩:=am i b hb;have bm:=kp _ _ X;have ap:=Ga B;have cf:=(F9.mp B).1;have c4:(aW ws z).length<=100:=GC mr a5;obtain⟨v,hv,C⟩:=eZ (key:=λz:Bfs.Pl=>z) (λ_ _ z=>z.1) pk (by simpa using Z) ap;have bn:v≠.ref f:=by obtain⟨kv,aq,ar⟩:=xq hv;exact ar ▸ nk kv aq
  obtain⟨_,l,as,e,au,b0⟩:=C.kx kx hf eC bn;cases e;walk_at"";refine⟨f,.ref l,rfl,.inr ⟨kvs,aK z,b,.inr ⟨p,R⟩,rfl,bm,hv.symm⟩,?_⟩;refine bX (af.of au) ?_;have b1:=G9 b0;have nl:∀za∈zas,za.2≠l:=λza G e=>by have h1:=F.fr za G;obtain⟨_,l',ch,e',bu,_⟩:=C;cases e';rw[e,bu]at h1;cases h1
  refine forL (xs:=A0 V.ref as) (λj σ H'=>∃k2 k3,σ=[Vn (.ref f),Vn (.ref g),Vn (.ref b),k2,k3]/\Kx f H H'/\(∀b z,aw H3 b z->aw H' b z)/\H' f=Vn (.frz p (.dT kvs))/\H' l=Vn (.lst (A0 V.ref as))/\Paired (eh H') as (aW ws z)/\AH H H' g zas (λy=>bR ws (qs.take i) y++GO (c8 ((aW ws z).take j) y) z)/\∀y,(bR ws (qs.take i) y++GO (c8 ((aW ws z).take j) y) z).length<=100*i+j) ⟨_,_,rfl,kx,kp,R,au,b0,?_,?_⟩ (λj σ H' _ h=>by obtain⟨_,_,_,_,_,_,h,_⟩:=h;exact af.of h) ?_ ?_
  .have:(λy=>bR ws (qs.take i) y++GO (c8 ((aW ws z).take 0) y) z)=bR ws (qs.take i):=funext λy=>by show bR ws (qs.take i) y++[]=_;rw[HW]
   rw[this];exact F
  .intro y;show(bR ws (qs.take i) y++[]).length<=_;rw[HW];exact hle y
  .rintro j u σ H5 hu ⟨k2,k3,rfl,a4,kp5,S,b4,N,I,A⟩;rw[F3]at hu;obtain⟨a,ha,rfl⟩:=Ge.mp hu;obtain⟨⟨k,y⟩,hy,b2,hab,bv⟩:=cn N ha;have c0:y∈qs:=hcl z ap y (fQ.mp ⟨k,Ga hy⟩);obtain⟨⟨Y,a'⟩,G,e⟩:=G6.mp (show y∈zas.map (·.1) by rw[d];exact c0);have e:Y=y:=e;subst e;obtain⟨ac,c1,c2⟩:=I.val an G;obtain⟨ci,J,c5,b5⟩:=I.push an G (kp5 _ _ X);have hj:=(F9.mp hy).1;have c9:=A Y;walk_at"";refine dZ (ax.of hab) rfl ?_;walk_at"";refine⟨g,.ref a',rfl,by have:=bC.t c1 (k:=aK Y) bv;rw[c2]at this;exact this,?_⟩;refine⟨cH (af.of J),?_⟩;walk_at"";refine bV J (by rw[F1];exact GA (show _<2500000 by lia) (by decide)) ?_;walk_at"";have c3:f≠a':=λe=>by rw[<-e,S]at J;cases J
   have b7:(λu=>if u=Y then(bR ws (qs.take i) u++GO (c8 ((aW ws z).take j) u) z)++[z]else bR ws (qs.take i) u++GO (c8 ((aW ws z).take j) u) z)=λu=>bR ws (qs.take i) u++GO (c8 ((aW ws z).take (j+1)) u) z:=funext λu=>by
    have cs:c8 ((aW ws z).take (j+1)) u=c8 ((aW ws z).take j) u+if Y=u then 1 else 0:=by
     unfold c8;rw[G7,hy,Gj,Jy];congr 1;show Mm u [Y]=_;rw[List.count_cons,Ku];by_cases e:Y=u
     .subst e;simp
     .simp[e]
    rw[cs];by_cases e:u=Y
    .subst e;rw[G5 rfl,G5 rfl,KO,Hu]
    .rw[G0 e,G0 (λh=>e h.symm),Nat.add_zero]
   rw[b7]at b5;refine⟨_,_,rfl,a4.put (I.fr _ G),λc x h=>aw.put J fb (kp5 _ _ h),by rw[aA c3];exact S,by rw[aA (nl _ G).symm];exact b4,Paired.mapP N λ_ _ s=>s.put J fb,b5,λu=>?_⟩;have:=A u;have h2:=congrFun b7 u;rw[<-h2];split
   .rw[Gk,HN];lia
   .omega
  .rintro σ H5 ⟨k2,k3,rfl,a4,kp5,S,b4,N,I,A⟩;rw[F1,b1,Gx]at I A;walk_at"";have e:(λy=>bR ws (qs.take i) y++GO (c8 (aW ws z) y) z)=bR ws (qs.take (i+1)):=funext λy=>by rw[G7,B];exact(Ae ws (qs.take i) z y).symm
   refine⟨_,_,_,rfl,a4,kp5,S,e ▸ I,λy=>?_⟩;have:=A y;rw[<-congrFun e y];lia
 rintro σ H4 ⟨k1,k2,k3,rfl,kx,kp,R,F,hle⟩;rw[ai,a6,Gx]at F;walk_at"";exact q g p zas H4 kx R F d
def iH(ws:List Way)(kn:List Bfs.Pl)(z:Bfs.Pl):Nat:=((aW ws z).filter λe=>decide (e.2∉kn)).length
def E6(ws)(z):iH ws [] z=(aW ws z).length:=by unfold iH;congr 1;exact List.filter_eq_self.mpr λe _=>by simp
theorem sO(kn:List Bfs.Pl)(h:Bfs.Pl)(b:h∉kn):∀l:List (Nat×Bfs.Pl),(l.filter λe=>decide (e.2∉kn)).length=(l.filter λe=>decide (e.2∉kn++[h])).length+c8 l h
 | []=>rfl
 | e::l=>by
  have a:=sO kn h b l;have c:c8 (e::l) h=c8 l h+if e.2=h then 1 else 0:=by unfold c8;congr 1;by_cases q:e.2=h<;>simp[q]
  rw[c,He,He];by_cases q:e.2=h
  .rw[G5 (GZ (q ▸ b)),G0 (by simp[q]),G5 q,Gw,a];lia
  .rw[G0 q];by_cases w:e.2∈kn
   .rw[G0 (by simp[w]),G0 (by simp[w]),a];lia
   .rw[G5 (GZ w),G5 (GZ (by simp[w,q])),Gw,Gw,a];lia
def qX(a:h∉kn)(z):iH ws kn z=iH ws (kn++[h]) z+c8 (aW ws z) h:=sO kn h a _
def vR:iH ws kn z=0↔∀y,aS ws z y->y∈kn:=by
 unfold iH;rw[List.length_eq_zero_iff,JO];constructor
 .intro h y a;obtain⟨k,b⟩:=fQ.mpr a;have:=h _ b;simpa using this
 .intro h e c;have:=h e.2 (fQ.mp ⟨e.1,c⟩);simpa using this
theorem oO{ws:List Way}{y z:Bfs.Pl}:∀{qs:List Bfs.Pl},qs.Nodup->(bR ws qs y).count z=if z∈qs then c8 (aW ws z) y else 0
 | [],_=>rfl
 | q::qs,nd=>by
  rw[Hs]at nd;have a:=oO (ws:=ws) (y:=y) (z:=z) nd.2;have:bR ws (q::qs) y=GO (c8 (aW ws q) y) q++bR ws qs y:=rfl;rw[this,Jy,a,List.count_replicate];by_cases e:q=z
  .subst e;rw[G5 (by simp),G0 nd.1,G5 (by simp)];rfl
  .rw[G0 (by simpa using e),IQ];by_cases w:z∈qs
   .rw[G5 w,G5 (F4 _ w)]
   .rw[G0 w,G0 (by rw[Gh];rintro(h|h);exact e h.symm;exact w h)]
def kC(h:z∈bR ws qs y):z∈qs:=by obtain⟨u,a,b⟩:=List.mem_flatMap.mp h;rw[(List.mem_replicate.mp b).2];exact a
structure KhS(ws:List Way)(qs:List Bfs.Pl)(Kn:List (Bfs.Pl×Nat))(R:List Bfs.Pl)(W:Bfs.Pl->Nat):Prop where
 nd:(Kn.map (·.1)++R).Nodup
 inq:∀z∈Kn.map (·.1)++R,z∈qs
 lw:∀e∈Kn,Bfs.Lw (aS ws) e.1 e.2
 w:∀z∈qs,W z=iH ws (Kn.map (·.1)) z
 z0:∀z∈qs,W z=0↔z∈Kn.map (·.1)++R
structure KhI(qs L:List Bfs.Pl)(W0 W:Bfs.Pl->Nat)(new:List Bfs.Pl)(j:Nat):Prop where
 w:∀z∈qs,W z+(L.take j).count z=W0 z
 nw:∀z,z∈new↔z∈L.take j/\W z=0
 nd:new.Nodup
theorem KhI.pos{R':List Bfs.Pl}(a:qs.Nodup)(ks:KhS ws qs Kn (R++[h]) W0)(d:h∉Kn.map (·.1))(e:KhI qs (bR ws qs h) W0 W new j)(c:(bR ws qs h)[j]?=Vn z):1<=W z:=by
 have b:z∈qs:=kC (Ga c);have h1:=e.w z b;have h2:=ks.w z b;have g:=qX (ws:=ws) d z;have f:=oO (ws:=ws) (y:=h) (z:=z) a;rw[G5 b]at f;have i:((bR ws qs h).take (j+1)).count z=((bR ws qs h).take j).count z+1:=by rw[G7,c,Jy];show _+Mm z [z]=_;rw[List.count_cons_self,Ku]
 have l:((bR ws qs h).take (j+1)).count z<=(bR ws qs h).count z:=(List.take_sublist _ _).count_le z;lia
theorem KhI.step(b:KhI qs L W0 W new j)(f:L[j]?=Vn z)(l:1<=W z):KhI qs L W0 (λu=>if u=z then W z-1 else W u) (if W z-1=0 then new++[z]else new) (j+1):=by
 have tk:∀u,u∈L.take (j+1)↔u∈L.take j\/u=z:=λu=>by rw[G7,f,Gr];show _\/u∈[z]↔_;rw[Gb]
 have d:z∉new:=λh=>by have:=((b.nw z).mp h).2;lia
 refine⟨λu g=>?_,λu=>?_,?_⟩
 .have h1:=b.w u g;rw[G7,f,Jy];show _+(_+Mm u [z])=_;rw[List.count_cons,Ku];by_cases e:u=z
  .subst e;rw[G5 rfl,G5 (by simp)];lia
  .rw[G0 e,G0 (by simpa using λh=>e h.symm)];lia
 .by_cases e:u=z
  .subst e;rw[G5 rfl];by_cases w:W u-1=0
   .rw[G5 w];exact⟨λ_=>⟨(tk u).mpr (.inr rfl),w⟩,λ_=>by simp⟩
   .rw[G0 w];exact⟨λh=>absurd h d,λh=>absurd h.2 w⟩
  .rw[G0 e,tk];have:u∈(if W z-1=0 then new++[z]else new)↔u∈new:=by
    split
    .simp[e]
    .exact Iff.rfl
   rw[this,b.nw];simp[e]
 .split
  .rw[HP];refine⟨b.nd,by simp,λa ha c i e=>?_⟩;rw[Gb.mp i]at e;exact d (e ▸ ha)
  .exact b.nd
theorem KhS.done(g:qs.Nodup)(ks:KhS ws qs Kn (R++[h]) W0)(m:Bfs.Lw (aS ws) h n)(i:KhI qs (bR ws qs h) W0 W new (bR ws qs h).length):KhS ws qs (Kn++[(h,n)]) (R++new) W:=by
 have d:=ks.nd;have o:h∉Kn.map (·.1):=λw=>by rw[<-Hu,HP]at d;exact d.2.2 h (GN _ w) h (by simp) rfl
 have kw:=i.w;have kn:=i.nw;rw[Gx]at kw kn;have p:∀z∈qs,W z=iH ws (Kn.map (·.1)++[h]) z:=λz b=>by have h1:=kw z b;have h2:=ks.w z b;have j:=qX (ws:=ws) o z;have l:=oO (ws:=ws) (y:=h) (z:=z) g;rw[G5 b]at l;lia
 have old:∀z,z∈(Kn++[(h,n)]).map (·.1)++R↔z∈Kn.map (·.1)++(R++[h]):=λz=>by
  simp only[Gj,Hr,List.map_nil,Gr,Gb];constructor
  .rintro((a|a)|a)
   .exact .inl a
   .exact .inr (.inr a)
   .exact .inr (.inl a)
  .rintro(a|a|a)
   .exact .inl (.inl a)
   .exact .inr a
   .exact .inl (.inr a)
 have nq:∀z∈new,z∈qs/\W z=0/\W0 z≠0:=λz b=>by obtain⟨h1,h2⟩:=(kn z).mp b;have f:=kC h1;have j:=kw z f;have l:=MS.mpr h1;exact⟨f,h2,by lia⟩
 refine⟨?_,λz b=>?_,λe q=>?_,λz b=>?_,λz b=>?_⟩
 .rw[<-Hu,HP];refine⟨?_,i.nd,λa ha c r e=>?_⟩
  .have:(A0 (λx=>x.fst) (Kn++[(h,n)])++R).Perm (Kn.map (·.1)++(R++[h])):=by rw[Gj,Hu];exact List.Perm.append_left _ Lf
   exact this.nodup_iff.mpr d
  .subst e;obtain⟨f,_,j⟩:=nq a r;exact j ((ks.z0 a f).mpr ((old a).mp ha))
 .rw[<-Hu]at b;rcases Gr.mp b with a|a
  .exact ks.inq z ((old z).mp a)
  .exact(nq z a).1
 .rcases Gr.mp q with a|a
  .exact ks.lw e a
  .rw[Gb.mp a];exact m
 .rw[p z b,Gj];rfl
 .rw[<-Hu,Gr,old];have h1:=kw z b;constructor
  .intro e;by_cases c:z∈bR ws qs h
   .exact .inr ((kn z).mpr ⟨c,e⟩)
   .rw[List.count_eq_zero_of_not_mem c]at h1;exact .inl ((ks.z0 z b).mp (by lia))
  .rintro(a|a)
   .have:=(ks.z0 z b).mpr a;lia
   .exact(nq z a).2.1
def KhS.all(ks:KhS ws qs Kn [] W)(a:z∈qs)(h:∀y,aS ws z y->y∈Kn.map (·.1)):z∈Kn.map (·.1):=by
 have h1:=(ks.z0 z a).mp (by rw[ks.w z a];exact vR.mpr h)
 rwa [HW]at h1
def KhS.start(b:qs.Nodup)(c:∀z∈qs,W z=(aW ws z).length):KhS ws qs [] (qs.filter λz=>decide (W z=0)) W:=
 ⟨L3 _ b,λz a=>(G8.mp a).1,λe d=>by(cases d),λz a=>by rw[c z a];exact(E6 ws z).symm,λz a=>by rw[List.map_nil,List.nil_append,G8];exact⟨λh=>⟨a,GZ h⟩,λh=>of_decide_eq_true h.2⟩⟩
def yZ{u:V}(h:aX kvs k=Vn u):(putK kvs k v).length=kvs.length:=by unfold putK;rw[jE,h,G5 (show(Vn u).isSome=true from rfl),F1]
def WD(H:Hp)(c:Vb)(qs:List Bfs.Pl)(W:Bfs.Pl->Nat):Prop:=∃kvs,H c=Vn (.dT kvs)/\kvs.length<=24012/\∀z∈qs,aX kvs (aK z)=Vn (.int (W z:Nat))
abbrev Cc(kv:List Key×V)(e:Bfs.Pl×Nat):Prop:=kv.1=aK e.1/\kv.2=.int (e.2:Nat)
def KD(H:Hp)(c:Vb)(Kn:List (Bfs.Pl×Nat)):Prop:=∃kvs,H c=Vn (.dT kvs)/\Paired Cc kvs Kn
def KD.val(h:KD H c Kn)(nd:(Kn.map (·.1)).Nodup)(a:(z,n)∈Kn):∃kvs,H c=Vn (.dT kvs)/\aX kvs (aK z)=Vn (.int (n:Nat)):=by obtain⟨kvs,h1,h2⟩:=h;obtain⟨v,b,_,e⟩:=eZ (key:=λe:Bfs.Pl×Nat=>e.1) (λ_ _ z=>z.1) h2 nd a;exact⟨kvs,h1,by rw[b];exact congrArg Vn e⟩
structure KH(kvs:List (List Key×V))(qs:List Bfs.Pl)(B H:Hp)(f wt kn:Vb)(W:Bfs.Pl->Nat)(Kn:List (Bfs.Pl×Nat)):Prop where
 kx:Kx f B H
 fz:∃od,H f=Vn (.frz od (.dT kvs))
 wn:B wt=Vo
 nn:B kn=Vo
 wd:WD H wt qs W
 kd:KD H kn Kn
 ne:wt≠kn
theorem KH.ext{kvs:List (List Key×V)}{qs:List Bfs.Pl}{B H H':Hp}{f wt kn:Vb}{W:Bfs.Pl->Nat}{Kn:List (Bfs.Pl×Nat)}(h:KH kvs qs B H f wt kn W Kn)(e:Ext H H'):KH kvs qs B H' f wt kn W Kn:=by obtain⟨h1,⟨od,h2⟩,a,b,⟨k1,c,d⟩,⟨k2,g,i⟩,ne⟩:=h;exact⟨h1.ext e,⟨od,e _ _ h2⟩,a,b,⟨k1,e _ _ c,d⟩,⟨k2,e _ _ g,i⟩,ne⟩
theorem KH.put{kvs:List (List Key×V)}{qs:List Bfs.Pl}{B H:Hp}{f wt kn c:Vb}{u:List V}{u':HO}{W:Bfs.Pl->Nat}{Kn:List (Bfs.Pl×Nat)}(h:KH kvs qs B H f wt kn W Kn)(a:H c=Vn (.lst u))(e:B c=Vo):KH kvs qs B (upd H c u') f wt kn W Kn:=by obtain⟨h1,⟨od,h2⟩,g,i,⟨k1,b,j⟩,⟨k2,d,l⟩,ne⟩:=h;exact⟨h1.put e,⟨od,by rw[aA (bA h2 a (by intro z;cases z))];exact h2⟩,g,i,⟨k1,by rw[aA (bA b a (by intro z;cases z))];exact b,j⟩,⟨k2,by rw[aA (bA d a (by intro z;cases z))];exact d,l⟩,ne⟩
def KH.wput{B:Hp}{f wt kn:Vb}(h:KH kvs qs B H f wt kn W Kn)(b:z∈qs):∃kw,H wt=Vn (.dT kw)/\kw.length<=24012/\aX kw (aK z)=Vn (.int (W z:Nat))/\∀n,KH kvs qs B (upd H wt (.dT (putK kw (aK z) (.int (n:Nat))))) f wt kn (λu=>if u=z then n else W u) Kn:=by
 obtain⟨h1,⟨od,h2⟩,c,i,⟨k1,d,g,a⟩,⟨k2,j,l⟩,ne⟩:=h;refine⟨k1,d,g,a z b,λn=>⟨h1.put c,⟨od,by rw[aA (bA h2 d (by intro z;cases z))];exact h2⟩,c,i,⟨_,aE,by rw[yZ (a z b)];exact g,λu m=>?_⟩,⟨k2,by rw[aA ne.symm];exact j,l⟩,ne⟩⟩;show _=Vn (V.int ((if u=z then n else W u:Nat):Int));rw[gw];by_cases e:u=z
 .rw[G5 (by rw[e]),G5 e]
 .rw[G0 (λw=>e (jx w)),G0 e];exact a u m
def KH.kput{B:Hp}{f wt kn:Vb}(h:KH kvs qs B H f wt kn W Kn)(g:z∉Kn.map (·.1)):∃kk,H kn=Vn (.dT kk)/\kk.length=Kn.length/\∀n,KH kvs qs B (upd H kn (.dT (putK kk (aK z) (.int (n:Nat))))) f wt kn W (Kn++[(z,n)]):=by obtain⟨h1,⟨od,h2⟩,i,c,⟨k1,j,l⟩,⟨k2,d,a⟩,ne⟩:=h;have b:aX k2 (aK z)=Vo:=fP (key:=λe:Bfs.Pl×Nat=>e.1) (λ_ _ z=>z.1) a g;exact⟨k2,d,G9 a,λn=>⟨h1.put c,⟨od,by rw[aA (bA h2 d (by intro z;cases z))];exact h2⟩,i,c,⟨k1,by rw[aA ne];exact j,l⟩,⟨_,by rw[aE,jI _ b],IT a ⟨rfl,rfl⟩⟩,ne⟩⟩
theorem sub_len:∀{l m:List Bfs.Pl},l.Nodup->(∀x∈l,x∈m)->l.length<=m.length
 | [],_,_,_=>HM _
 | a::l,m,nd,h=>by rw[Hs]at nd;have ha:=h a F7;have:=sub_len (m:=m.erase a) nd.2 λx b=>(Ly (λe:x=a=>nd.1 (by rw[<-e];exact b))).mpr (h x (F4 _ b));rw[Jl ha]at this;have:=Jv ha;rw[Gw];omega
def fI(Kn:List (Bfs.Pl×Nat))(y:Bfs.Pl):Nat:=((Kn.find? λe=>decide (e.1=y)).map (·.2)).getD 0
def n5(h:y∈Kn.map (·.1)):(y,fI Kn y)∈Kn:=by
 obtain⟨e,b,rfl⟩:=G6.mp h;have hs:(Kn.find? λu=>decide (u.1=e.1)).isSome=true:=List.find?_isSome.mpr ⟨e,b,GZ rfl⟩;obtain⟨u,a⟩:=HV.mp hs;have h1:u.1=e.1:=by simpa using List.find?_some a
 have h2:=Kw a;unfold fI;rw[a];rw[<-h1];exact h2
theorem Ej(c:∀y,aS ws h y->y∈Kn.map (·.1))(d:∀e∈Kn,Bfs.Lw (aS ws) e.1 e.2){M:Int}(f:((aW ws h).map (λe=>((fI Kn e.2+1:Nat):Int))=[]/\M=0)\/(M∈(aW ws h).map (λe=>((fI Kn e.2+1:Nat):Int))/\∀a,a∈(aW ws h).map (λe=>((fI Kn e.2+1:Nat):Int))->a<=M)):∃n:Nat,M=(n:Int)/\Bfs.Lw (aS ws) h n:=by
 have lw:∀y,aS ws h y->Bfs.Lw (aS ws) y (fI Kn y):=λy b=>d _ (n5 (c y b));rcases f with⟨h1,h2⟩|⟨h1,h2⟩
 .have no:∀y,¬aS ws h y:=λy b=>by obtain⟨k,c⟩:=fQ.mpr b;rw[Kc.mp h1]at c;cases c
  exact⟨0,h2,Bfs.oN lw (λ_=>rfl) (λy b=>absurd b (no y)) λ⟨y,b⟩=>absurd b (no y)⟩
 .obtain⟨e,g,i⟩:=G6.mp h1;have hs:aS ws h e.2:=fQ.mp ⟨e.1,g⟩;refine⟨fI Kn e.2+1,i.symm,Bfs.oN lw (λw=>absurd hs (w _)) (λy b=>?_) λ_=>⟨e.2,hs,rfl⟩⟩;obtain⟨k,c⟩:=fQ.mpr b;have:=h2 _ (G6.mpr ⟨_,c,rfl⟩);dsimp only at this;lia
inductive xt(K:FX)(vs:List V)(H:Hp)(Q:VK)(E:XK):Prop|mk:∀f kvs qs ws,vs=[.ref f]->H f=Vn (.dT kvs)->Paired (cZ ws H) kvs qs->qs.Nodup->qs.length<=24012->ws.length<=100->(∀kv∈kvs,kv.2≠.ref f)->(∀z∈qs,∀y,aS ws z y->y∈qs)->(∀kn od Kn H',Kx f H H'->H' f=Vn (.frz od (.dT kvs))->H kn=Vo->KD H' kn Kn->(Kn.map (·.1)).Nodup->(∀e∈Kn,e.1∈qs/\Bfs.Lw (aS ws) e.1 e.2)->(∀z∈qs,(∀y,aS ws z y->y∈Kn.map (·.1))->z∈Kn.map (·.1))->Q (.ref kn) H')->xt K vs H Q E
theorem AQ(T:Bu w mg base):Cal P w K mg base "known_ranks" 2 ["steps"] (xt K):=by
 refine(cI T.d_known_ranks).oS ["steps","ahead","waits","here","known","row","before"] λhr nd H vs Q E h=>?_;obtain⟨f,kvs,qs,ws,rfl,hf,pk,G,ct,bm,nk,hcl,q⟩:=h;have bv:=G9 pk;refine⟨_,(@av _ _ _ _ _ (@aG _ _ 1 _ _ _ _ nd rfl oi (aF (Dx T) hr (ag (pv 0) aa rfl)) rfl oi)
   (@av _ _ _ _ _ (@aG _ _ 2 _ _ _ _ nd rfl oj kX rfl oi)
   (@av _ _ _ _ _ (bJ B2 rfl (lT (pv 0)) (aN (i:=3) nd rfl oi) (@az _ _ _ (gE (bB hr) (pv 2) (pv 3) (bx (cL K) rfl T.len_ HR (ag (c7 (bB hr) (pv 0) (pv 3) (λ_ _=>rfl)) aa rfl)) rfl)))
   (@av _ _ _ _ _ (@aG _ _ 4 _ _ _ _ nd rfl oj kX rfl oi)
   (@av _ _ _ _ _ (di (i:=5) ["here"] [2] nd rfl oi (lT (pv 0)) (λ_=>(aN (i:=0) (show(["here","waits"]:List Vm).Nodup from by decide +kernel) rfl oi oj)) (λ_=>(eJ (aU bY (c7 (bB hr) (pv 1) (pv 0) (λ_ _=>rfl)) ae (aT _)))) (λ_=>(pv 0)))
   (@av _ _ _ _ _ (fE B2 (mN K (pv 5) (λ_=>rfl)) (@av _ _ _ _ _ (@aG _ _ 3 _ _ _ _ nd rfl oi (sr K F8 Ll Lm uZ (pv 5)) rfl oi)
   (@av _ _ _ _ _ (gE (bB hr) (pv 4) (pv 3) (Dm K rfl rfl T.max_ (ag (eo ["count","there"] [4] (bW K (c7 (bB hr) (pv 0) (pv 3) (λ_ _=>rfl))) (λ_=>(ee (n:=2) K rfl (bG (aN (i:=0) (show(["count","there","known"]:List Vm).Nodup from by decide +kernel) rfl oi oj) (bG (aN (i:=1) (show(["count","there","known"]:List Vm).Nodup from by decide +kernel) rfl oi oj) dY)))) (λ_=>dn) (λ_=>(aH bp (c7 (bB hr) (pv 2) (pv 1) (λ_ _=>rfl)) ae))) aa rfl) ae) rfl)
   (@az _ _ _ (bJ B2 rfl (bW K (c7 (bB hr) (pv 1) (pv 3) (λ_ _=>rfl))) (aN (i:=6) nd rfl oi) (@av _ _ _ _ _ (gE (bB hr) (pv 2) (pv 6) (aH dU (c7 (bB hr) (pv 2) (pv 6) (λ_ _=>rfl)) ae) rfl)
   (@az _ _ _ (cK (aU bY (c7 (bB hr) (pv 2) (pv 6) (λ_ _=>rfl)) ae (aT _)) (@az _ _ _ (br (bP K F8 Gp Gq bZ (pv 5) (ag (pv 6) aa rfl)))) a8))))))))
   (@az _ _ _ (@aL _ _ _ _ (pv 4))))))))),?_⟩
 walk_at"";refine⟨f,kvs,qs,ws,rfl,hf,pk,G,ct,bm,nk,hcl,λg cu zas B kxB I ah bn=>?_⟩;have e6:(zas.map (·.1)).Nodup:=by rw[bn];exact G
 walk_at"";refine λwt ac=>?_;walk_at"";have b0:f≠wt:=λe=>by rw[<-e,I]at ac;cases ac
 have e7:upd B wt (.dT []) f=Vn (.frz cu (.dT kvs)):=by rw[aA b0];exact I
 refine⟨f,kvs,rfl,.inr ⟨cu,e7⟩,λod bs c0=>?_⟩;have e8:=G9 c0;have ad:∀(i:Nat) (b:Vb),bs[i]?=Vn b->∃z,qs[i]?=Vn z/\aw B b z:=λi b hb=>by
  obtain⟨kv,d,r⟩:=cn c0 hb;obtain⟨z,A,c1⟩:=cn pk d;refine⟨z,A,?_⟩;rw[c1.1]at r;have r:upd B wt (.dT []) b=Vn (.tup [.int z.1,.int z.2]):=r;have nb:b≠wt:=λe=>by rw[e,aE]at r;cases r
  rw[aA nb]at r;exact r
 clear c0;have N:∀{od:Obj} xs,(HO.frz od (.dT kvs))≠.tup xs:=λxs z=>by cases z
 have k0:Kx f B (upd (upd B wt (.dT [])) f (.frz od (.dT kvs))):=λb o nb z=>by rw[aA nb,aA (λe=>by rw[e,ac]at z;cases z)];exact z
 have f0:upd (upd B wt (.dT [])) f (.frz od (.dT kvs)) f=Vn (.frz od (.dT kvs)):=aE;have w0:upd (upd B wt (.dT [])) f (.frz od (.dT kvs)) wt=Vn (.dT []):=by rw[aA b0.symm,aE]
 generalize upd (upd B wt (.dT [])) f (.frz od (.dT kvs))=B1 at k0 f0 w0 ⊢;have cv:∀z∈qs,∀H',Kx f B H'->∃l as,aX kvs (aK z)=Vn (.ref l)/\H' l=Vn (.lst (A0 V.ref as))/\Paired (eh H') as (aW ws z)/\B l≠Vo:=λz X H' kx=>by
  obtain⟨v,hv,d⟩:=eZ (key:=λz:Bfs.Pl=>z) (λ_ _ z=>z.1) pk (by simpa using G) X;have d0:v≠.ref f:=by obtain⟨kv,d1,d2⟩:=xq hv;exact d2 ▸ nk kv d1
  have hB:=d.kx kxB hf eC d0;obtain⟨_,l,as,e,h1,h2⟩:=id hB;have h3:=hB.kx kx I N d0;obtain⟨_,l',p,e',ea,eb⟩:=h3;cases e;cases e';exact⟨l,p,hv,ea,eb,by rw[h1];intro z;cases z⟩
 refine pR (λi σ H'=>∃k1,σ=[Vn (.ref f),Vn (.ref g),Vn (.ref wt),k1,Vo,Vo,Vo]/\Kx f B H'/\H' f=Vn (.frz od (.dT kvs))/\∃kw,H' wt=Vn (.dT kw)/\kw.length<=i/\∀j z,j<i->qs[j]?=Vn z->aX kw (aK z)=Vn (.int ((aW ws z).length:Nat))) ⟨_,rfl,k0,f0,[],w0,Gn _,λj z h=>absurd h (Ha _)⟩ (λi σ H' h=>by obtain⟨_,_,_,h,_⟩:=h;exact h) ?_ ?_
 .rintro i b σ H2 hb ⟨k1,rfl,kx,J,kw,b1,b4,d⟩;obtain⟨z,A,O⟩:=ad i b hb;have d3:aw H2 b z:=kx.pl I N O;have ez:=(F9.mp A).1;obtain⟨l,as,hv,ec,ed,_⟩:=cv z (Ga A) H2 kx;walk_at"";refine⟨f,.ref l,rfl,.inr ⟨kvs,aK z,b,.inr ⟨od,J⟩,rfl,d3,hv.symm⟩,?_⟩;walk_at"";refine dM (af.of ec) ?_;walk_at"";refine⟨wt,_,rfl,dz.t b1 (k:=aK z) d3 (dC (by lia)),?_⟩;rw[F1,G9 ed];refine⟨_,rfl,kx.put ac,by rw[aA b0];exact J,_,aE,GC (kH _ _ _) (by lia),λj u hj hu=>?_⟩;rw[gw];by_cases e:j=i
  .subst e;rw[A]at hu;cases hu;rw[G5 rfl]
  .rw[G0 (λh=>?_)]
   .exact d j u (by lia) hu
   .have:=jx h;rw[this]at hu;exact e ((Ij (F9.mp hu).1 G).mp (hu.trans A.symm))
 rintro σ H2 ⟨k1,rfl,c2,J,kw,b1,b4,d⟩;rw[e8,bv]at b4 d;have c3:WD H2 wt qs (λz=>(aW ws z).length):=⟨kw,b1,by lia,λz A=>by obtain⟨j,hj⟩:=GR A;exact d j z (F9.mp hj).1 hj⟩
 clear b4 d k0 f0 w0 b1;walk_at"";refine λkn ai=>?_;walk_at"";have d4:wt≠kn:=λe=>by obtain⟨_,h,_⟩:=c3;rw[e,ai]at h;cases h
 have b5:f≠kn:=λe=>by rw[e,ai]at J;cases J
 have b7:B kn=Vo:=by
  cases w:B kn with
  | none=>rfl
  | some o=>rw[c2 _ _ b5.symm w]at ai;cases ai
 have c4:upd H2 kn (.dT []) f=Vn (.frz od (.dT kvs)):=by rw[aA b5];exact J
 refine⟨f,kvs,rfl,.inr ⟨od,c4⟩,λY ef aj=>?_⟩;have bu:=G9 aj;have Z:KH kvs qs B (upd (upd H2 kn (.dT [])) f (.frz Y (.dT kvs))) f wt kn (λz=>(aW ws z).length) []:=by refine⟨λb o nb z=>by rw[aA nb,aA (λe=>by rw[e,b7]at z;cases z)];exact c2 b o nb z,⟨Y,aE⟩,ac,b7,?_,⟨[],by rw[aA b5.symm,aE],.nil⟩,d4⟩;obtain⟨kw,h1,h2⟩:=c3;exact⟨kw,by rw[aA b0.symm,aA d4];exact h1,h2⟩
 have ak:∀(i:Nat) (b:Vb),ef[i]?=Vn b->∃z,qs[i]?=Vn z/\aw (upd (upd H2 kn (.dT [])) f (.frz Y (.dT kvs))) b z:=λi b hb=>by obtain⟨kv,d,r⟩:=cn aj hb;obtain⟨z,A,c1⟩:=cn pk d;refine⟨z,A,?_⟩;rw[c1.1]at r;exact aw.put c4 N r
 have b8:upd (upd H2 kn (.dT [])) f (.frz Y (.dT kvs)) f=Vn (.frz Y (.dT kvs)):=aE;generalize upd (upd H2 kn (.dT [])) f (.frz Y (.dT kvs))=H3 at Z ak b8 ⊢;clear aj c3 J c4 ai c2 ad;refine BK (λi ys H'=>H'=H3/\∃as,ys=A0 V.ref as/\Paired (aw H3) as ((qs.take i).filter λz=>decide ((aW ws z).length=0))) (by rw[bu,bv];exact GC ct (by decide)) ⟨rfl,[],rfl,.nil⟩ (λi ys H' h=>by obtain⟨rfl,as,rfl,has⟩:=h;refine⟨b8,?_⟩;rw[F1,ck has];exact GC (HJ _ _) (by rw[GU];lia)) ?_ ?_
 .rintro i b ys H4 hb ⟨rfl,as,rfl,has⟩;obtain⟨z,A,O⟩:=ak i b hb;obtain⟨kw,eg,_,c5⟩:=Z.wd;have c9:(qs.take (i+1)).filter (λz=>decide ((aW ws z).length=0))=(qs.take i).filter (λz=>decide ((aW ws z).length=0))++if decide ((aW ws z).length=0)then[z]else[]:=by rw[G7,A,Hc];congr 1;show IJ _ [z]=_;rw[He];rfl
  walk_at"";refine⟨wt,_,rfl,by have:=bC.t eg (k:=aK z) O;rw[c5 z (Ga A)]at this;exact this,?_⟩;walk_at"";rw[c9];by_cases e:(aW ws z).length=0
  .rw[GZ (show(((aW ws z).length:Nat):Int)=0 by lia),GZ e];refine aI ?_;walk_at"";exact⟨rfl,as++[b],by rw[Gj];rfl,gq has O⟩
  .rw[GY (show ¬(((aW ws z).length:Nat):Int)=0 by lia),GY e];refine aC ⟨rfl,as,rfl,?_⟩;rw[G0 Gi,HW];exact has
 rintro ys H4 rw ⟨rfl,as,rfl,has⟩ a0;rw[bu,bv,Gx]at has;have e5:=bh (o:=.lst (A0 V.ref as)) a0;have d5:=Z.ext e5;have d6:B rw=Vo:=by
  cases w:B rw with
  | none=>rfl
  | some o=>
   by_cases e:rw=f
   .rw[e,b8]at a0;cases a0
   .rw[Z.kx _ _ e w]at a0;cases a0
 have ei:=KhS.start (ws:=ws) G (W:=λz=>(aW ws z).length) λz _=>rfl;have d7:upd H4 rw (.lst (A0 V.ref as)) rw=Vn (.lst (A0 V.ref as)):=aE;have d8:=bt (λa x h=>e5 _ _ h) has;generalize upd H4 rw (.lst (A0 V.ref as))=H5 at d5 d7 d8 ⊢;clear e5 Z ak b8 has a0;walk_at"";refine fF (λM σ H'=>∃Kn R W k1 k2,KH kvs qs B H' f wt kn W Kn/\KhS ws qs Kn R W/\(∃as,H' rw=Vn (.lst (A0 V.ref as))/\Paired (aw H') as R)/\M=24013-Kn.length/\σ=[Vn (.ref f),Vn (.ref g),Vn (.ref wt),k1,Vn (.ref kn),Vn (.ref rw),k2]) (λσ H'=>∃Kn W k1 k2,KH kvs qs B H' f wt kn W Kn/\KhS ws qs Kn [] W/\σ=[Vn (.ref f),Vn (.ref g),Vn (.ref wt),k1,Vn (.ref kn),Vn (.ref rw),k2]) _ ⟨[],_,_,_,_,d5,ei,⟨as,d7,d8⟩,rfl,rfl⟩ ?_ ?_
 .rintro M σ H6 ⟨Kn,R,W,k1,k2,Z,ks,⟨as,C,pr⟩,rfl,rfl⟩;have d9:=ck pr;have da:(Kn.map (·.1)).Nodup:=(HP.mp ks.nd).1;have f1:Kn.length<=24012:=by have:=sub_len da λz A=>ks.inq z (GN _ A);rw[F1]at this;lia
  walk_at"";by_cases hR:R=[]
  .subst hR;have:as=[]:=by cases as with|nil=>rfl|cons a b=>cases d9
   subst this;refine⟨false,.inl ⟨_,af.of C,rfl⟩,?_⟩;refine aC ?_;exact⟨Kn,W,_,_,Z,ks,rfl⟩
  obtain⟨R',z,rfl⟩:∃R' z,R=R'++[z]:=⟨R.dropLast,R.getLast hR,(KZ hR).symm⟩;obtain⟨p,b,rfl,db,ad⟩:=sA pr;refine⟨true,.inl ⟨_,af.of C,by simp⟩,?_⟩;refine aI ?_;refine⟨λdc H'=>∃a6 ba s k1 k2,KH kvs qs B H' f wt kn s a6/\KhS ws qs a6 ba s/\(∃as,H' rw=some (.lst (A0 V.ref as))/\Paired (aw H') as ba)/\a6.length=Kn.length+1/\dc=[some (.ref f),some (.ref g),some (.ref wt),k1,some (.ref kn),some (.ref rw),k2],λdc H' ⟨a6,ba,s,k1,k2,a1,a2,a3,a4,a5⟩=>⟨24013-a6.length,by lia,a6,ba,s,k1,k2,a1,a2,a3,rfl,a5⟩,?_⟩;have X:z∈qs:=ks.inq z (by simp);have dd:z∉Kn.map (·.1):=λw=>(HP.mp ks.nd).2.2 z w z (by simp) rfl;have dg:∀y,aS ws z y->y∈Kn.map (·.1):=vR.mp (by rw[<-ks.w z X];exact(ks.z0 z X).mpr (by simp));walk_at"";refine⟨cH (af.of C),?_⟩;walk_at"";refine⟨rw,_,.ref b,rfl,rfl,C,by rw[Gj,Gk,MR,HN,Kt,Gs (Gn _),LU];rfl,?_⟩;rw[show (A0 V.ref (p++[b])).dropLast=A0 V.ref p by rw[Gj];exact L6];have a9:=Z.put (u':=.lst (A0 V.ref p)) C d6;have bb:aw (upd H6 rw (.lst (A0 V.ref p))) b z:=aw.put C fb ad;have ca:upd H6 rw (.lst (A0 V.ref p)) rw=some (.lst (A0 V.ref p)):=aE;have cd:=bt (λa x h=>aw.put (o':=.lst (A0 V.ref p)) C fb h) db;generalize upd H6 rw (.lst (A0 V.ref p))=H7 at a9 bb ca cd;clear Z C pr db ad d9;obtain⟨l,cs,hv,ce,cf,_⟩:=cv z X H7 a9.kx;obtain⟨ej,dk⟩:=a9.fz;have ew:(aW ws z).length<=100:=GC mr bm;have dl:=G9 cf;walk_at"";refine⟨f,.ref l,rfl,.inr ⟨kvs,aK z,b,.inr ⟨ej,dk⟩,rfl,bb,hv.symm⟩,?_⟩;refine bX (af.of ce) ?_;refine dP (xs:=A0 V.ref cs) (λi ys H'=>H'=H7/\ys=(((aW ws z).take i).map λe=>((fI Kn e.2+1:Nat):Int)).map V.int) (bU (by rw[F1];lia)) ⟨rfl,rfl⟩ (λi ys H' _ h=>by obtain⟨rfl,rfl⟩:=h;refine⟨af.of ce,?_⟩;rw[F1,F1,GU];lia) ?_ ?_
  .rintro i u ys H8 hu ⟨rfl,rfl⟩;rw[F3]at hu;obtain⟨a,ha,rfl⟩:=Ge.mp hu;obtain⟨⟨k,y⟩,hy,b2,hab,ek⟩:=cn cf ha;have el:=dg y (fQ.mp ⟨k,Ga hy⟩);obtain⟨kk,em,d⟩:=a9.kd.val da (n5 el);walk_at"";refine dZ (ax.of hab) rfl ?_;walk_at"";refine aI ?_;walk_at"";refine⟨kn,_,rfl,by have:=bC.t em (k:=aK y) ek;rw[d]at this;exact this,?_⟩;walk_at"";refine⟨rfl,?_⟩;rw[G7,hy,Gj,Gj];rfl
  rintro ys H8 p8 ⟨rfl,rfl⟩ dp;rw[F1,dl,Gx];have e9:=bh (o:=.lst (((aW ws z).map λe=>((fI Kn e.2+1:Nat):Int)).map V.int)) dp;have ch:upd H8 p8 (.lst (((aW ws z).map λe=>((fI Kn e.2+1:Nat):Int)).map V.int)) p8=Vn (.lst (((aW ws z).map λe=>((fI Kn e.2+1:Nat):Int)).map V.int)):=aE;have ci:=a9.ext e9;have bc:=e9 _ _ bb;have be:=e9 _ _ ca;have cl:=bt (λa x h=>e9 _ _ h) cd;generalize upd H8 p8 (.lst (((aW ws z).map λe=>((fI Kn e.2+1:Nat):Int)).map V.int))=H9 at ch ci bc be cl ⊢;clear e9 dp a9 bb ca cd ce cf dk hv;walk_at"";refine Ad (af.of ch) λM hM=>?_;obtain⟨n,rfl,en⟩:=Ej dg ks.lw hM;obtain⟨kk,am,b4,ab⟩:=ci.kput dd;have ab:=ab n;walk_at"";refine⟨kn,_,rfl,dz.t am (k:=aK z) bc (dC (by lia)),?_⟩;have dr:aw (upd H9 kn (.dT (putK kk (aK z) (.int (n:Nat))))) b z:=aw.put am eC bc;have ds:upd H9 kn (.dT (putK kk (aK z) (.int (n:Nat)))) rw=Vn (.lst (A0 V.ref p)):=by rw[aA (bA be am (by intro z;cases z))];exact be
  have dt:=bt (λa x h=>aw.put (o':=.dT (putK kk (aK z) (.int (n:Nat)))) am eC h) cl;generalize upd H9 kn (.dT (putK kk (aK z) (.int (n:Nat))))=HA at ab dr ds dt ⊢;clear ci bc be cl ch am hM;obtain⟨⟨z',a'⟩,du,e⟩:=G6.mp (show z∈zas.map (·.1) by rw[bn];exact X);have e:z'=z:=e;subst e;obtain⟨kg,co,ep⟩:=ah.val e6 du;obtain⟨la,S,dx⟩:=ah.it _ du;have eq:g≠f:=λe=>by rw[e,I]at co;cases co
  have e0:a'≠f:=λe=>by rw[e,I]at S;cases S
  have e1:=ck dx;walk_at"";refine⟨g,.ref a',rfl,by have:=bC.t (ab.kx _ _ eq co) (k:=aK z') dr;rw[ep]at this;exact this,?_⟩;refine bX (af.of (ab.kx _ _ e0 S)) ?_;refine forL (xs:=A0 V.ref la) (λj σ H'=>∃s new k2,KH kvs qs B H' f wt kn s (Kn++[(z',n)])/\KhI qs (bR ws qs z') W s new j/\(∃as,H' rw=Vn (.lst (A0 V.ref as))/\Paired (aw H') as (R'++new))/\σ=[Vn (.ref f),Vn (.ref g),Vn (.ref wt),Vn (.ref b),Vn (.ref kn),Vn (.ref rw),k2]) ⟨W,[],_,ab,⟨λu _=>by rw[List.take_zero,Ku];rfl,λu=>by simp,IF⟩,⟨p,ds,by rw[HW];exact dt⟩,rfl⟩ (λj σ H' _ h=>by obtain⟨_,_,_,h,_⟩:=h;exact af.of (h.kx _ _ e0 S)) ?_ ?_
  .rintro j u σ HB hu ⟨s,new,k2,bg,ki,⟨an,U,bi⟩,rfl⟩;rw[F3]at hu;obtain⟨c,hc,rfl⟩:=Ge.mp hu;obtain⟨y,hy,e2⟩:=cn dx hc;have cp:aw HB c y:=bg.kx.pl I N e2;have er:=kC (Ga hy);have e3:=KhI.pos (R':=[]) G ks dd ki hy;have bl:=ki.step hy e3;obtain⟨kw,ap,ex,c5,ar⟩:=bg.wput er;have ar:=ar (s y-1);have ey:=ck bi;walk_at"";refine⟨wt,_,rfl,by have:=bC.t ap (k:=aK y) cp;rw[c5]at this;exact this,?_⟩;walk_at"";rw[show ((s y:Nat):Int)-1=((s y-1:Nat):Int) by lia];refine⟨wt,_,rfl,dz.t ap (k:=aK y) cp (dC (by lia)),?_⟩;have au:aw (upd HB wt (.dT (putK kw (aK y) (.int ((s y-1:Nat):Int))))) c y:=aw.put ap eC cp;have e4:upd HB wt (.dT (putK kw (aK y) (.int ((s y-1:Nat):Int)))) wt=Vn (.dT (putK kw (aK y) (.int ((s y-1:Nat):Int)))):=aE;have L:upd HB wt (.dT (putK kw (aK y) (.int ((s y-1:Nat):Int)))) rw=Vn (.lst (A0 V.ref an)):=by rw[aA (bA U ap (by intro z;cases z))];exact U
   have cr:=bt (λa x h=>aw.put (o':=.dT (putK kw (aK y) (.int ((s y-1:Nat):Int)))) ap eC h) bi;generalize upd HB wt (.dT (putK kw (aK y) (.int ((s y-1:Nat):Int))))=HC at ar au e4 L cr ⊢;walk_at"";refine cE ?_;walk_at"";refine⟨wt,_,rfl,by have:=bC.t e4 (k:=aK y) au;rw[gw,G5 rfl]at this;exact this,?_⟩;walk_at"";by_cases h0:s y-1=0
   .rw[GZ (show((s y-1:Nat):Int)=0 by lia)];refine aI ?_;rw[G5 h0]at bl;have f2:(R'++new).length<=24012:=by
     have h1:(R'++new).Nodup:=by rw[HP];refine⟨((HP.mp (HP.mp ks.nd).2.1).1),ki.nd,λa ha c hc e=>?_⟩;subst e;obtain⟨h1,h2⟩:=(ki.nw a).mp hc;have aq:=kC (Jc h1);have h3:=ki.w a aq;have h4:=MS.mpr h1;have:=(ks.z0 a aq).mpr (GL _ (GN _ ha));lia
     have:=sub_len h1 (m:=qs) λa ha=>by
      rcases Gr.mp ha with w|w
      .exact ks.inq a (GL _ (GN _ w))
      .exact kC (Jc ((ki.nw a).mp w).1)
     lia
    walk_at"";refine⟨cH (af.of L),?_⟩;walk_at"";refine bV L (dC (by rw[F1];lia)) ?_;walk_at"";refine⟨_,_,_,ar.put L d6,bl,⟨an++[c],by rw[aE,Gj];rfl,?_⟩,rfl⟩;rw[<-Hu];exact gq (bt (λa x h=>aw.put L fb h) cr) (aw.put L fb au)
   .rw[GY (show ¬((s y-1:Nat):Int)=0 by lia)];refine aC ?_;rw[G0 h0]at bl;walk_at"";exact⟨_,_,_,ar,bl,⟨an,L,cr⟩,rfl⟩
  .rintro σ HB ⟨s,new,k2,bg,ki,⟨an,U,bi⟩,rfl⟩;rw[F1,e1]at ki;walk_at"";exact⟨_,_,_,_,_,bg,ks.done G en ki,⟨an,U,bi⟩,by rw[Gk];rfl,rfl⟩
 .rintro σ H' ⟨Kn,W,k1,k2,Z,ks,rfl⟩;walk_at"";obtain⟨es,ev⟩:=Z.fz;have nd:=ks.nd;have inq:=ks.inq;rw[HW]at nd inq;refine q kn es Kn H' (λb o nb z=>Z.kx b o nb (kxB b o nb z)) ev ?_ Z.kd nd (λe he=>⟨inq _ (G6.mpr ⟨e,he,rfl⟩),ks.lw e he⟩) λz A h=>ks.all A h;cases w:H kn with
  | none=>rfl
  | some o=>rw[kxB _ _ b5.symm w]at b7;cases b7
def E7(h:n<=xs.length):c6 xs (Vn (n:Int)) Vo=xs.drop n:=by unfold c6;rw[HT.mi,HT.qB,KY h];exact Js (by rw[JF];exact Gn _)
structure MD(H:Hp)(md:Vb)(ms:List Bfs.Pl):Prop where
 at_:∃kd,H md=Vn (.dT kd)/\kd.length<=ms.length/\(∀j z,ms[j]?=Vn z->aX kd (aK z)=Vn (.int (j:Nat)))/\∀z,z∉ms->aX kd (aK z)=Vo
def zx(ok:HOuse m ws)(h:(k,y)∈aW ws z)(a:y.2<=T):aM ws T z k=Vn y:=by obtain⟨j,c,e⟩:=G6.mp h;cases e;obtain⟨w,b,ho,e⟩:=pU c;rw[e]at a ⊢;exact xn b (ok.ok w (Ga b)).dd ho a
inductive xI(K:FX)(vs:List V)(H:Hp)(Q:VK)(E:XK):Prop|mk:∀f kn a od kvs qs m ws T Kn x,vs=[.ref f,.ref kn,.ref a]->H f=Vn (.frz od (.dT kvs))->Paired (cZ ws H) kvs qs->qs.Nodup->qs.length<=24012->HOuse m ws->(∀z∈qs,z.2<=T)->(∀z∈qs,∀y,aS ws z y->y∈qs)->KD H kn Kn->(Kn.map (·.1)).Nodup->(∀z∈qs,(∀y,aS ws z y->y∈Kn.map (·.1))->z∈Kn.map (·.1))->aw H a x->x∈qs->x∉Kn.map (·.1)->(∀t b c as bs y H',Ext H H'->H' t=Vn (.tup [.str "same",.ref b,.ref c])->H' b=Vn (.lst (a7 as))->H' c=Vn (.lst (a7 bs))->Bfs.gone (nx:=aM ws T) x as=Vn y->Bfs.gone (nx:=aM ws T) y bs=Vn y->0<bs.length->as.length+bs.length<=24012->Q (.ref t) H')->xI K vs H Q E
theorem E4(T:Bu w mg base):Cal P w K mg base "staying_part" 1 ["steps","known","place"] (xI K):=by
 refine(dw T.d_staying_part).oS ["steps","known","place","walk","met","here","unknown"] λhr nd H vs Q E h=>?_;obtain⟨f,kn,pa,od,kvs,qs,m,ws,TT,Kn,x,rfl,hf,pk,bg,bi,ok,hT,hcl,kd,bl,hall,hx,bm,bn,q⟩:=h;have aj:=ok.few;refine⟨_,(@av _ _ _ _ _ (@aG _ _ 3 _ _ _ _ nd rfl oi (@bF _ _ _ _ aa) rfl oi)
   (@av _ _ _ _ _ (@aG _ _ 4 _ _ _ _ nd rfl oi kX rfl oi)
   (@av _ _ _ _ _ (@aG _ _ 5 _ _ _ _ nd rfl oi (pv 2) rfl oi)
   (@av _ _ _ _ _ (fE B2 (g7 (iQ (bB hr) (pv 5) (pv 4)) (by with_unfolding_all rfl)) (@av _ _ _ _ _ (gE (bB hr) (pv 4) (pv 5) (bx (cL K) rfl T.len_ HR (ag (pv 3) aa rfl)) rfl)
   (@av _ _ _ _ _ (di (i:=6) ["step"] [1] nd rfl oi (bW K (c7 (bB hr) (pv 0) (pv 5) (λ_ _=>rfl))) (λ_=>(aN (i:=0) (show(["step","known"]:List Vm).Nodup from by decide +kernel) rfl oi oj)) (λ_=>(eJ (g7 (iQ (bB hr) (@ay _ _ _ _ _ _ _ (aD K) (pv 0) ae (λ_ _=>rfl)) (pv 1)) (by with_unfolding_all rfl)))) (λ_=>(pv 0)))
   (@av _ _ _ _ _ (br (bP K F8 Gp Gq bZ (pv 3) (ag (@ay _ _ _ _ _ _ _ (aD K) (@ay _ _ _ _ _ _ _ (aQ K) (pv 6) ae (λ_ _=>rfl)) ae (λ_ _=>rfl)) aa rfl)))
   (@az _ _ _ (@aG _ _ 5 _ _ _ _ nd rfl oi (@ay _ _ _ _ _ _ _ (aD K) (@ay _ _ _ _ _ _ _ (aQ K) (pv 6) ae (λ_ _=>rfl)) ae (λ_ _=>rfl)) rfl oi))))))
   (@az _ _ _ (@aL _ _ _ _ (@bz _ _ _ _ _ (ag bf (ag (ij (gW K) (pv 3) jb (fG (c7 (bB hr) (pv 4) (pv 5) (λ_ _=>rfl)))) (ag (ij (gW K) (pv 3) (fG (c7 (bB hr) (pv 4) (pv 5) (λ_ _=>rfl))) jb) aa rfl) rfl) rfl)))))))),?_⟩
 walk_at"";refine aO λwl H1 e1 ak bu=>?_;walk_at"";refine λmd R=>?_;walk_at"";have e2:Ext H (upd H1 md (.dT [])):=e1.trans (bh R);have bv:H md=Vo:=e1.none R;have a3:upd H1 md (.dT []) wl=Vn (.lst (a7 [])):=(bh R) _ _ ak;have a4:upd H1 md (.dT []) md=Vn (.dT []):=aE;generalize upd H1 md (.dT [])=H2 at e2 a3 a4 ⊢;refine fF (λM σ H'=>∃ms ks z b k1,Ext H H'/\H' wl=Vn (.lst (a7 ks))/\MD H' md ms/\ms.Nodup/\(∀u∈ms,u∈qs)/\ks.length=ms.length/\(∀j u,(ms++[z])[j]?=Vn u->Bfs.gone (nx:=aM ws TT) x (ks.take j)=Vn u)/\aw H' b z/\z∈qs/\z∉Kn.map (·.1)/\M=24013-ms.length/\σ=[Vn (.ref f),Vn (.ref kn),Vn (.ref pa),Vn (.ref wl),Vn (.ref md),Vn (.ref b),k1]) (λσ H'=>∃ms ks z b k1,Ext H H'/\H' wl=Vn (.lst (a7 ks))/\MD H' md ms/\(∀u∈ms,u∈qs)/\ms.length<=24012/\ks.length=ms.length/\(∀j u,(ms++[z])[j]?=Vn u->Bfs.gone (nx:=aM ws TT) x (ks.take j)=Vn u)/\aw H' b z/\z∈ms/\σ=[Vn (.ref f),Vn (.ref kn),Vn (.ref pa),Vn (.ref wl),Vn (.ref md),Vn (.ref b),k1]) _ ⟨[],[],x,pa,_,e2,a3,⟨[],a4,Gn _,λj z h=>(by cases h),λz _=>rfl⟩,IF,λu h=>(nomatch h),rfl,?_,e2 _ _ hx,bm,bn,rfl,rfl⟩ ?_ ?_
 .intro j u d;cases j with
  | zero=>cases d;rfl
  | succ j=>cases d
 .clear a3 a4 e2 ak e1 R;rintro M σ H3 ⟨ms,ks,z,b,k1,e3,g,N,am,S,B,C,n,U,c0,rfl,rfl⟩;have an:ms.length<=24012:=GC (sub_len am S) bi;obtain⟨F,p,Z,G,A⟩:=N.at_;walk_at"";refine⟨md,_,rfl,bC.t p (k:=aK z) n,?_⟩;by_cases s:z∈ms
  .obtain⟨j,d⟩:=GR s;rw[G j z d];refine rd_exb (aC ?_);exact⟨ms,ks,z,b,_,e3,g,N,S,an,B,C,n,s,rfl⟩
  rw[A z s];refine rd_exb (aI ?_);refine⟨λap H'=>∃m',m'<24013-ms.length/\∃ms ks z b k1,Ext H H'/\H' wl=Vn (.lst (a7 ks))/\MD H' md ms/\ms.Nodup/\(∀u∈ms,u∈qs)/\ks.length=ms.length/\(∀j u,(ms++[z])[j]?=Vn u->Bfs.gone (nx:=aM ws TT) x (ks.take j)=Vn u)/\aw H' b z/\z∈qs/\z∉Kn.map (·.1)/\m'=24013-ms.length/\ap=[Vn (.ref f),Vn (.ref kn),Vn (.ref pa),Vn (.ref wl),Vn (.ref md),Vn (.ref b),k1],λap H' h=>h,?_⟩;walk_at"";refine dM (af.of g) ?_;walk_at"";refine⟨md,_,rfl,dz.t p (k:=aK z) n (dC (by lia)),?_⟩;rw[F1,B];have e4:Ext H (upd H3 md (.dT (putK F (aK z) (.int (ms.length:Nat))))):=b6 e3 bv;have a5:MD (upd H3 md (.dT (putK F (aK z) (.int (ms.length:Nat))))) md (ms++[z]):=by
   refine⟨_,aE,GC (kH _ _ _) (by rw[Gk,HN];lia),λj u d=>?_,λu hu=>?_⟩
   .rw[gw];rcases GQ j ms.length with l|l
    .rw[Gu l]at d;rw[G0 (λe=>s (by rw[<-jx e];exact Ga d))];exact G j u d
    .rw[Gs l]at d;have:j-ms.length=0:=by have:=(F9.mp d).1;simpa using this
     rw[this]at d;cases d;rw[G5 rfl,show j=ms.length by lia]
   .rw[Gr,not_or,Gb]at hu;rw[gw,G0 (λe=>hu.2 (jx e))];exact A u hu.1
  have W:upd H3 md (.dT (putK F (aK z) (.int (ms.length:Nat)))) wl=Vn (.lst (a7 ks)):=by rw[aA (bA g p (by intro z;cases z))];exact g
  have a6:aw (upd H3 md (.dT (putK F (aK z) (.int (ms.length:Nat))))) b z:=aw.put p eC n;generalize upd H3 md (.dT (putK F (aK z) (.int (ms.length:Nat))))=H4 at e4 a5 W a6 ⊢;clear N p Z G A g n e3;obtain⟨v,hv,c1⟩:=eZ (key:=λz:Bfs.Pl=>z) (λ_ _ z=>z.1) pk (by simpa using bg) U;obtain⟨_,l,cs,ev,a9,ab⟩:=c1.ext e4;cases ev;have aq:=G9 ab;have ce:(aW ws z).length<=100:=GC mr aj;obtain⟨kk,c2,ar⟩:=id kd;walk_at"";refine⟨f,.ref l,rfl,.inr ⟨kvs,aK z,b,.inr ⟨od,e4 _ _ hf⟩,rfl,a6,hv.symm⟩,?_⟩;refine bX (af.of a9) ?_;refine dP (xs:=A0 V.ref cs) (λi ys H'=>H'=H4/\∃us,ys=A0 V.ref us/\Paired (eh H4) us (((aW ws z).take i).filter λe=>decide (e.2∉Kn.map (·.1)))) (bU (by rw[F1];lia)) ⟨rfl,[],rfl,.nil⟩ (λi ys H' _ h=>by obtain⟨rfl,us,rfl,r⟩:=h;refine⟨af.of a9,?_⟩;rw[F1,G9 r];exact GC (HJ _ _) (by rw[GU];lia)) ?_ ?_
  .rintro i u ys H5 hu ⟨rfl,us,rfl,r⟩;rw[F3]at hu;obtain⟨a,ha,rfl⟩:=Ge.mp hu;obtain⟨⟨k,y⟩,hy,b2,hab,I⟩:=cn ab ha;have ac:((aW ws z).take (i+1)).filter (λe=>decide (e.2∉Kn.map (·.1)))=((aW ws z).take i).filter (λe=>decide (e.2∉Kn.map (·.1)))++if decide (y∉Kn.map (·.1))then[(k,y)]else[]:=by rw[G7,hy,Hc];congr 1;show IJ _ [(k,y)]=_;rw[He];rfl
   rw[ac];walk_at"";refine aB (ax.of hab) (v:=.ref b2) rfl ?_;walk_at"";refine⟨kn,_,rfl,bC.t (e4 _ _ c2) (k:=aK y) I,?_⟩;by_cases J:y∈Kn.map (·.1)
   .obtain⟨e,he,rfl⟩:=G6.mp J;obtain⟨v1,c3,_⟩:=eZ (key:=λe:Bfs.Pl×Nat=>e.1) (λ_ _ z=>z.1) ar bl he;rw[c3,GY (λh=>h J)];refine rd_exb (aC ⟨rfl,us,rfl,?_⟩);rw[G0 Gi,HW];exact r
   .rw[fP (key:=λe:Bfs.Pl×Nat=>e.1) (λ_ _ z=>z.1) ar J,GZ J];refine rd_exb (aI ?_);walk_at"";refine⟨rfl,us++[a],by rw[Gj];rfl,?_⟩;rw[G5 rfl];exact IT r ⟨b2,hab,I⟩
  rintro ys H5 p5 ⟨rfl,us,rfl,r⟩ X;rw[F1,aq,Gx]at r;have c4:p5≠wl:=λe=>by rw[e,W]at X;cases X
  have e6:=bh (o:=.lst (A0 V.ref us)) X;have ad:upd H5 p5 (.lst (A0 V.ref us)) p5=Vn (.lst (A0 V.ref us)):=aE;have O:Paired (eh (upd H5 p5 (.lst (A0 V.ref us)))) us _:=Paired.mapP r λ_ _ z=>z.ext e6;have L:=e6 _ _ W;have as:=e4.trans e6;have au:MD (upd H5 p5 (.lst (A0 V.ref us))) md (ms++[z]):=by obtain⟨ah,h1,h2⟩:=a5.at_;exact⟨ah,e6 _ _ h1,h2⟩
  generalize upd H5 p5 (.lst (A0 V.ref us))=Y at ad O L as au ⊢;clear r X a9 ab a5 W a6 e4;obtain⟨⟨k,y⟩,rest,a0⟩:∃e rest,(aW ws z).filter (λe=>decide (e.2∉Kn.map (·.1)))=e::rest:=by
   cases hq:(aW ws z).filter (λe=>decide (e.2∉Kn.map (·.1)))with
   | cons e rest=>exact⟨e,rest,rfl⟩
   | nil=>
    refine absurd (hall z U λy hy=>?_) c0;obtain⟨k,hk⟩:=fQ.mpr hy;have:=JO.mp hq _ hk;simpa using this
  have ai:=G8.mp (show(k,y)∈(aW ws z).filter (λe=>decide (e.2∉Kn.map (·.1))) by rw[a0];exact F7);have J:y∉Kn.map (·.1):=of_decide_eq_true ai.2;have hys:aS ws z y:=fQ.mp ⟨k,ai.1⟩;have b0:=hcl z U y hys;rw[a0]at O;cases O with
  | @cons a _ c5 _ hab _=>
  obtain⟨b2,hab,I⟩:=hab;have I:aw Y b2 y:=I;walk_at"";refine⟨cH (af.of L),?_⟩;walk_at"";refine aR (af.of ad) (v:=.ref a) (eO (IU 0) rfl) ?_;walk_at"";refine aB (ax.of hab) (v:=.int (k:Nat)) rfl ?_;walk_at"";refine bV L (dC (by rw[F1];lia)) ?_;rw[<-j8];have b1:Ext H (upd Y wl (.lst (a7 (ks++[k])))):=b6 as bu;have b4:upd Y wl (.lst (a7 (ks++[k]))) p5=some (.lst (A0 V.ref (a::c5))):=by rw[aA c4];exact ad
  have a1:upd Y wl (.lst (a7 (ks++[k]))) a=Vn (.tup [.int (k:Nat),.ref b2]):=by rw[aA (bA hab L (by intro z;cases z))];exact hab
  have a2:aw (upd Y wl (.lst (a7 (ks++[k])))) b2 y:=aw.put L fb I;have b5:upd Y wl (.lst (a7 (ks++[k]))) wl=Vn (.lst (a7 (ks++[k]))):=aE;have b7:MD (upd Y wl (.lst (a7 (ks++[k])))) md (ms++[z]):=by obtain⟨ah,h1,h2⟩:=au.at_;exact⟨ah,by rw[aA (bA h1 L (by intro z;cases z))];exact h1,h2⟩
  generalize upd Y wl (.lst (a7 (ks++[k])))=H7 at b1 b4 a1 a2 b5 b7 ⊢;walk_at"";refine aR (af.of b4) (v:=.ref a) (eO (IU 0) rfl) ?_;walk_at"";refine aB (ax.of a1) (v:=.ref b2) rfl ?_;walk_at"";have b8:=C ms.length z (by rw[Gs (Gn _),LU];rfl);rw[<-B,Gx]at b8;refine⟨24013-(ms++[z]).length,by rw[Gk,HN];lia,ms++[z],ks++[k],y,b2,_,b1,b5,b7,?_,?_,by rw[Gk,Gk,B];rfl,λj u d=>?_,a2,b0,J,rfl,rfl⟩
  .rw[HP];refine⟨am,by simp,λa ha c hc e=>?_⟩;rw[Gb.mp hc]at e;exact s (e ▸ ha)
  .intro u hu;rcases Gr.mp hu with h|h
   .exact S u h
   .rw[Gb.mp h];exact U
  .rcases GQ j (ms++[z]).length with l|l
   .rw[Gu l]at d;rw[Gk,HN]at l;rw[List.take_append_of_le_length (by lia)];exact C j u d
   .rw[Gs l]at d;have h0:j-(ms++[z]).length=0:=by have:=(F9.mp d).1;simpa using this
    rw[h0]at d;cases d;rw[Gk,HN]at l h0;rw[Js (by rw[Gk,HN];lia)];exact Bfs.lr b8 (zx ok ai.1 (hT _ b0))
 .rintro σ H3 ⟨ms,ks,z,b,k1,e3,g,N,S,an,B,C,n,s,rfl⟩;obtain⟨F,p,Z,G,A⟩:=N.at_;obtain⟨j,d⟩:=GR s;have c9:=(F9.mp d).1;have ba:=C j z (by rw[Gu c9];exact d);have bb:=C ms.length z (by rw[Gs (Gn _),LU];rfl);rw[<-B,Gx]at bb;have ca:Bfs.gone (nx:=aM ws TT) z (ks.drop j)=some z:=by have:=mh (nx:=aM ws TT) (ks.take j) (ks.drop j) x;rw[Lj,ba,bb]at this;exact this.symm
  have dg:bC H3 md (.ref b) (Vn (.int (j:Nat))):=by have:=bC.t p (k:=aK z) n;rw[G j z d]at this;exact this
  walk_at"";refine⟨md,_,rfl,dg,?_⟩;walk_at"";refine gN (af.of g) (cA λl1 H5 e5 bc _=>?_);rw[uW (by rw[F1];lia),<-J9]at bc;have cd:bC H5 md (.ref b) (some (.int (j:Nat))):=by have:=bC.t (e5 _ _ p) (k:=aK z) (e5 _ _ n);rw[G j z d]at this;exact this
  walk_at"";refine⟨md,_,rfl,cd,?_⟩;walk_at"";refine gN (af.of (e5 _ _ g)) (cA λl2 Y e6 be _=>?_);rw[E7 (by rw[F1];lia),<-MG]at be;walk_at"";refine aO λt H7 e7 ht _=>?_;exact q t l1 l2 (ks.take j) (ks.drop j) z H7 (e3.trans (e5.trans (e6.trans e7))) ht ((e6.trans e7) _ _ bc) (e7 _ _ be) ba ca (by rw[JF];lia) (by rw[GU,JF];lia)
def A6(ok:HOuse m ws)(f:bO m x)(h:∀r,0<=r->r<m->¬aP ws x (r,x.2+m))(l:aP ws x y):bL m (x.2+m) y:=by
 have m1:=ok.m1;obtain⟨n,o⟩:=l;have key:∀(n:Nat) (a:Bfs.Pl),Bfs.Rw (aS ws) n x a->0<=a.1/\a.1<m/\0<=a.2/\a.2<x.2+m:=by
  intro n;induction n with
  | zero=>
   intro a ha;cases ha;exact⟨f.1,f.2.1,f.2.2.1,by omega⟩
  | succ n p=>
   intro a ha;cases ha with
   | @snoc _ _ u _ g hs=>
    obtain⟨_,_,q,v⟩:=p u g;obtain⟨i,j,s,w,_⟩:=fg ok.ok hs q;refine⟨i,j,s,?_⟩;by_cases e:a.2=x.2+m
    .exact absurd ⟨n+1,by have:=Bfs.Rw.snoc g hs;rwa [show a=(a.1,x.2+m)from IG rfl e]at this⟩ (h a.1 i j)
    .omega
 obtain⟨a,b,c,d⟩:=key n y o;exact⟨a,b,c,by omega⟩
def zp{f:Vb}(h:Kx f H H')(d:H f=Vn (.dT b))(p:Paired (cZ ws H) kvs qs)(c:∀kv∈kvs,kv.2≠.ref f):Paired (cZ ws H') kvs qs:=by
 induction p with
 | nil=>exact .nil
 | cons a _ e=>exact .cons (a.kx h d eC (c _ F7)) (e λkv g=>c kv (F4 _ g))
inductive yU(K:FX)(vs:List V)(H:Hp)(Q:VK)(E:XK):Prop|mk:∀c m ws d x,vs=[c,.ref d]->bq H c m ws->HOuse m ws->aw H d x->bO m x->dE K->Tbs K H->((∃r:Int,aP ws x (r,x.2+m))->∀t a b as bs H',Et H H'->Tbs K H'->H' t=Vn (.tup [.str "rises",.ref a,.ref b])->H' a=Vn (.lst (a7 as))->H' b=Vn (.lst (a7 bs))->ie m ws x as bs->Q (.ref t) H')->((∀r:Int,0<=r->r<m->¬aP ws x (r,x.2+m))->(∀n:Nat,Bfs.Lw (aS ws) x n->∀t H',Et H H'->Tbs K H'->H' t=Vn (.tup [.str "ends",.int (n:Nat)])->Q (.ref t) H')/\((∀n:Nat,¬Bfs.Lw (aS ws) x n)->∀t a b as bs y U H',Et H H'->Tbs K H'->H' t=Vn (.tup [.str "same",.ref a,.ref b])->H' a=Vn (.lst (a7 as))->H' b=Vn (.lst (a7 bs))->Bfs.gone (nx:=aM ws U) x as=Vn y->Bfs.gone (nx:=aM ws U) y bs=Vn y->0<bs.length->as.length+bs.length<=24012->Q (.ref t) H'))->yU K vs H Q E
theorem zO(T:Bu w mg base):Cal P w K mg base "fate" 12 ["house","place"] (yU K):=by
 refine(bK T.d_fate).oS ["house","place","told","steps","known"] λi nd H vs Q E h=>?_;obtain⟨vh,m,ws,u,x,rfl,hv,ok,A,ix,a0,a1,q1,q2⟩:=h;have m2:=ok.m12;refine⟨_,(@av _ _ _ _ _ (@aG _ _ 2 _ _ _ _ nd rfl oi (aF (wB T) i (ag (pv 0) (ag (pv 1) aa rfl) rfl)) rfl oi)
   (@av _ _ _ _ _ (@bH _ _ _ _ _ _ _ _ (aU bY (@ay _ _ _ _ _ _ _ (aD K) (pv 2) ae (λ_ _=>rfl)) bf (aT _)) (@az _ _ _ (@aL _ _ _ _ (pv 2))) a8)
   (@av _ _ _ _ _ (@aG _ _ 3 _ _ _ _ nd rfl oi (aF (CY T) i (ag (pv 0) (ag (pv 1) aa rfl) rfl)) rfl oi)
   (@av _ _ _ _ _ (@aG _ _ 4 _ _ _ _ nd rfl oi (aF (AQ T) i (ag (pv 3) aa rfl)) rfl oi)
   (@av _ _ _ _ _ (@bH _ _ _ _ _ _ _ _ (g7 (Cv (bB i) (pv 1) (pv 4)) (by with_unfolding_all rfl)) (@az _ _ _ (@aL _ _ _ _ (@bz _ _ _ _ _ (ag bf (ag (c7 (bB i) (pv 4) (pv 1) (λ_ _=>rfl)) aa rfl) rfl)))) a8)
   (@az _ _ _ (@aL _ _ _ _ (aF (E4 T) i (ag (pv 3) (ag (pv 4) (ag (pv 1) aa rfl) rfl) rfl))))))))),?_⟩
 walk_at"";refine⟨vh,m,ws,u,x,rfl,hv,ok,A,ix,a0,a1,λhex t l1 l2 as bs H1 B j Z h1 h2 F=>?_,λhno t l N r U ks H1 B j _ Z hl ab ac ad i=>?_⟩
 .walk_at"";refine aB (ax.of Z) (v:=.str "rises") rfl ?_;walk_at"";refine cy ?_;rw[GZ rfl];refine rd_exb (aI ?_);walk_at"";exact q1 hex t l1 l2 as bs H1 B j Z h1 h2 F
 .have hT:∀y,aP ws x y->bL m (x.2+m) y:=λy hy=>A6 ok ix hno hy;have a2:x.2+m<=2000:=by have:=ix.2.2.2;lia
  obtain⟨qe,a3⟩:=q2 hno;have a4:=hv.et B;have G:aw H1 u x:=aw.et B A;walk_at"";refine aB (ax.of Z) (v:=.str "most") rfl ?_;walk_at"";refine cy ?_;rw[GY (show ¬(GJ "most")=GJ "rises" by decide +kernel)];refine rd_exb (aC ?_);walk_at"";refine⟨vh,m,ws,u,x,x.2+m,rfl,a4,ok,G,a2,hT,λf kvs qs H2 e2 hfn I pk J L nk hqr=>?_⟩;have hcl:∀z∈qs,∀y,aS ws z y->y∈qs:=λz M y hy=>(hqr y).mpr (((hqr z).mp M).trans (.one hy));have O:x∈qs:=(hqr x).mpr .refl;walk_at"";refine⟨f,kvs,qs,ws,rfl,I,pk,J,L,ok.few,nk,hcl,λkn od Kn H3 kx a5 ah kd R hKn hall=>?_⟩;have e3:Ext H1 H3:=λb o hb=>kx b o (λz=>by rw[z,hfn]at hb;cases hb) (e2 _ _ hb);have p:aw H3 u x:=e3 _ _ G;have S:=B.trans e3.et;have W:=j.ext e3;have a6:Paired (cZ ws H3) kvs qs:=zp kx I pk nk;have hlw:∀n,Bfs.Lw (aS ws) x n->x∈Kn.map (·.1):=λn hn=>Bfs.Ct (C:=λz=>z∈qs) (Kn:=λz=>z∈Kn.map (·.1)) (λa c ha hs=>hcl a ha c hs) (λz M h=>hall z M h) n x O hn;obtain⟨kk,q,a9⟩:=id kd;walk_at"";refine⟨kn,_,rfl,bC.t q (k:=aK x) p,?_⟩;by_cases d:x∈Kn.map (·.1)
  .have hmem:=n5 d;obtain⟨ai,g,X⟩:=kd.val R hmem;rw[q]at g;cases g;rw[X];refine rd_exb (aI ?_);walk_at"";refine⟨kn,_,rfl,by have:=bC.t q (k:=aK x) p;rw[X]at this;exact this,?_⟩;walk_at"";refine aO λt4 H4 Y s _=>?_;exact qe _ (hKn _ hmem).2 t4 H4 (S.trans Y.et) (W.ext Y) s
  .rw[fP (key:=λe:Bfs.Pl×Nat=>e.1) (λ_ _ z=>z.1) a9 d];refine rd_exb (aC ?_);walk_at"";refine⟨f,kn,u,od,kvs,qs,m,ws,x.2+m,Kn,x,rfl,a5,a6,J,L,ok,λz M=>(hT z ((hqr z).mp M)).2.2.2,hcl,kd,R,hall,p,O,d,λt4 l1 l2 as bs y H4 Y s h1 h2 g1 g2 hb hl=>?_⟩;exact a3 (λn hn=>d (hlw n hn)) t4 l1 l2 as bs y _ H4 (S.trans Y.et) (W.ext Y) s h1 h2 g1 g2 hb hl
inductive oV(K:FX)(vs:List V)(H:Hp)(Q:VK)(E:XK):Prop|mk:∀v m ws a ga x g,vs=[v,.ref a,.ref ga]->bq H v m ws->HOuse m ws->aw H a x->aw H ga g->bO m x->bO m g->((∀n,¬Bfs.cF (aM ws (cc m x g)) x n g)->∀H',Ext H H'->Q .non H')->(∀n l H' ks,Bfs.cF (aM ws (cc m x g)) x n g->n<=24012->Ext H H'->H l=Vo->H' l=Vn (.lst (a7 ks))->ks.length=n->Bfs.gone (nx:=aM ws (cc m x g)) x ks=Vn g->Q (.ref l) H')->oV K vs H Q E
theorem wG(T:Bu w mg base):Cal P w K mg base "shortest" 7 ["house","place","goal"] (oV K):=by
 refine(dw T.d_shortest).oS ["house","place","goal"] λc nd H vs Q E h=>?_;obtain⟨v,m,ws,o,ga,x,g,rfl,p,ok,q,r,s,u,B,C⟩:=h;refine⟨_,(av (br (aF (lA T) c (ao (pv 0) aa)))
   (av (br (aF (uJ T) c (ao (pv 0) (ao (bF (ao (pv 1) (ao (pv 2) aa))) aa))))
   (az (aL (aF (og T) c (ao (pv 0) (ao (pv 1) (ao (pv 2) aa)))))))),?_⟩
 walk_at"";refine⟨v,m,ws,rfl,p,ok,λH1 F=>?_⟩;walk_at"";refine aO λl H2 G d _=>?_;walk_at"";have a:=F.trans G;obtain⟨z,t,rfl,A,I⟩:=p.ext a;refine⟨z,_,m,l,[o,ga],[x,g],rfl,A,d,.cons (a _ _ q) (.cons (a _ _ r) .nil),?_,?_⟩
 .intro y b;rcases Gh.mp b with rfl|b
  .exact s
  .rw[Gb]at b;subst b;exact u
 walk_at"";exact⟨_,m,ws,o,ga,x,g,rfl,⟨z,t,rfl,A,I⟩,ok,a _ _ q,a _ _ r,s,by have:=u.2.2.2;lia,λh H' e=>B h H' (a.trans e),λn l H' ks hd J e f d i j=>C n l H' ks hd J (a.trans e) (a.none f) d i j⟩
theorem Ce{x n:Int}(hs:1<=s)(h:i<fL x n s):x+i*s<n:=by
 unfold fL at h;rw[G5 (by lia)]at h;split at h
 .have h1:(i:Int)<=(n-x-1) / s:=by have:0<=(n-x-1) / s:=Iy (by lia) (by lia);omega
  have h2:(i:Int)*s<=(n-x-1) / s*s:=JJ h1 (by lia);have a:=Int.ediv_mul_le (n-x-1) (b:=s) (by lia);omega
 .omega
theorem AW{x n y:Int}(hs:1<=s)(h1:x<=y)(h2:y<n)(a:(y-x) % s=0):∃i,i<fL x n s/\y=x+i*s:=by
 have b:=J4 (y-x) s;have c:0<=(y-x) / s:=Iy (by lia) (by lia);refine⟨((y-x) / s).toNat,?_,?_⟩
 .unfold fL;rw[G5 (by lia),G5 (by lia)];have:(y-x) / s<=(n-x-1) / s:=Int.ediv_le_ediv (by lia) (by lia);lia
 .rw[Gg c,Int.mul_comm];lia
def kI(s:Int)(o a:List Int)(y:Nat):Bool:=o.contains (y:Int) || a.any λx=>decide (x<=(y:Int)) && ((y:Int)-x) % s == 0
theorem DS(S:Ok b s o a)(y):kI s o a y=fn b s o a y:=Bp S (by lia)
inductive wV(K:FX)(vs:List V)(H:Hp)(Q:VK)(E:XK):Prop|mk:∀v n b s o a,vs=[v,.int n]->bN H v b s o a->Gd b s o a->0<=n->n<=20000->(∀q H',Ext H H'->H q=Vo->H' q=Vn (.lst (aV n.toNat (fn b s o a)))->Q (.ref q) H')->wV K vs H Q E
theorem uD(T:Bu w mg base):Cal P w K mg base "marks_below" 1 ["stair","end"] (wV K):=by
 refine(bK T.d_marks_below).oS ["stair","end","marks","number","later"] λhr nd H vs Q E h=>?_;obtain⟨v,n,b,s',o,a,rfl,hv,s,a0,a1,q⟩:=h;obtain⟨p,q',r,rfl,h1,h2,Z⟩:=hv;have hs:=s.ok.hs;have a2:=s.s8;have a3:=s.ok.hb;have a4:=s.b3;refine⟨_,(av (aG (i:=2) nd rfl oi (aH ml (bF (ao b9 aa)) (pv 1)))
   (av (bJ B2 rfl (jH K (ay (aD K) (pv 0) ae (λ_ _=>rfl))) (aN (i:=3) nd rfl oi) (az (cK (aU fJ (pv 3) (pv 1) (aT _)) (az (gR b9 (iO (pv 2) (pv 3) set_list))) a8)))
   (av (bJ B2 rfl (jH K (ay (aD K) (pv 0) ae (λ_ _=>rfl))) (aN (i:=3) nd rfl oi) (az (bJ B2 rfl (zM rfl T.range_ (ao (pv 3) (ao (pv 1) (ao (ay (aD K) (pv 0) ae (λ_ _=>rfl)) aa)))) (aN (i:=4) nd rfl oi) (az (gR b9 (iO (pv 2) (pv 4) set_list))))))
   (az (aL (pv 2)))))),?_⟩
 walk_at"";refine aO λm H1 e1 hm _=>?_;walk_at"";refine mT hm (by lia) (bU (by simp;lia)) (cA λg H2 e2 B J=>?_);rw[o6]at B;have u:Ext H H2:=e1.trans e2;have A:H g=Vo:=e1.none J;walk_at"";refine aB (ax.of (u _ _ h1)) rfl ?_;walk_at"";refine jA (ax.of (u _ _ h2)) ?_;refine mE (xs:=o.map V.int) (λi σ H'=>Ext H H'/\∃x,σ=[Vn (.ref p),Vn (.int n),Vn (.ref g),x,Vo]/\H' g=Vn (.lst (aV n.toNat λy=>(o.take i).contains (y:Int))))
  ⟨u,Vo,rfl,by simpa using B⟩ (λi σ H' _ h=>ax.of (h.1 _ _ h2)) ?_ ?_
 .rintro i v' σ H' hi ⟨e,x,rfl,l⟩;obtain⟨z,rfl,C⟩:=oQ hi;have L:=(s.ok.ho.2 z (Ga C));have c:o.take (i+1)=o.take i++[z]:=by rw[G7,C];rfl
  walk_at"";refine gL (λM H'=>Ext H H'/\∃x,M=[Vn (.ref p),Vn (.int n),Vn (.ref g),x,Vo]/\H' g=Vn (.lst (aV n.toNat λy=>(o.take (i+1)).contains (y:Int)))) ?_ (λ_ _ h=>h);walk_at"";by_cases F:z<n
  .rw[GZ F];refine aI ?_;walk_at"";refine iI l (iB (by lia) (by rw[cz];lia)) ?_;rw[jU _ _ (by lia)];refine⟨b6 e A,_,rfl,?_⟩;rw[aE];congr 2;refine dm λy N=>?_;rw[c,L7];by_cases d:y=z.toNat
   .rw[G5 d];have:(y:Int)=z:=by lia
    rw[this];simp
   .rw[G0 d];have:[z].contains (y:Int)=false:=by rw[IY];intro O;rw[HZ,Gb]at O;lia
    rw[this,JR]
  .rw[GY F];refine aC ?_;walk_at"";refine⟨e,_,rfl,?_⟩;rw[l];congr 2;refine dm λy N=>?_;rw[c,L7];have:[z].contains (y:Int)=false:=by rw[IY];intro O;rw[HZ,Gb]at O;lia
   rw[this,JR]
 .rintro σ H3 ⟨R,x,rfl,G⟩;rw[F1,Gx]at G;walk_at"";refine aB (ax.of (R _ _ h1)) rfl ?_;walk_at"";refine jA (ax.of (R _ _ Z)) ?_;refine mE (xs:=a.map V.int) (λi σ H'=>Ext H H'/\∃x y,σ=[Vn (.ref p),Vn (.int n),Vn (.ref g),x,y]/\H' g=Vn (.lst (aV n.toNat (kI s' o (a.take i)))))
   ⟨R,_,_,rfl,by rw[G];congr 2;exact dm λy _=>by simp[kI]⟩ (λi σ H' _ h=>ax.of (h.1 _ _ Z)) ?_ ?_
  .rintro i v' σ H' hi ⟨e,x,y,rfl,l⟩;obtain⟨z,rfl,C⟩:=oQ hi;have L:=(s.ok.ha.2 z (Ga C));have c:a.take (i+1)=a.take i++[z]:=by rw[G7,C];rfl
   walk_at"";refine aB (ax.of (e _ _ h1)) rfl ?_;walk_at"";refine AV (by unfold jL;lia) ?_;refine ED (λj σ H'=>Ext H H'/\∃y,σ=[Vn (.ref p),Vn (.int n),Vn (.ref g),Vn (.int z),y]/\H' g=Vn (.lst (aV n.toNat λy=>kI s' o (a.take i) y || (GX j).any λk=>decide ((y:Int)=z+(k:Nat)*s'))))
    ⟨e,_,rfl,by rw[l];congr 2;exact dm λy _=>by simp⟩ ?_ ?_
   .rintro j σ S hj ⟨e',y',rfl,f⟩;have hlt:=Ce hs hj;have hge:0<=(j:Int)*s':=Gy (by lia) (by lia);walk_at"";refine iI f (iB (by lia) (by rw[cz];lia)) ?_;rw[jU _ _ (by lia)];refine⟨b6 e' A,_,rfl,?_⟩;rw[aE];congr 2;refine dm λy N=>?_;rw[JA,List.any_append];by_cases d:y=(z+(j:Int)*s').toNat
    .rw[G5 d];have:(y:Int)=z+(j:Nat)*s':=by lia
     simp[this]
    .rw[G0 d];have:(List.any [j] λk=>decide ((y:Int)=z+(k:Nat)*s'))=false:=by simp;lia
     rw[this,JR]
   .rintro σ S ⟨e',y',rfl,f⟩;refine⟨e',_,_,rfl,?_⟩;rw[f];congr 2;refine dm λy N=>?_;rw[c];unfold kI;rw[List.any_append,Bool.or_assoc];congr 2;rw[GH,GG];simp only[HK,decide_eq_true_eq,JS,List.any_nil,JR,GI,beq_iff_eq];constructor
    .rintro⟨k,hk,a5⟩;have hge:0<=(k:Int)*s':=Gy (by lia) (by lia);refine⟨by lia,?_⟩;rw[show (y:Int)-z=s'*(k:Int) by rw[Int.mul_comm];lia];exact Int.mul_emod_right _ _
    .rintro⟨U,W⟩;obtain⟨k,X,Y⟩:=AW (n:=n) hs U (by lia) W;exact⟨k,X,Y⟩
  .rintro σ H4 ⟨e4,x',y',rfl,I⟩;rw[F1,Gx]at I;walk_at"";refine q g H4 e4 A ?_;rw[I];congr 2;exact dm λy _=>DS s.ok y
inductive vP(K:FX)(vs:List V)(H:Hp)(Q:VK)(E:XK):Prop|mk:∀a b:Nat,vs=[.int a,.int b]->Q (.int (Iv a b:Nat)) H->vP K vs H Q E
theorem Bd(T:Bu w mg base):Cal P w K mg base "greatest_divisor" 1 ["one","other"] (vP K):=by
 refine(bK T.d_greatest_divisor).oS ["one","other","great","small","over"] λf nd H vs Q E h=>?_;obtain⟨a,b,rfl,q⟩:=h;refine⟨_,(av (aG (i:=2) nd rfl oi (pv 0))
   (av (aG (i:=3) nd rfl oi (pv 1))
   (av (fE B2 (aU fX (pv 3) ae (aT _)) (av (aG (i:=4) nd rfl oi (aH cY (pv 2) (pv 3)))
   (av (aG (i:=2) nd rfl oi (pv 3))
   (az (aG (i:=3) nd rfl oi (pv 4))))))
   (az (aL (pv 2)))))),?_⟩
 walk_at"";refine fF (λm σ H'=>H'=H/\∃(x y:Nat) (o:Option V),σ=[Vn (.int a),Vn (.int b),Vn (.int x),Vn (.int y),o]/\Iv x y=Iv a b/\m=y)
  (λσ H'=>H'=H/\∃(x:Nat) (s:St),σ=Vn (.int a)::Vn (.int b)::Vn (.int x)::s/\x=Iv a b) b ⟨rfl,a,b,Vo,rfl,rfl,rfl⟩ ?_ ?_
 .rintro m σ H' ⟨rfl,x,y,o,rfl,c,rfl⟩;walk_at"";by_cases d:0<(m:Int)
  .rw[GZ d];refine aI ⟨_,λ_ _ h=>h,?_⟩;walk_at"";refine⟨x % m,JC _ (by lia),rfl,m,x % m,_,rfl,by rw[zU,c],rfl⟩
  .rw[GY d];have e:m=0:=by lia
   subst e;exact aC ⟨rfl,x,_,rfl,by rw[<-c,Nat.gcd_zero_right]⟩
 rintro σ H' ⟨rfl,x,s1,rfl,rfl⟩;walk_at"";exact q
def SN(H:Hp)(v:V)(b s:Nat)(o a:List Int):Prop:=bN H v b s o a/\Gd b s o a
theorem SN.s1{b s:Nat}(h:SN H v b s o a):1<=s:=by have:=h.2.ok.hs;lia
theorem SN.s8{H:Hp}{v:V}{b s:Nat}{o a:List Int}(h:SN H v b s o a):s<=840:=by have:=h.2.s8;lia
theorem SN.b3{H:Hp}{v:V}{b s:Nat}{o a:List Int}(h:SN H v b s o a):b<=3000:=by have:=h.2.b3;lia
inductive yR(K:FX)(vs:List V)(H:Hp)(Q:VK)(E:XK):Prop|mk:∀a b c s1 o1 d e s2 f g,vs=[a,b]->SN H a c s1 o1 d->SN H b e s2 f g->Q (.int (cm s1 s2:Nat)) H->yR K vs H Q E
theorem tL(T:Bu w mg base):Cal P w K mg base "common_step" 2 ["one","other"] (yR K):=by
 refine(bK T.d_common_step).oS ["one","other"] λb nd H vs Q E h=>?_;obtain⟨d,f,g,s1,o1,i,j,s2,l,m,rfl,h1,h2,q⟩:=h;have a:=h1.s1;have n:=h1.s8;have p:=h2.s8;obtain⟨⟨p1,r,r1,rfl,k1,_,_⟩,_⟩:=h1;obtain⟨⟨p2,s,u,rfl,k2,_,_⟩,_⟩:=h2;refine⟨_,(az (aL (aH fC (aH nF (ay (aD K) (pv 0) ae (λ_ _=>rfl)) (aF (Bd T) b (ao (ay (aD K) (pv 0) ae (λ_ _=>rfl)) (ao (ay (aD K) (pv 1) ae (λ_ _=>rfl)) aa)))) (ay (aD K) (pv 1) ae (λ_ _=>rfl))))),?_⟩;walk_at"";refine aB (ax.of k1) rfl ?_;walk_at"";refine aB (ax.of k1) rfl ?_;walk_at"";refine aB (ax.of k2) rfl ?_;walk_at"";refine⟨s1,s2,rfl,?_⟩;have v:0<Iv s1 s2:=LH s2 a;have c:Iv s1 s2<=s1:=Jm a (J8 s1 s2);refine rd_I (show(0:Int)<((Iv s1 s2:Nat):Int)/\((Iv s1 s2:Nat):Int)<2 ^ 64 by lia) ?_;walk_at"";refine aB (ax.of k2) rfl ?_;refine rd_I (show kD _ _ from .inr (by lia)) ?_;have e:((s1:Int) / ((Iv s1 s2:Nat):Int))*(s2:Int)=((cm s1 s2:Nat):Int):=by unfold cm;rw[Int.natCast_mul];rfl
 rw[e];exact q
inductive yE(K:FX)(vs:List V)(H:Hp)(Q:VK)(E:XK):Prop|mk:∀a b c s1 o1 d e s2 f g,vs=[a,b]->SN H a c s1 o1 d->SN H b e s2 f g->cm s1 s2<=840->Q .non H->yE K vs H Q E
theorem Ag(T:Bu w mg base):Cal P w K mg base "refuse_bad_pair" 6 ["one","other"] (yE K):=by
 obtain⟨b,a⟩:=T.g_GREATEST_STEP;refine(bK T.d_refuse_bad_pair).oS ["one","other"] λc nd H vs Q E h=>?_;obtain⟨d,e,f,s1,o1,g,i,s2,j,l,rfl,h1,h2,m,q⟩:=h;refine⟨_,(av (br (aF (nJ T) c (ao (pv 0) aa)))
   (av (br (aF (nJ T) c (ao (pv 1) aa)))
   (av (br (aF (qo T) c (ao (pv 0) aa)))
   (av (br (aF (qo T) c (ao (pv 1) aa)))
   (az (bH (aU fX (aF (tL T) c (ao (pv 0) (ao (pv 1) aa))) (jz (v:=.int 840) rfl a ⟨_,rfl⟩) (aT _)) (az iZ) a8)))))),?_⟩
 walk_at"";refine⟨d,_,_,_,_,rfl,h1.1,h1.2.ok,?_⟩;walk_at"";refine⟨e,_,_,_,_,rfl,h2.1,h2.2.ok,?_⟩;walk_at"";refine⟨d,_,_,_,_,rfl,h1.1,h1.2.b3,h1.2.s8,?_⟩;walk_at"";refine⟨e,_,_,_,_,rfl,h2.1,h2.2.b3,h2.2.s8,?_⟩;walk_at"";refine⟨d,e,f,s1,o1,g,i,s2,j,l,rfl,h1,h2,?_⟩;walk_at"";rw[GY (show ¬(840:Int)<((cm s1 s2:Nat):Int) by lia)];exact aC q
inductive uO(K:FX)(vs:List V)(H:Hp)(Q:VK)(E:XK):Prop|mk:∀i j f g a s1 o1 c b s2 e h,vs=[i,j,.ref f]->SN H i a s1 o1 c->SN H j b s2 e h->cm s1 s2<=840->hV H f g->(∀v (l d:Nat) H',Ext H H'->Least (pairF g (fn a s1 o1 c) (fn b s2 e h)) d l->l<=max a b->d<=cm s1 s2->bN H' v l d (row (pairF g (fn a s1 o1 c) (fn b s2 e h)) 0 l) (row (pairF g (fn a s1 o1 c) (fn b s2 e h)) l d)->Q v H')->uO K vs H Q E
def yA{b s:Nat}(g:Gd b s o a):bj (fn b s o a) b s:=by have:=Fg g.ok;simpa using this
theorem Ex(T:Bu w mg base):Cal P w K mg base "chosen" 7 ["one","other","choice"] (uO K):=by
 refine(dw T.d_chosen).oS ["one","other","choice","base","end","marks"] λj nd H vs Q E h=>?_;obtain⟨L,M,F,g,a,s1,o1,m,b,s2,o,p,rfl,h1,h2,N,r,q⟩:=h;have x1:=h1.b3;have x2:=h2.b3;have O:=BN h1.s1 h2.s1;refine⟨_,(av (br (aF (Ag T) j (ao (pv 0) (ao (pv 1) aa))))
   (av (aG (i:=3) nd rfl oi (bx (yt rfl) rfl T.max_ IK (ao (ay (aD K) (pv 0) ae (λ_ _=>rfl)) (ao (ay (aD K) (pv 1) ae (λ_ _=>rfl)) aa))))
   (av (aG (i:=4) nd rfl oi (aH bp (pv 3) (aF (tL T) j (ao (pv 0) (ao (pv 1) aa)))))
   (av (di (i:=5) ["p","q"] [2] nd rfl oi (we K rfl T.zip_ (ao (aF (uD T) j (ao (pv 0) (ao (pv 4) aa))) (ao (aF (uD T) j (ao (pv 1) (ao (pv 4) aa))) aa))) (λ_=>(ee (n:=2) K rfl (bG (aN (i:=0) (show(["p","q","choice"]:List Vm).Nodup from by decide +kernel) rfl oi oj) (bG (aN (i:=1) (show(["p","q","choice"]:List Vm).Nodup from by decide +kernel) rfl oi oj) dY)))) (λ_=>dn) (λ_=>(An j (pv 2) (ao (pv 0) (ao (pv 1) aa)))))
   (az (aL (aF (uF T) j (ao (pv 5) (ao (pv 3) aa))))))))),?_⟩
 walk_at"";refine⟨L,M,a,s1,o1,m,b,s2,o,p,rfl,h1,h2,N,?_⟩;obtain⟨p1,q1,r1,rfl,k1,_,_⟩:=id h1.1;obtain⟨p2,q2,r2,rfl,k2,_,_⟩:=id h2.1;walk_at"";refine aB (ax.of k1) rfl ?_;walk_at"";refine aB (ax.of k2) rfl ?_;walk_at"";have em:(if(b:Int)>(a:Int)then(b:Int)else(a:Int))=((max a b:Nat):Int):=by split<;>lia
 rw[em];refine⟨_,_,a,s1,o1,m,b,s2,o,p,rfl,h1,h2,?_⟩;walk_at"";refine⟨_,((max a b:Nat):Int)+((cm s1 s2:Nat):Int),a,s1,o1,m,rfl,h1.1,h1.2,by lia,by lia,λm1 H1 y R s=>?_⟩;walk_at"";refine⟨_,((max a b:Nat):Int)+((cm s1 s2:Nat):Int),b,s2,o,p,rfl,h2.1.ext y,h2.2,by lia,by lia,λm2 H2 z S f=>?_⟩;have et:(((max a b:Nat):Int)+((cm s1 s2:Nat):Int)).toNat=max a b+cm s1 s2:=by lia
 rw[et]at s f;have c:=z _ _ s;walk_at"";refine rR (af.of c) (af.of f) ?_;refine ua (xs:=aV (max a b+cm s1 s2) (fn a s1 o1 m)) (ys:=aV (max a b+cm s1 s2) (fn b s2 o p)) (λi zs H'=>Ext H2 H'/\zs=aV i (pairF g (fn a s1 o1 m) (fn b s2 o p))) (bU (by rw[cz];lia)) ⟨Ext.rfl' H2,rfl⟩ ?_ ?_ ?_
 .rintro i zs H' ⟨e,rfl⟩;exact⟨af.of (e _ _ c),af.of (e _ _ f),by rw[cz];exact Gn _⟩
 .rintro i u v zs H' p4 H4 A G ⟨e,rfl⟩ I U W;have hi:i<max a b+cm s1 s2:=by
   have:=(F9.mp A).1
   rwa [cz]at this
  rw[gy _ hi]at A G;cases A;cases G;have x:=r.ext (y.trans (z.trans (e.trans I)));refine dZ (ax.of U) rfl ?_;walk_at"";refine aI ?_;walk_at"";refine⟨⟨F,g,rfl,x⟩,?_⟩;walk_at"";refine⟨F,g,_,_,rfl,rfl,x,e.trans I,?_⟩;rw[jG];rfl
 rintro zs H' J ⟨e,rfl⟩ B;rw[cz,cz,Nat.min_self];walk_at"";have X:Ext H' (upd H' J (.lst (aV (max a b+cm s1 s2) (pairF g (fn a s1 o1 m) (fn b s2 o p))))):=bh B;refine⟨J,max a b,cm s1 s2,_,rfl,O,by lia,aE,Fx (yA h1.2) (yA h2.2),λv l d Y Z hL hl hd C=>?_⟩;exact q v l d Y (y.trans (z.trans (e.trans (X.trans Z)))) hL hl hd C
def ia:Bool->Bool->Bool:=λx y=>x || y
def bN.et(e:Et H H')(h:bN H v b s o a):bN H' v b s o a:=by obtain⟨p,q,r,rfl,h1,h2,c⟩:=h;exact⟨p,q,r,rfl,e _ _ h1 (λps z=>by cases z),e _ _ h2 (λps z=>by cases z),e _ _ c (λps z=>by cases z)⟩
theorem SN.et{H H':Hp}(e:Et H H'){v:V}{b s:Nat}{o a:List Int}(h:SN H v b s o a):SN H' v b s o a:=⟨h.1.et e,h.2⟩
inductive m7(K:FX)(vs:List V)(H:Hp)(Q:VK)(E:XK):Prop|mk:∀g h a s1 o1 c b s2 e f,vs=[g,h]->SN H g a s1 o1 c->SN H h b s2 e f->cm s1 s2<=840->dE K->Tbs K H->(∀v (l d:Nat) H',Et H H'->Tbs K H'->Least (pairF ia (fn a s1 o1 c) (fn b s2 e f)) d l->l<=max a b->d<=cm s1 s2->bN H' v l d (row (pairF ia (fn a s1 o1 c) (fn b s2 e f)) 0 l) (row (pairF ia (fn a s1 o1 c) (fn b s2 e f)) l d)->Q v H')->m7 K vs H Q E
def FH(T:Bu w mg base):Cal P w K mg base "either" 8 ["one","other"] (m7 K):=by obtain⟨L,M,B⟩:=T.b_either;refine(bK T.d_either).oL B ["one","other"] λn nd H vs Q E h=>?_;obtain⟨o,p,r,s1,o1,s,u,s2,y,z,rfl,h1,h2,A,b,htab,q⟩:=h;refine⟨_,(az (aL (aF (Ex T) n (ao (pv 0) (ao (pv 1) (ao (Fi rfl rfl B.hd B.blt B.gl (by decide +kernel) rfl rfl) aa)))))),?_⟩;walk_at"";refine D0 htab.either B.tin λC c' H1 c e f F g=>?_;have G:Tbs K H1:=⟨e,f "kept" _ _ _ (λj m a=>b "either" (by simp) "kept" (by simp) (by decide +kernel) _ _ _ _ B.tin a) htab.kept,f "low_levels" _ _ _ (λj m a=>b "either" (by simp) "low_levels" (by simp) (by decide +kernel) _ _ _ _ B.tin a) htab.low,f "risen" _ _ _ (λj m a=>b "either" (by simp) "risen" (by simp) (by decide +kernel) _ _ _ _ B.tin a) htab.risen⟩;walk_at"";refine⟨o,p,C,ia,r,s1,o1,s,u,s2,y,z,rfl,h1.et c,h2.et c,A,⟨c',_,_,_,_,F,g,.or,⟨⟨rfl,rfl,rfl,by decide +kernel,rfl,by decide +kernel,by decide +kernel⟩,rfl,rfl,λ_ _ _ _ _ _ _=>rfl⟩⟩,λv l d H2 a I J hd i=>?_⟩;exact q v l d H2 (c.trans a.et) (G.ext a) I J hd i
theorem Fp(ok:HOuse m ws)(h:Bfs.gone (nx:=aM ws U) x ks=Vn g):aP ws x g:=by
 have key:∀j,j<=ks.length->aP ws x (aY (aM ws U) x ks j):=by
  intro j;induction j with
  | zero=>exact λ_=>⟨0,.nil⟩
  | succ j a=>exact λb=>(a (by lia)).trans (.one (mw ok.ok (jD h (F2 (by lia)))))
 have:=(iw h ks.length).1;rw[Gx,h]at this;rw[GK this];exact key _ (Gn _)
theorem zF(ok:HOuse m ws)(h:Bfs.gone (nx:=aM ws U) y bs=Vn z)(i:∀k∈bs,∀w,ws[k]?=Vn w->w.deed≠"zero"){c:Int}(p:0<=c):aP ws (y.1,y.2+c) (z.1,z.2+c):=by
 have key:∀j,j<=bs.length->aP ws (y.1,y.2+c) ((aY (aM ws U) y bs j).1,(aY (aM ws U) y bs j).2+c):=by
  intro j;induction j with
  | zero=>exact λ_=>⟨0,.nil⟩
  | succ j l=>
   intro q;refine(l (by lia)).trans (.one ?_);have n:=F2 (show j<bs.length by lia);obtain⟨w,g,o,hs,ho,_⟩:=iJ (jD h n);have b:=Ga g;have d:=ok.ok w b;obtain⟨f,e⟩:=(pz d.dd).mp hs;refine⟨w,b,?_,IG ho (by show _+c=_+c+rz w.deed;lia)⟩;rw[<-o];refine iA rfl ?_;rcases f9 d.dd f with⟨a,_⟩|⟨a,_⟩|⟨a,r,_⟩|⟨a,_,_⟩
   .exact .inl a
   .exact .inr (.inl a)
   .exact .inr (.inr (.inl ⟨a,by show 0<(aY (aM ws U) y bs j).2+c;lia⟩))
   .exact absurd a (i _ (Gv _) w g)
 have:=(iw h bs.length).1;rw[Gx,h]at this;rw[GK this];exact key _ (Gn _)
theorem ie.far(ok:HOuse m ws){as bs:List Nat}(h:ie m ws x as bs):∃r,∀B:Nat,∃i,(B:Int)<=i/\aP ws x (r,i):=by
 obtain⟨U,y,z,b,c,a,hlt,_,hge,d,_⟩:=h;refine⟨y.1,λB=>?_⟩;have key:∀k:Nat,aP ws x (y.1,y.2+(k:Int)*(z.2-y.2)):=by
  intro k;induction k with
  | zero=>
   rw[show y.2+((0:Nat):Int)*(z.2-y.2)=y.2 by simp];exact Fp ok b
  | succ k e=>
   have f:0<=(k:Int)*(z.2-y.2):=Gy (by lia) (by lia);have:=e.trans (zF ok c d f);rw[a]at this;rw[show y.2+((k+1:Nat):Int)*(z.2-y.2)=z.2+(k:Int)*(z.2-y.2) by rw[Int.natCast_add,Mi];lia];exact this
 obtain⟨j,g⟩:∃j:Nat,-y.2<=(j:Int):=⟨(-y.2).toNat,by lia⟩;refine⟨_,?_,key (B+j)⟩;have:((B+j:Nat):Int)*1<=((B+j:Nat):Int)*(z.2-y.2):=KP (by lia) (by lia);lia
def fR(ws:List Way)(x:Bfs.Pl)(r:Int):Nat->Bool:=λi=>@decide (aP ws x (r,(i:Int))) (IW _)
def mS:fR ws x r i=true↔aP ws x (r,(i:Int)):=@decide_eq_true_iff _ (IW _)
def dS(b s:Int)(o a:List Int):PyData:=.tuple [.int b,.int s,.tuple (o.map PyData.int),.tuple (a.map PyData.int)]
def yB{xs:List Int}(h:H q=Vn (.tup (xs.map V.int))):bo H 1 (.ref q) (.tuple (xs.map PyData.int)):=
 .inr ⟨q,_,_,rfl,.inl ⟨h,rfl⟩,oY (λi=>(rfl:i=i)) _⟩
def bN.rep(h:bN H v b s o a):bo H 2 v (dS b s o a):=by obtain⟨p,q,r,rfl,h1,h2,c⟩:=h;exact .inr ⟨p,_,_,rfl,.inl ⟨h1,rfl⟩,.cons (.inl (rfl:b=b)) (.cons (.inl (rfl:s=s)) (.cons (yB h2) (.cons (yB c) .nil)))⟩
def dF(F:Nat->Bool):PyData:=@dite _ (∃p:Nat×Nat,Least F p.2 p.1) (IW _) (λh=>dS h.choose.1 h.choose.2 (row F 0 h.choose.1) (row F h.choose.1 h.choose.2)) (λ_=>.int 0)
def xa(h:Least F d l):dF F=dS l d (row F 0 l) (row F l d):=by have a:∃p:Nat×Nat,Least F p.2 p.1:=⟨(l,d),h⟩;unfold dF;rw[dif_pos a];obtain⟨b,c⟩:=a.choose_spec.one h;rw[b,c]
theorem oZ{R:V->PyData->Prop}{g:Nat->PyData}:∀(xs:List V) (k:Nat),(∀i v,xs[i]?=Vn v->R v (g (k+i)))->Paired R xs ((K1 k xs.length).map g)
 | [],_,_=>.nil
 | v::xs,k,h=>by refine .cons (h 0 v rfl) (oZ xs (k+1) λi u a=>?_);have:=h (i+1) u a;rw[show k+(i+1)=k+1+i by lia]at this;exact this
theorem fB.rep{H:Hp}{xs:List V}{m:Int}{ws:List Way}{x:Bfs.Pl}{l:Vb}(h:fB H xs m ws x)(c:H l=Vn (.lst xs)):bo H 3 (.ref l) (.list ((K1 0 m.toNat).map λr:Nat=>dF (fR ws x (r:Int)))):=by
 have e:xs.length=m.toNat:=by have:=h.1;lia
 rw[<-e];refine .inr ⟨l,_,_,rfl,.inr ⟨c,rfl⟩,oZ xs 0 λi v f=>?_⟩;obtain⟨F,b,d,a,g,_,_,j⟩:=h.2 i v f;have n:F=fR ws x (i:Int):=funext λk=>by rw[GH,j k,mS]
 subst n;rw[IQ,xa g];exact a.rep
theorem fB.et{H H':Hp}(e:Et H H'){vs:List V}{m:Int}{ws:List Way}{x:Bfs.Pl}(h:fB H vs m ws x):fB H' vs m ws x:=⟨h.1,λr v a=>by obtain⟨F,l,d,h1,h2⟩:=h.2 r v a;exact⟨F,l,d,h1.et e,h2⟩⟩
def gC(e:Et H H'){l:Vb}(h:H l=Vn (.lst xs)):H' l=Vn (.lst xs):=e _ _ h (λ_ z=>by cases z)
theorem wg(h1:1<=d)(h2:l<=3000)(a:d<=840):Gd l d (row f 0 l) (row f l d):=⟨vx f l d h1,by lia,by lia⟩
def rW(h1:1<=d)(h:bj f l d):fn l d (row f 0 l) (row f l d)=f:=funext λx=>va h1 h x
def Bj{a b P:Nat}(c:1<=P)(h1:a ∣ P)(h2:b ∣ P):cm a b<=P:=by
 have e:cm a b=Nat.lcm a b:=by unfold cm Nat.lcm;rw[Hx a b,Nat.mul_div_assoc _ (J8 a b),Hx]
 rw[e];exact Jm c (Nat.lcm_dvd h1 h2)
def gM(k:Nat):Nat->Bool:=λx=>decide (x=k)
theorem DA(k):row (gM k) 0 (k+1)=[(k:Int)]/\row (gM k) (k+1) 1=[]:=by
 have a:row (gM k) 0 (k+1)=[(k:Int)]:=by
  have b:row (gM k) 0 k=[]:=by unfold row;rw[Kc,JO];intro i hi;have:=HK.mp hi;show ¬decide (0+i=k)=true;rw[decide_eq_true_iff];lia
  rw[FG,b,IQ];unfold row;simp[gM]
 have c:row (gM k) (k+1) 1=[]:=by unfold row;rw[Kc,JO];intro i hi;show ¬decide (k+1+i=k)=true;rw[decide_eq_true_iff];lia
 exact⟨a,c⟩
theorem Ft(k):Least (gM k) 1 (k+1) where
 pos:=Gn _
 per x hx:=by show decide (x+1=k)=decide (x=k);rw[GY (by lia),GY (by lia)]
 step _ _ h _:=h
 base b hb:=by refine HL λz=>?_;have h:decide (k+1=k)=decide (k=k):=hb k (by lia);rw[GZ rfl,GY (by lia)]at h;cases h
def EO:Least (λ_=>false) 1 0:=⟨Gn _,λ_ _=>rfl,λ_ _ h _=>h,λ_ _=>HM _⟩
theorem Aa(ok:HOuse m ws)(a:0<=x.2):∀{n} {y},Bfs.Rw (aS ws) n x y->0<=y.2/\y.2<=x.2+n:=by
 intro n;induction n with
 | zero=>intro y h;cases h;exact⟨a,by simp⟩
 | succ n b=>
  intro y h;cases h with
  | @snoc _ _ u _ c hs=>
   obtain⟨h1,h2⟩:=b c;obtain⟨_,_,d,e,_⟩:=fg ok.ok hs h1;exact⟨d,by lia⟩
def kP(ws:List Way)(x:Bfs.Pl):Prop:=∀B:Nat,∃y,aP ws x y/\(B:Int)<=y.2
def ie.unb(ok:HOuse m ws){as bs:List Nat}(h:ie m ws x as bs):kP ws x:=λB=>by obtain⟨r,a⟩:=h.far ok;obtain⟨i,hi,b⟩:=a B;exact⟨_,b,hi⟩
def zT(ok:HOuse m ws)(a:bO m x){as bs:List Nat}(h:ie m ws x as bs):∀n,¬Bfs.Lw (aS ws) x n:=λn c=>by obtain⟨r,d⟩:=h.far ok;obtain⟨i,hi,k,b⟩:=d ((x.2+n).toNat+1);have h1:=c.2 _ _ b;have h2:=(Aa ok a.2.2.1 b).2;omega
theorem A5(ok:HOuse m ws):∃P,1<=P/\P<=81/\∀{H} {xs} {x},fB H xs m ws x->bO m x->∀(r:Nat) v,xs[r]?=Vn v->∃l d:Nat,bN H v l d (row (fR ws x (r:Int)) 0 l) (row (fR ws x (r:Int)) l d)/\Least (fR ws x (r:Int)) d l/\d ∣ P/\l<=1288:=by
 have m1:=ok.m1;have m12:=ok.m12;have g:m.toNat<=12:=by lia
 obtain⟨P,a,b,w⟩:=Rnd.round (n:=m.toNat) (A:=bD ws m.toNat) (λi j h=>oh ok.ok h) g;have E:m.toNat*m.toNat<=12*12:=Jx g g;refine⟨P,a,b,λ{H xs x} h I r v z=>?_⟩;obtain⟨c,e,f,J⟩:=I;obtain⟨F,l,d,o,B,hd,_,p⟩:=h.2 r v z;have C:r<m.toNat:=by have:=(F9.mp z).1;have:=h.1;lia
 have per:bj F (x.2.toNat+288) P:=λy M=>by
  obtain⟨k,rfl⟩:∃k,y=x.2.toNat+k:=⟨y-x.2.toNat,by lia⟩;rw[GH,p,p,show x.2.toNat+k+P=x.2.toNat+(k+P) by lia,lJ ok.ok ⟨c,e,f⟩ _ r C,lJ ok.ok ⟨c,e,f⟩ _ r C];constructor
  .rintro⟨s,h1,h2,q⟩;exact⟨s,h1,h2,w s r (k+P) k h1 (by lia) (by lia) (JY k P) q⟩
  .rintro⟨s,h1,h2,q⟩;exact⟨s,h1,h2,w s r k (k+P) h1 (by lia) (by lia) (JY k P).symm q⟩
 obtain⟨u,N⟩:=Rnd.rh B a per;have L:F=fR ws x (r:Int):=funext λk=>by rw[GH,p k,mS]
 subst L;exact⟨l,d,o,B,u,by lia⟩
def iS(H:Hp)(xs:List V)(m P:Nat)(G:Nat->Nat->Bool):Prop:=xs.length=m/\∀(r:Nat) (v:V),xs[r]?=Vn v->∃l d:Nat,bN H v l d (row (G r) 0 l) (row (G r) l d)/\Least (G r) d l/\d ∣ P/\l<=1288
theorem iS.et{H H':Hp}(e:Et H H'){xs:List V}{m P:Nat}{G:Nat->Nat->Bool}(h:iS H xs m P G):iS H' xs m P G:=⟨h.1,λr v a=>by obtain⟨l,d,h1,h2⟩:=h.2 r v a;exact⟨l,d,h1.et e,h2⟩⟩
theorem iS.rep{H:Hp}{xs:List V}{m P:Nat}{G:Nat->Nat->Bool}{l:Vb}(h:iS H xs m P G)(c:H l=some (.lst xs)):bo H 3 (.ref l) (.list ((K1 0 m).map λr:Nat=>dF (G r))):=by rw[<-h.1];refine .inr ⟨l,_,_,rfl,.inr ⟨c,rfl⟩,oZ xs 0 λi v e=>?_⟩;obtain⟨b,d,a,f,_,_⟩:=h.2 i v e;rw[IQ,xa f];exact a.rep
def gJ(ws:List Way)(x:Bfs.Pl)(ys:List Bfs.Pl)(r:Nat):Nat->Bool:=λi=>@decide (((r:Int),(i:Int))=x\/∃y∈ys,aP ws y ((r:Int),(i:Int))) (IW _)
def lh{r i:Nat}:gJ ws x ys r i=true↔((r:Int),(i:Int))=x\/∃y∈ys,aP ws y ((r:Int),(i:Int)):=@decide_eq_true_iff _ (IW _)
def CG{r:Nat}:pairF ia (gJ ws x ys r) (fR ws y (r:Int))=gJ ws x (ys++[y]) r:=funext λi=>by
 rw[GH,lh];show(gJ ws x ys r i || fR ws y (r:Int) i)=true↔_;rw[LX,lh,mS];constructor
 .rintro((h|⟨u,a,h⟩)|h)
  .exact .inl h
  .exact .inr ⟨u,GN _ a,h⟩
  .exact .inr ⟨y,by simp,h⟩
 .rintro(h|⟨u,a,h⟩)
  .exact .inl (.inl h)
  .rcases Gr.mp a with w|w
   .exact .inl (.inr ⟨u,w,h⟩)
   .rw[Gb.mp w]at h;exact .inr h
def y4(h1:∀y∈ys,aS ws x y)(h2:∀y,aS ws x y->y∈ys)(r):gJ ws x ys r=fR ws x (r:Int):=funext λi=>by
 rw[GH,lh,mS];constructor
 .rintro(h|⟨y,a,h⟩)
  .rw[h];exact .refl
  .exact(aP.one (h1 y a)).trans h
 .rintro⟨n,b⟩;cases n with
  | zero=>cases b;exact .inl rfl
  | succ n=>
   obtain⟨y,a,c⟩:=b.head;exact .inr ⟨y,h2 y a,n,c⟩
theorem zY(c:0<=x.1)(a:0<=x.2)(r):gJ ws x [] r=if r=x.1.toNat then gM x.2.toNat else λ_=>false:=funext λi=>by
 rw[GH,lh];have e:(((r:Int),(i:Int))=x\/∃y∈([]:List Bfs.Pl),aP ws y ((r:Int),(i:Int)))↔(r=x.1.toNat/\i=x.2.toNat):=by
  constructor
  .rintro(h|⟨y,b,_⟩)
   .rw[<-h];exact⟨by simp,by simp⟩
   .cases b
  .rintro⟨h1,h2⟩;exact .inl (IG (by show(r:Int)=x.1;lia) (by show(i:Int)=x.2;lia))
 rw[e];by_cases h:r=x.1.toNat
 .unfold gM;simp[h]
 .simp[h]
def BB{g:Nat->Bool}{b P:Nat}(h1:bj f b P)(h2:bj g b P):bj (pairF ia f g) b P:=λy a=>by show(f (y+P) || g (y+P))=(f y || g y);rw[h1 y a,h2 y a]
inductive sP(K:FX)(vs:List V)(H:Hp)(Q:VK)(E:XK):Prop|mk:∀v m ws c p,vs=[v,.int c,.int p]->bq H v m ws->1<=m->0<p->(∀a x H',Ext H H'->aw H' a x->0<=x.1->x.1<m->0<=x.2->x.2<=12->Q (.ref a) H')->sP K vs H Q E
theorem sy(T:Bu w mg base):Cal P w K mg base "_law_place" 3 ["_law_house_here","_law_cell_here","_law_prime"] (sP K):=by
 refine(dw T.d__law_place).oS ["_law_house_here","_law_cell_here","_law_prime","_law_draws_here"] λi nd H vs Q E h=>?_;obtain⟨v,m,ws,c,p,rfl,j,m1,l,q⟩:=h;refine⟨_,(@av _ _ _ _ _ (@aG _ _ 3 _ _ _ _ nd rfl oi (aF (kU T) i (ag (pv 1) (ag (@bF _ _ _ _ (ag ae (ag ae aa rfl) rfl)) (ag (pv 2) aa rfl) rfl) rfl)) rfl oi)
   (@az _ _ _ (@aL _ _ _ _ (@bz _ _ _ _ _ (ag (aH cY (@ay _ _ _ _ _ _ _ (aQ K) (pv 3) ae (λ_ _=>rfl)) (@ay _ _ _ _ _ _ _ (aD K) (pv 0) ae (λ_ _=>rfl))) (ag (@ay _ _ _ _ _ _ _ (aQ K) (pv 3) ae (λ_ _=>rfl)) aa rfl) rfl))))),?_⟩
 walk_at"";refine aO λn B o b _=>?_;walk_at"";refine⟨c,n,[12,13],p,rfl,b,by decide,by decide,l,λdq ds H1 r hd s e hb=>?_⟩;have f:Ext H H1:=o.trans r;obtain⟨u,x,_⟩:=dD e hb 0 rfl;obtain⟨g,y,d,z⟩:=dD e hb 1 rfl;obtain⟨C,t,rfl,k1,k2⟩:=j.ext f;walk_at"";refine aR (af.of hd) x ?_;walk_at"";refine aB (ax.of k1) (v:=.int m) rfl ?_
 try refine rd_I (show(0:Int)<m by lia) ?_
 walk_at"";refine aR (af.of hd) y ?_;walk_at"";refine aO λa H2 A ha _=>?_;exact q a (u % m,g) H2 (f.trans A) ha (Hi _ (by lia)) (Hd _ (by lia)) d (by show g<=12;lia)
inductive oI(K:FX)(vs:List V)(H:Hp)(Q:VK)(E:XK):Prop|mk:∀a m ws b x,vs=[a,.ref b]->bq H a m ws->HOuse m ws->aw H b x->bO m x->dE K->Tbs K H->(∀H',Et H H'->Tbs K H'->kP ws x->Q (.int (-1)) H')->(∀N r H',Et H H'->Tbs K H'->(∀y,aP ws x y->y.2<=N)->aP ws x (r,N)->Q (.int N) H')->oI K vs H Q E
def tK(T:Bu w mg base):Cal P w K mg base "_law_most" 12 ["_law_house_here","_law_place_here"] (oI K):=by
 refine(bK T.d__law_most).oS ["_law_house_here","_law_place_here","_law_found"] λd nd H vs Q E h=>?_;obtain⟨o,m,ws,p,x,rfl,q,ok,e,s,f,g,u,y⟩:=h;refine⟨_,(av (aG (i:=2) nd rfl oi (aF (wB T) d (ao (pv 0) (ao (pv 1) aa))))
   (av (bH (aU bY (ay (aD K) (pv 2) ae (λ_ _=>rfl)) bf (aT _)) (az (aL (ay (aD K) (pv 2) ae (λ_ _=>rfl)))) a8)
   (az (aL (eX fh ae))))),?_⟩
 walk_at"";refine⟨o,m,ws,p,x,rfl,q,ok,e,s,f,g,λhex t B C as bs H1 j a c h1 h2 b=>?_,λhno t l N r U ks H1 j a _ c F z A n d=>?_⟩
 .walk_at"";refine aB (ax.of c) rfl ?_;walk_at"";refine cy ?_;rw[GY (show ¬(GJ "rises")=GJ "most" by decide +kernel)];refine rd_exb (aC ?_);walk_at"";exact u H1 j a (b.unb ok)
 .walk_at"";refine aB (ax.of c) (v:=.str "most") rfl ?_;walk_at"";refine cy ?_;rw[GZ rfl];refine rd_exb (aI ?_);walk_at"";refine aB (ax.of c) (v:=.int N) rfl ?_;exact y N r H1 j a n d
inductive qF(K:FX)(vs:List V)(H:Hp)(Q:VK)(E:XK):Prop|mk:∀a m ws b x,vs=[a,.ref b]->bq H a m ws->HOuse m ws->aw H b x->bO m x->dE K->Tbs K H->(∀n:Nat,Bfs.Lw (aS ws) x n->∀H',Et H H'->Tbs K H'->Q (.int (n:Nat)) H')->((∀n:Nat,¬Bfs.Lw (aS ws) x n)->∀H',Et H H'->Tbs K H'->Q (.int (-1)) H')->qF K vs H Q E
def wq(T:Bu w mg base):Cal P w K mg base "_law_ends" 13 ["_law_house_here","_law_place_here"] (qF K):=by
 refine(bK T.d__law_ends).oS ["_law_house_here","_law_place_here","_law_found"] λp nd H vs Q E h=>?_;obtain⟨q,m,ws,r,x,rfl,s,ok,e,l,f,g,u,o⟩:=h;refine⟨_,(av (aG (i:=2) nd rfl oi (aF (zO T) p (ao (pv 0) (ao (pv 1) aa))))
   (av (bH (aU bY (ay (aD K) (pv 2) ae (λ_ _=>rfl)) bf (aT _)) (az (aL (ay (aD K) (pv 2) ae (λ_ _=>rfl)))) a8)
   (az (aL (eX fh ae))))),?_⟩
 walk_at"";refine⟨q,m,ws,r,x,rfl,s,ok,e,l,f,g,λhex t z A as bs H1 c a b h1 h2 d=>?_,λhno=>⟨λn j t H1 c a b=>?_,λj t z A as bs y U H1 c a b h1 h2 B C hb F=>?_⟩⟩
 .walk_at"";refine aB (ax.of b) rfl ?_;walk_at"";refine cy ?_;refine rd_exb (aC ?_);walk_at"";exact o (zT ok l d) H1 c a
 .walk_at"";refine aB (ax.of b) (v:=.str "ends") rfl ?_;walk_at"";refine cy ?_;rw[GZ rfl];refine rd_exb (aI ?_);walk_at"";refine aB (ax.of b) (v:=.int (n:Nat)) rfl ?_;exact u n j H1 c a
 .walk_at"";refine aB (ax.of b) (v:=.str "same") rfl ?_;walk_at"";refine cy ?_;rw[GY (show ¬(GJ "same")=GJ "ends" by decide +kernel)];refine rd_exb (aC ?_);walk_at"";exact o j H1 c a
theorem Ck{K:FX}{n o:V}{g:Nat->Bool}{h c i j P:Nat}(p:1<=P)(w:P<=81)(h1:bN H n h c (row f 0 h) (row f h c))(a:Least f c h)(p1:c ∣ P)(x:h<=1288)(h2:bN H o i j (row g 0 i) (row g i j))(b:Least g j i)(p2:j ∣ P)(y:i<=1288)(r:dE K)(tb:Tbs K H)
  (q:∀v H',Et H H'->Tbs K H'->(∃l d:Nat,bN H' v l d (row (pairF ia f g) 0 l) (row (pairF ia f g) l d)/\Least (pairF ia f g) d l/\d ∣ P/\l<=1288)->Q v H'):m7 K [n,o] H Q xe:=by
 have s1:=Jm p p1;have s2:=Jm p p2;have z:=rW a.pos a.per;have A:=rW b.pos b.per;refine⟨n,o,h,c,_,_,i,j,_,_,rfl,⟨h1,wg a.pos (by lia) (by lia)⟩,⟨h2,wg b.pos (by lia) (by lia)⟩,GC (Bj p p1 p2) (by lia),r,tb,λv l d H' e t s E hd m=>?_⟩;rw[z,A]at s m;refine q v H' e t ⟨l,d,m,s,?_,by lia⟩;obtain⟨k1,rfl⟩:=p1;obtain⟨k2,u⟩:=p2;have B:bj f 1288 (c*k1):=by rw[Hx];exact(a.per.times k1).mono x
 have C:bj g 1288 (c*k1):=by rw[u,Hx];exact(b.per.times k2).mono y
 exact s.dvd (BB B C)
def ym{ys:List V}(d:H c=Vn (.lst ys))(h:bN H v b s o a):bN (upd H c u') v b s o a:=by obtain⟨p,q,r,rfl,h1,h2,e⟩:=h;exact⟨p,q,r,rfl,by rw[aA (bA h1 d (by intro z;cases z))];exact h1,by rw[aA (bA h2 d (by intro z;cases z))];exact h2,by rw[aA (bA e d (by intro z;cases z))];exact e⟩
inductive wM(K:FX)(vs:List V)(H:Hp)(Q:VK)(E:XK):Prop|mk:∀v m ws a x pl as ys,vs=[v,.ref a,.ref pl]->bq H v m ws->HOuse m ws->aw H a x->bO m x->H pl=Vn (.lst (A0 V.ref as))->Paired (aw H) as ys->(∀y∈ys,bO m y)->(∀y∈ys,aS ws x y)->(∀y,aS ws x y->y∈ys)->dE K->Tbs K H->(∀H',Et H H'->Tbs K H'->Q (.bl true) H')->wM K vs H Q E
theorem Fe(T:Bu w mg base):Cal P w K mg base "_law_stairs_right" 11 ["_law_house_here","_law_place_here","_law_places"] (wM K):=by
 refine(dw T.d__law_stairs_right).oS ["_law_house_here","_law_place_here","_law_places","_law_due","_law_there"] λhr nd H vs Q E h=>?_;obtain⟨v,m,ws,pa,x,pl,as,ys,rfl,hv,ok,hx,ix,a1,hys,iys,a2,a3,N,ab,q⟩:=h;have m1:=ok.m1;have m2:=ok.m12;obtain⟨x0,x1,x2,x3⟩:=id ix;obtain⟨P,hP,ac,O⟩:=A5 ok;obtain⟨hh,t,rfl,k1,k2⟩:=id hv;refine⟨_,(@av _ _ _ _ _ (di (i:=3) ["_law_room"] [] nd rfl oi (cX rfl T.range_ (ag (@ay _ _ _ _ _ _ _ (aD K) (pv 0) ae (λ_ _=>rfl)) aa rfl)) (λ_=>(aN (i:=0) (show(["_law_room"]:List Vm).Nodup from by decide +kernel) rfl oi oj)) (λ_=>dn) (λ_=>(@LitE.pe _ _ _ (.tup (.cons .int (.cons .int (.cons (.tup .nil) (.cons (.tup .nil) .nil))))))))
   (@av _ _ _ _ _ (@gR _ _ _ _ _ _ (@bz _ _ _ _ _ (ag (aH bp (@ay _ _ _ _ _ _ _ (aD K) (pv 1) ae (λ_ _=>rfl)) ae) (ag ae (ag (@bz _ _ _ _ _ (ag (@ay _ _ _ _ _ _ _ (aD K) (pv 1) ae (λ_ _=>rfl)) aa rfl)) (ag (@bz _ _ _ _ _ aa) aa rfl) rfl) rfl) rfl)) (iO (pv 3) (@ay _ _ _ _ _ _ _ (aD K) (pv 1) ae (λ_ _=>rfl)) set_list) rfl rfl rfl)
   (@av _ _ _ _ _ (bJ B2 rfl (bW K (pv 2)) (aN (i:=4) nd rfl oi) (@az _ _ _ (di (i:=3) ["_law_one","_law_two"] [] nd rfl oi (we K rfl T.zip_ (ag (pv 3) (ag (aF (o4 T) hr (ag (pv 0) (ag (pv 4) aa rfl) rfl)) aa rfl) rfl)) (λ_=>(ee (n:=2) K rfl (bG (aN (i:=0) (show(["_law_one","_law_two"]:List Vm).Nodup from by decide +kernel) rfl oi oj) (bG (aN (i:=1) (show(["_law_one","_law_two"]:List Vm).Nodup from by decide +kernel) rfl oi oj) dY)))) (λ_=>dn) (λ_=>(aF (FH T) hr (ag (pv 0) (ag (pv 1) aa rfl) rfl))))))
   (@az _ _ _ (@aL _ _ _ _ (fU (zt hr) (aF (o4 T) hr (ag (pv 0) (ag (pv 1) aa rfl) rfl)) (pv 3) (aT _))))))),?_⟩
 walk_at"";refine aB (ax.of k1) (v:=.int m) rfl ?_;walk_at"";refine cU ⟨by lia,by lia⟩ ?_;refine f7 (λi zs H'=>Ext H H'/\zs.length=i/\∀(r:Nat) (u:V),zs[r]?=Vn u->bN H' u 0 1 [] []) (eS (by lia)) ⟨Ext.rfl' _,rfl,λr u h=>by cases h⟩ (λi zs H' _ h=>by rw[h.2.1];exact Gn _) ?_ ?_
 .rintro i zs H1 hi ⟨e1,R,hzs⟩;walk_at"";refine aI ?_;walk_at"";refine aO λt1 G1 f1 z _=>?_;walk_at"";refine aO λt2 G2 f2 A _=>?_;walk_at"";refine aO λg G3 M B _=>?_;have c:=f1.trans (f2.trans M);refine⟨e1.trans c,by rw[Gk,R];rfl,λr u a=>?_⟩;rcases GQ r zs.length with l|l
  .rw[Gu l]at a;exact(hzs r u a).ext c
  .rw[Gs l]at a;have h0:r-zs.length=0:=by have:=(F9.mp a).1;simpa using this
   rw[h0]at a;cases a;exact⟨g,t1,t2,rfl,B,(f2.trans M) _ _ z,M _ _ A⟩
 rintro zs H1 dl ⟨e1,R,hzs⟩ C;have ad:H dl=Vo:=e1.none C;have e2:=e1.trans (bh (o:=.lst zs) C);have S:∀(r:Nat) (u:V),zs[r]?=Vn u->bN (upd H1 dl (.lst zs)) u 0 1 [] []:=λr u a=>(hzs r u a).ext (bh C);have U:upd H1 dl (.lst zs) dl=Vn (.lst zs):=aE;generalize upd H1 dl (.lst zs)=H2 at e2 S U ⊢;clear hzs C e1;have F:=e2 _ _ hx;walk_at"";refine aB (ax.of F) (v:=.int x.2) rfl ?_;walk_at"";refine aB (ax.of F) (v:=.int x.2) rfl ?_;walk_at"";refine aO λt1 G1 f1 z _=>?_;walk_at"";refine aO λt2 G2 f2 A _=>?_;walk_at"";refine aO λg G3 M B _=>?_;have c:=f1.trans (f2.trans M);have a4:bN G3 (.ref g) (x.2+1) 1 [x.2] []:=⟨g,t1,t2,rfl,B,(f2.trans M) _ _ z,M _ _ A⟩;have G:=c _ _ U;walk_at"";refine aB (ax.of (c _ _ F)) (v:=.int x.1) rfl ?_;walk_at"";refine iI G (iB x0 (by lia)) ?_;have e4:Ext H (upd G3 dl (.lst (zs.set x.1.toNat (.ref g)))):=b6 (e2.trans c) ad;have W:iS (upd G3 dl (.lst (zs.set x.1.toNat (.ref g)))) (zs.set x.1.toNat (.ref g)) m.toNat P (gJ ws x []):=by
  refine⟨by rw[KR,R],λr u a=>?_⟩;rw[zY x0 x2];by_cases e:r=x.1.toNat
  .rw[G5 e];subst e;rw[Jq (by lia)]at a;cases a;have h1:=DA x.2.toNat;refine⟨x.2.toNat+1,1,?_,Ft _,Nat.one_dvd _,by lia⟩;rw[h1.1,h1.2,show ((x.2.toNat+1:Nat):Int)=x.2+1 by lia,show ((x.2.toNat:Nat):Int)=x.2 by lia];exact ym G a4
  .rw[G0 e];rw[KA (λh=>e h.symm)]at a;exact⟨0,1,ym G ((S r u a).ext c),EO,Nat.one_dvd _,by lia⟩
 have X:upd G3 dl (.lst (zs.set x.1.toNat (.ref g))) dl=Vn (.lst (zs.set x.1.toNat (.ref g))):=aE;generalize upd G3 dl (.lst (zs.set x.1.toNat (.ref g)))=H4 at e4 W X ⊢;generalize zs.set x.1.toNat (.ref g)=ah at W X;clear G a4 c S U F e2 f1 f2 M z A B;walk_at"";refine bX (af.of (e4 _ _ a1)) ?_;refine forL (xs:=A0 V.ref as) (λi σ H'=>∃d xs k,σ=[Vn (.ref hh),Vn (.ref pa),Vn (.ref pl),Vn (.ref d),k]/\Et H H'/\Tbs K H'/\H' d=Vn (.lst xs)/\iS H' xs m.toNat P (gJ ws x (ys.take i))) ⟨dl,ah,_,rfl,e4.et,ab.ext e4,X,W⟩ (λi σ H' _ h=>by obtain⟨_,_,_,_,e,_⟩:=h;exact af.of (gC e a1)) ?_ ?_
 .rintro i u σ H5 a ⟨d,xs,k,rfl,Y,t5,Z,I⟩;rw[F3]at a;obtain⟨b,hb,rfl⟩:=Ge.mp a;obtain⟨y,hy,ai⟩:=cn hys hb;have a5:aw H5 b y:=aw.et Y ai;have iy:=iys y (Ga hy);walk_at"";refine⟨_,m,ws,b,y,rfl,hv.et Y,ok,a5,iy,N,t5,λfl fs H6 e6 t6 _ J L=>?_⟩;have a6:=gC e6 Z;have a0:=I.et e6;have a9:fs.length=m.toNat:=by have:=L.1;lia
  walk_at"";refine rR (af.of a6) (af.of J) ?_;refine ua (xs:=xs) (ys:=fs) (λj zs H'=>Et H6 H'/\Tbs K H'/\zs.length=j/\∀(r:Nat) (u:V),zs[r]?=Vn u->∃l d:Nat,bN H' u l d (row (gJ ws x (ys.take (i+1)) r) 0 l) (row (gJ ws x (ys.take (i+1)) r) l d)/\Least (gJ ws x (ys.take (i+1)) r) d l/\d ∣ P/\l<=1288) (eS (by rw[a0.1];lia)) ⟨(Ext.rfl' _).et,t6,rfl,λr u h=>(nomatch h)⟩ (λj zs H' h=>⟨af.of (gC h.1 a6),af.of (gC h.1 J),by rw[h.2.2.1];exact Gn _⟩) ?_ ?_
  .rintro j u1 u2 zs H7 p H8 aj ak ⟨e7,t7,f,s⟩ e8 hp _;obtain⟨l1,d1,s1,L1,p1,b1⟩:=(a0.et e7).2 j u1 aj;obtain⟨l2,d2,s2,L2,p2,b2⟩:=O (L.et e7) iy j u2 ak;walk_at"";refine dZ (ax.of hp) rfl ?_;walk_at"";refine aI ?_;walk_at"";refine Ck hP ac (s1.ext e8) L1 p1 b1 (s2.ext e8) L2 p2 b2 N (t7.ext e8) λv9 H9 e9 t9 h9=>?_;rw[CG,show ys.take i++[y]=ys.take (i+1) by rw[G7,hy];rfl]at h9;refine⟨e7.trans (e8.et.trans e9),t9,by rw[Gk,f];rfl,λr u a=>?_⟩;rcases GQ r zs.length with l|l
   .rw[Gu l]at a;obtain⟨l3,d3,s3,r3⟩:=s r u a;exact⟨l3,d3,(s3.ext e8).et e9,r3⟩
   .rw[Gs l]at a;have h0:r-zs.length=0:=by have:=(F9.mp a).1;simpa using this
    rw[h0]at a;cases a;have:r=j:=by lia
    subst this;exact h9
  rintro zs H7 p7 ⟨e7,t7,f,s⟩ am;rw[a0.1,a9,Nat.min_self]at f;have eU:=bh (o:=.lst zs) am;walk_at"";refine⟨p7,zs,_,rfl,Y.trans (e6.trans (e7.trans eU.et)),t7.ext eU,aE,f,λr u a=>?_⟩;obtain⟨l3,d3,s3,r3⟩:=s r u a;exact⟨l3,d3,s3.ext eU,r3⟩
 rintro σ H5 ⟨d,xs,k,rfl,Y,t5,Z,I⟩;rw[F1,ck hys,Gx]at I;walk_at"";refine⟨_,m,ws,pa,x,rfl,hv.et Y,ok,aw.et Y hx,ix,N,t5,λfl fs H6 e6 t6 _ J L=>?_⟩;have r1:=L.rep J;have r2:=(I.et e6).rep (gC e6 Z);have eq:((K1 0 m.toNat).map λr:Nat=>dF (gJ ws x ys r))=(K1 0 m.toNat).map λr:Nat=>dF (fR ws x (r:Int)):=Kb λr _=>by rw[y4 a2 a3]
 rw[eq]at r2;walk_at"";refine⟨3,3,_,_,r1,r2,by decide,?_⟩;rw[SeqAt.eqv_refl _ (bo.lay 3 r1).1];exact q H6 (Y.trans e6) t6
theorem DG(ok:HOuse m ws)(j:bO m x)(h:Bfs.Rw (aS ws) n x g):∃i,i<=n/\Bfs.Wk (aM ws (cc m x g)) x i g:=by
 have m1:=ok.m1;have d:x.2<=(if g.2>x.2 then g.2 else x.2)/\g.2<=(if g.2>x.2 then g.2 else x.2):=by split<;>constructor<;>lia
 obtain⟨i,l,o⟩:=Bfs.cut (by lia) (λp q h=>by
   obtain⟨w,f,ho,rfl⟩:=h;have r1:=pI w.deed;have s:=mX w.deed;lia) (λp q c h u h1 h2=>by
   obtain⟨w,f,ho,rfl⟩:=h;refine⟨w,f,iA (gr ho) ?_,IG rfl (by show p.2+rz w.deed-c=p.2-c+rz w.deed;lia)⟩;rcases f9 (ok.ok w f).dd ho with⟨e,z⟩|⟨e,z⟩|⟨e,r,z⟩|⟨e,r,z⟩
   .exact .inl e
   .exact .inr (.inl e)
   .exact .inr (.inr (.inl ⟨e,by show 0<p.2-c;lia⟩))
   .omega) (λp q h=>by
   obtain⟨w,f,ho,rfl⟩:=h;exact⟨(ok.ok w f).o0,(ok.ok w f).o1⟩) (Int.le_trans j.2.2.1 d.1) n x g h j.1 j.2.1 d.1 d.2
 exact⟨i,l,o.wk (λa c h=>oJ ok.ok h.1 h.2)⟩
def Sh(ws:List Way)(g x:Bfs.Pl)(n:Nat):Prop:=Bfs.Rw (aS ws) n x g/\∀j,Bfs.Rw (aS ws) j x g->n<=j
def Sh.uniq(h:Sh ws g x n)(h':Sh ws g x k):n=k:=LY (h.2 _ h'.1) (h'.2 _ h.1)
def Cj(ok:HOuse m ws)(e:bO m x)(d:Bfs.cF (aM ws (cc m x g)) x n g):Sh ws g x n:=by
 refine⟨d.1.rw.imp λa c h=>mw ok.ok h.choose_spec,λj f=>?_⟩;obtain⟨b,i,wk⟩:=DG ok e f;rcases GQ b n with hlt|hge
 .exact absurd wk (d.2 b hlt)
 .omega
def Dy(ok:HOuse m ws)(a:bO m x)(d:∀n,¬Bfs.cF (aM ws (cc m x g)) x n g):¬aP ws x g:=λh=>by obtain⟨n,b⟩:=(o5 ok a).mp h;exact d n b
def dO(ws:List Way)(g x:Bfs.Pl):Option Nat:=@dite _ (∃n,Sh ws g x n) (IW _) (λh=>Vn h.choose) (λ_=>Vo)
def yk(h:Sh ws g x n):dO ws g x=Vn n:=by have a:∃n,Sh ws g x n:=⟨n,h⟩;unfold dO;rw[dif_pos a,a.choose_spec.uniq h]
def rG(h:¬aP ws x g):dO ws g x=Vo:=by unfold dO;rw[dif_neg];rintro⟨n,a⟩;exact h ⟨n,a.1⟩
def xR(h:dO ws g x=Vn n):Sh ws g x n:=by
 unfold dO at h;split at h
 .rename_i hx;cases h;exact hx.choose_spec
 .cases h
def xP(h:dO ws g x=Vo):¬aP ws x g:=by
 rintro⟨n,b⟩;have:∃k,Sh ws g x k:=by
  induction n using IS with
  | _ n d=>
   by_cases c:∃j,j<n/\Bfs.Rw (aS ws) j x g
   .obtain⟨j,a,e⟩:=c;exact d j a e
   .refine⟨n,b,λj a=>?_⟩;rcases GQ j n with l|l
    .exact absurd ⟨j,l,a⟩ c
    .exact l
 unfold dO at h;rw[dif_pos this]at h;cases h
def dj(ws:List Way)(g:Bfs.Pl)(ys:List Bfs.Pl):List Nat:=ys.filterMap (dO ws g)
def Dz(h2:∀y,aS ws x y->y∈ys)(hne:g≠x)(h:dj ws g ys=[]):¬aP ws x g:=by
 rintro⟨n,a⟩;cases n with
 | zero=>cases a;exact hne rfl
 | succ n=>
  obtain⟨y,b,c⟩:=a.head;have:=List.filterMap_eq_nil_iff.mp h y (h2 y b);exact xP this ⟨n,c⟩
theorem FE(h1:∀y∈ys,aS ws x y)(h2:∀y,aS ws x y->y∈ys)(hne:g≠x){M:Nat}(d:M∈dj ws g ys)(f:∀a∈dj ws g ys,M<=a):Sh ws g x (M+1):=by
 obtain⟨y,h,e⟩:=Ia.mp d;refine⟨.cons (h1 y h) (xR e).1,λj b=>?_⟩;cases j with
 | zero=>cases b;exact absurd rfl hne
 | succ j=>
  obtain⟨u,i,c⟩:=b.head;cases hd:dO ws g u with
  | none=>exact absurd ⟨j,c⟩ (xP hd)
  | some k=>
   have:=f k (Ia.mpr ⟨u,h2 u i,hd⟩);have:=(xR hd).2 j c;lia
def DN{m:Int}(h1:∀y∈ys,aS ws x y)(h2:∀y,aS ws x y->y∈ys):kP ws x↔∃y∈ys,kP ws y:=by
 constructor
 .intro h;refine HL λi=>?_;have hb:∀y∈ys,∃B:Nat,∀z,aP ws y z->z.2<(B:Int):=λy b=>by refine HL λj=>i ⟨y,b,λB=>?_⟩;refine HL λhd=>j ⟨B,λz c=>?_⟩;refine HL λv=>hd ⟨z,c,by omega⟩
  have hall:∀l:List Bfs.Pl,(∀y∈l,y∈ys)->∃B:Nat,∀y∈l,∀z,aP ws y z->z.2<B:=by
   intro l;induction l with
   | nil=>exact λ_=>⟨0,λy b=>(nomatch b)⟩
   | cons a l o=>
    intro g;obtain⟨p,d⟩:=o λy b=>g y (F4 _ b);obtain⟨q,e⟩:=hb a (g a F7);refine⟨max p q,λy b z c=>?_⟩;rcases Gh.mp b with rfl|b
    .have:=e z c;omega
    .have:=d y b z c;omega
  obtain⟨B,f⟩:=hall ys λy b=>b;obtain⟨z,⟨n,c⟩,r⟩:=h (max B (x.2.toNat+1));cases n with
  | zero=>cases c;omega
  | succ n=>
   obtain⟨y,b,s⟩:=c.head;have:=f y (h2 y b) z ⟨n,s⟩;omega
 .rintro⟨y,b,u⟩ B;obtain⟨z,c,f⟩:=u B;exact⟨z,(aP.one (h1 y b)).trans c,f⟩
def mB{F:α->β->Prop}{as:List α}{bs:List β}(h:Paired F as bs){b:β}(hb:b∈bs):∃a∈as,F a b:=by
 induction h with
 | nil=>cases hb
 | cons h _ c=>
  rcases Gh.mp hb with rfl|hb
  .exact⟨_,F7,h⟩
  .obtain⟨a,ha,d⟩:=c hb;exact⟨a,F4 _ ha,d⟩
def vG{F:α->β->Prop}{as:List α}{bs:List β}(h:Paired F as bs){a:α}(ha:a∈as):∃b∈bs,F a b:=by
 induction h with
 | nil=>cases ha
 | cons h _ c=>
  rcases Gh.mp ha with rfl|ha
  .exact⟨_,F7,h⟩
  .obtain⟨b,hb,d⟩:=c ha;exact⟨b,F4 _ hb,d⟩
def iU(ws:List Way)(x:Bfs.Pl)(N:Int):Prop:=(N = -1/\kP ws x)\/(0<=N/\(∀y,aP ws x y->y.2<=N)/\∃y,aP ws x y/\y.2=N)
theorem iU.uniq{N M:Int}(h:iU ws x N)(h':iU ws x M):N=M:=by
 rcases h with⟨rfl,h1⟩|⟨d,h1,y,h2,rfl⟩<;>rcases h' with⟨rfl,a⟩|⟨e,a,z,c,rfl⟩
 .rfl
 .obtain⟨u,b,hb⟩:=h1 (z.2.toNat+1);have:=a u b;lia
 .obtain⟨u,b,hb⟩:=a (y.2.toNat+1);have:=h1 u b;lia
 .have:=h1 z c;have:=a y h2;lia
theorem zk{m:Int}(q:0<=x.2)(h1:∀y∈ys,aS ws x y)(h2:∀y,aS ws x y->y∈ys)(h:Paired (iU ws) ys Ns){M:Int}(l:M∈Ns++[x.2])(j:∀a∈Ns++[x.2],a<=M):iU ws x (if(-1)∈Ns then -1 else M):=by
 by_cases c:(-1:Int)∈Ns
 .rw[G5 c];obtain⟨y,d,f⟩:=mB h c;rcases f with⟨_,o⟩|⟨r,_⟩
  .exact .inl ⟨rfl,(DN (m:=m) h1 h2).mpr ⟨y,d,o⟩⟩
  .omega
 .rw[G0 c];have i:=j x.2 (by simp);refine .inr ⟨by lia,λz b=>?_,?_⟩
  .obtain⟨n,b⟩:=b;cases n with
   | zero=>cases b;exact i
   | succ n=>
    obtain⟨y,d,p⟩:=b.head;obtain⟨N,g,f⟩:=vG h (h2 y d);rcases f with⟨rfl,_⟩|⟨_,hb,_⟩
    .exact absurd g c
    .have:=hb z ⟨n,p⟩;have:=j N (GN _ g);lia
  .rcases Gr.mp l with w|w
   .obtain⟨y,d,f⟩:=mB h w;rcases f with⟨rfl,_⟩|⟨_,_,z,b,e⟩
    .exact absurd w c
    .exact⟨z,(aP.one (h1 y d)).trans b,e⟩
   .rw[Gb.mp w];exact⟨x,.refl,rfl⟩
def iX(ws:List Way)(x:Bfs.Pl)(N:Int):Prop:=(N = -1/\∀n,¬Bfs.Lw (aS ws) x n)\/∃n:Nat,N=(n:Int)/\Bfs.Lw (aS ws) x n
theorem iX.uniq{ws:List Way}{x:Bfs.Pl}{N M:Int}(h:iX ws x N)(h':iX ws x M):N=M:=by
 rcases h with⟨rfl,h1⟩|⟨n,rfl,h1⟩<;>rcases h' with⟨rfl,a⟩|⟨k,rfl,a⟩
 .rfl
 .exact absurd a (h1 k)
 .exact absurd h1 (a n)
 .rw[h1.uniq a]
theorem Dr(h1:∀y∈ys,aS ws x y)(h2:∀y,aS ws x y->y∈ys)(i:Paired (iX ws) ys Ns){M:Int}(q:M∈Ns++[-1])(j:∀a∈Ns++[-1],a<=M):iX ws x (if(-1)∈Ns then -1 else M+1):=by
 by_cases c:(-1:Int)∈Ns
 .rw[G5 c];obtain⟨y,b,d⟩:=mB i c;rcases d with⟨_,s⟩|⟨n,e,_⟩
  .refine .inl ⟨rfl,λn m=>?_⟩;obtain⟨k,_,u⟩:=m.next (h1 y b);exact s k u
  .omega
 .rw[G0 c];have lw:∀y∈ys,∃n:Nat,(n:Int)∈Ns/\Bfs.Lw (aS ws) y n:=λy b=>by
   obtain⟨N,g,d⟩:=vG i b;rcases d with⟨rfl,_⟩|⟨n,rfl,o⟩
   .exact absurd g c
   .exact⟨n,g,o⟩
  have f:∀y,∃n:Nat,y∈ys->(n:Int)∈Ns/\Bfs.Lw (aS ws) y n:=λy=>by
   by_cases h:y∈ys
   .obtain⟨n,m⟩:=lw y h;exact⟨n,λ_=>m⟩
   .exact⟨0,λz=>absurd z h⟩
  have v:=j (-1) (by simp);refine .inr ⟨(M+1).toNat,by lia,Bfs.oN (λy b=>((f y).choose_spec (h2 y b)).2) (λhno=>?_) (λy b=>?_) λ⟨r,p⟩=>?_⟩
  .have:Ns=[]:=by
    cases ys with
    | nil=>cases i;rfl
    | cons a l=>exact absurd (h1 a F7) (hno a)
   subst this;rw[List.nil_append,Gb]at q;lia
  .have:=j _ (GN _ ((f y).choose_spec (h2 y b)).1);omega
  .rcases Gr.mp q with w|w
   .obtain⟨y,b,d⟩:=mB i w;rcases d with⟨rfl,_⟩|⟨n,rfl,o⟩
    .exact absurd w c
    .refine⟨y,h1 y b,?_⟩;have:=((f y).choose_spec b).2.uniq o;omega
   .have e:M = -1:=Gb.mp w;have:=j _ (GN _ ((f r).choose_spec (h2 r p)).1);omega
def qC{K:FX}{a:Vb}{ns:List Int}(h1:af K H a (ns.map V.int))(h2:ns.length<=63)(b:0<=k)(q:∀z,Q (.int z) H):nH K [.ref a,.int k] H Q xe:=⟨a,ns,k,rfl,h1,h2,b,q⟩
def CQ(a b):IB (oC a) (oC b)=decide (a=b):=by
 show((a.1 == b.1) && ((a.2 == b.2) && true))=_;by_cases h:a=b
 .subst h;simp
 .rw[GY h,Bool.and_true,Li,beq_eq_false_iff_ne,beq_eq_false_iff_ne];by_cases h1:a.1=b.1
  .exact .inr λh2=>h (IG h1 h2)
  .exact .inl h1
def ji(H:Hp)(v:V):Option Nat->Prop
 | none=>v=.non
 | some n=>∃l ks,v=.ref l/\H l=Vn (.lst (a7 ks))/\ks.length=n
def ji.ext(e:Ext H H'){o:Option Nat}(h:ji H v o):ji H' v o:=by
 cases o with
 | none=>exact h
 | some n=>
  obtain⟨l,ks,h1,h2,a⟩:=h;exact⟨l,ks,h1,e _ _ h2,a⟩
def uB{K:FX}{a ga:Vb}(d:bq H v m ws)(ok:HOuse m ws)(f:aw H a x)(h:aw H ga g)(b:bO m x)(i:bO m g)(q:∀u H',Ext H H'->ji H' u (dO ws g x)->Q u H'):oV K [v,.ref a,.ref ga] H Q xe:=
 ⟨v,m,ws,a,ga,x,g,rfl,d,ok,f,h,b,i,λhno H' e=>q _ H' e (by rw[rG (Dy ok b hno)];rfl),λn l H' ks hd _ e _ j c _=>q _ H' e (by rw[yk (Cj ok b hd)];exact⟨l,ks,rfl,j,c⟩)⟩
theorem xc{K:FX}(f:bq H v m ws)(ok:HOuse m ws)(g:aw H b x)(d:bO m x)(c:dE K)(tb:Tbs K H)(q:∀N H',Et H H'->Tbs K H'->iU ws x N->Q (.int N) H'):oI K [v,.ref b] H Q xe:=
 ⟨v,m,ws,b,x,rfl,f,ok,g,d,c,tb,λH' e t h=>q _ H' e t (.inl ⟨rfl,h⟩),λN r H' e t a i=>q _ H' e t (.inr ⟨by have:=a x .refl;have:=d.2.2.1;lia,a,_,i,rfl⟩)⟩
def yb{K:FX}{a:Vb}(d:bq H v m ws)(ok:HOuse m ws)(f:aw H a x)(g:bO m x)(b:dE K)(tb:Tbs K H)(q:∀N H',Et H H'->Tbs K H'->iX ws x N->Q (.int N) H'):qF K [v,.ref a] H Q xe:=
 ⟨v,m,ws,a,x,rfl,d,ok,f,g,b,tb,λn c H' e t=>q _ H' e t (.inr ⟨n,rfl,c⟩),λc H' e t=>q _ H' e t (.inl ⟨rfl,c⟩)⟩
theorem xu:∀{l:List Nat},l≠[]->∃M∈l,∀a∈l,M<=a
 | [],h=>absurd rfl h
 | [a],_=>⟨a,F7,λb hb=>by rw[Gb.mp hb];exact Gn _⟩
 | a::b::l,_=>by
  obtain⟨M,f,e⟩:=xu (l:=b::l) (by simp);by_cases c:a<=M
  .refine⟨a,F7,λu d=>?_⟩;rcases Gh.mp d with rfl|d
   .exact Gn _
   .exact GC c (e u d)
  .refine⟨M,F4 _ f,λu d=>?_⟩;rcases Gh.mp d with rfl|d
   .omega
   .exact e u d
inductive kW(K:FX)(vs:List V)(H:Hp)(Q:VK)(E:XK):Prop|mk:∀(a:Vb) (ns:List Int),vs=[.ref a]->af K H a (ns.map V.int)->ns.length<=63->(∀y∈(["either","kept","low_levels","risen"]:List Vm),∀c T,Hm K y=Vn (c,T)->H T=Vn (.tbl #[]))->dE K->(∀H',Q (.bl true) H')->kW K vs H Q E
abbrev gU:Stmt:=stq 97
def vL:FnScope ["_law_script","_law_house_here","_law_place_here","_law_goal","_law_places","_law_walks","_law_lengths","_law_walk","_law_tops","_law_due","_law_ends_here"] ["_law_script"] (cJ gU):=⟨rfl,rfl,rfl,by decide +kernel,rfl,by decide +kernel,by decide +kernel⟩
theorem Fv{f:Vb}(F:Fun K "law" "law" gU f fd)(T:Bu w mg base):FnOk P w K mg base cQ 14 f fd ["_law_script"] (kW K):=by
 have nd:=(vL).nd;refine F.ok vL (λvs H Q E h=>?_) (λcdv A outer s H vs Q E X h=>?_)
 .obtain⟨a,ns,rfl,_⟩:=h;rfl
 .obtain⟨a,ns,rfl,ha,hl,hT,a5,q⟩:=h;have bi:Tbs K H:=⟨λc T e=>.inl (hT _ (by simp) c T e),λc T e=>.inl (hT _ (by simp) c T e),λc T e=>.inl (hT _ (by simp) c T e),λc T e=>.inl (hT _ (by simp) c T e)⟩;clear hT;refine⟨_,(@av _ _ _ _ _ (@aG _ _ 1 _ _ _ _ nd rfl oj (aF (C9 T) X (ag (aF (nI T) X (ag (pv 0) (ag ae aa rfl) rfl)) (ag ae aa rfl) rfl)) rfl oi)
    (@av _ _ _ _ _ (@aG _ _ 2 _ _ _ _ nd rfl oi (aF (sy T) X (ag (pv 1) (ag (aF (nI T) X (ag (pv 0) (ag ae aa rfl) rfl)) (ag ae aa rfl) rfl) rfl)) rfl oi)
    (@av _ _ _ _ _ (@aG _ _ 3 _ _ _ _ nd rfl oj (aF (sy T) X (ag (pv 1) (ag (aF (nI T) X (ag (pv 0) (ag ae aa rfl) rfl)) (ag ae aa rfl) rfl) rfl)) rfl oi)
    (@av _ _ _ _ _ (di (i:=4) ["_law_k","_law_there"] [] nd rfl oi (bW K (aF (Ed T) X (ag (pv 1) (ag (pv 2) aa rfl) rfl))) (λ_=>(ee (n:=2) K rfl (bG (aN (i:=0) (show(["_law_k","_law_there"]:List Vm).Nodup from by decide +kernel) rfl oi oj) (bG (aN (i:=1) (show(["_law_k","_law_there"]:List Vm).Nodup from by decide +kernel) rfl oi oj) dY)))) (λ_=>dn) (λ_=>(pv 1)))
    (@av _ _ _ _ _ (@bH _ _ _ _ _ _ _ _ (dR (cj (aF (Fe T) X (ag (pv 1) (ag (pv 2) (ag (pv 4) aa rfl) rfl) rfl)))) (@az _ _ _ (@aL _ _ _ _ b9)) a8)
    (@av _ _ _ _ _ (di (i:=5) ["_law_there"] [1,3] nd rfl oi (bW K (pv 4)) (λ_=>(aN (i:=0) (show(["_law_there","_law_house_here","_law_goal"]:List Vm).Nodup from by decide +kernel) rfl oi oj)) (λ_=>dn) (λ_=>(aF (wG T) X (ag (pv 1) (ag (pv 0) (ag (pv 2) aa rfl) rfl) rfl))))
    (@av _ _ _ _ _ (di (i:=6) ["_law_walk"] [] nd rfl oi (bW K (pv 5)) (λ_=>(aN (i:=0) (show(["_law_walk"]:List Vm).Nodup from by decide +kernel) rfl oi oj)) (λ_=>(eJ (aU nM (pv 0) i8 (aT _)))) (λ_=>(bx (cL K) rfl T.len_ HR (ag (pv 0) aa rfl))))
    (@av _ _ _ _ _ (@aG _ _ 7 _ _ _ _ nd rfl oi (aF (wG T) X (ag (pv 1) (ag (pv 2) (ag (pv 3) aa rfl) rfl) rfl)) rfl oi)
    (@av _ _ _ _ _ (cK (aU (qR X) (pv 3) (pv 2) (aT _)) (@av _ _ _ _ _ (@bH _ _ _ _ _ _ _ _ (PW.pt (gQ (aU bY (bx (cL K) rfl T.len_ HR (ag (pv 6) aa rfl)) ae (aT _)) (iG (aU nM (pv 7) i8 (aT _))))) (@az _ _ _ (@aL _ _ _ _ b9)) a8)
    (@az _ _ _ (@bH _ _ _ _ _ _ _ _ (PW.pt (gQ (aU fX (bx (cL K) rfl T.len_ HR (ag (pv 6) aa rfl)) ae (aT _)) (iG (PW.pt (eQ (aU E2 (pv 7) i8 (aT _)) (fZ (aU gH (bx (cL K) rfl T.len_ HR (ag (pv 7) aa rfl)) (aH bp ae (bx (zX K rfl) rfl T.min_ PyProof.Rows.boot_min (ag (pv 6) aa rfl))) (aT _)))))))) (@az _ _ _ (@aL _ _ _ _ b9)) a8))) a8)
    (@av _ _ _ _ _ (di (i:=8) ["_law_there"] [1] nd rfl oi (bW K (pv 4)) (λ_=>(aN (i:=0) (show(["_law_there","_law_house_here"]:List Vm).Nodup from by decide +kernel) rfl oi oj)) (λ_=>dn) (λ_=>(aF (tK T) X (ag (pv 1) (ag (pv 0) aa rfl) rfl))))
    (@av _ _ _ _ _ (@aG _ _ 9 _ _ _ _ nd rfl oi (bx (qx K rfl) rfl T.max_ IK (ag (aH j2 (pv 8) (@bF _ _ _ _ (ag (@ay _ _ _ _ _ _ _ (aD K) (pv 2) ae (λ_ _=>rfl)) aa rfl))) aa rfl)) rfl oi)
    (@av _ _ _ _ _ (cK (aU (j5 K) (eX fh ae) (pv 8) (by with_unfolding_all rfl)) (@az _ _ _ (@aG _ _ 9 _ _ _ _ nd rfl oi (eX fh ae) rfl oi)) a8)
    (@av _ _ _ _ _ (@bH _ _ _ _ _ _ _ _ (aU gH (aF (tK T) X (ag (pv 1) (ag (pv 2) aa rfl) rfl)) (pv 9) (aT _)) (@az _ _ _ (@aL _ _ _ _ b9)) a8)
    (@av _ _ _ _ _ (di (i:=10) ["_law_there"] [1] nd rfl oi (bW K (pv 4)) (λ_=>(aN (i:=0) (show(["_law_there","_law_house_here"]:List Vm).Nodup from by decide +kernel) rfl oi oj)) (λ_=>dn) (λ_=>(aF (wq T) X (ag (pv 1) (ag (pv 0) aa rfl) rfl))))
    (@av _ _ _ _ _ (@aG _ _ 9 _ _ _ _ nd rfl oi (aH bp (bx (qx K rfl) rfl T.max_ IK (ag (aH j2 (pv 10) (@bF _ _ _ _ (ag (eX fh ae) aa rfl))) aa rfl)) ae) rfl oi)
    (@av _ _ _ _ _ (cK (aU (j5 K) (eX fh ae) (pv 10) (by with_unfolding_all rfl)) (@az _ _ _ (@aG _ _ 9 _ _ _ _ nd rfl oi (eX fh ae) rfl oi)) a8)
    (@az _ _ _ (@aL _ _ _ _ (fU bY (aF (wq T) X (ag (pv 1) (ag (pv 2) aa rfl) rfl)) (pv 9) (aT _)))))))))))))))))))),?_⟩
  walk_at"";refine qC ha hl (by decide) λz=>?_;walk_at"";refine⟨z,_,rfl,by decide,λv m ws H1 e1 hv ok3=>?_⟩;have ok:=ok3.house;clear ok3;have m1:=ok.m1;have m2:=ok.m12;walk_at"";refine qC (ha.ext e1) hl (by decide) λz2=>?_;walk_at"";refine⟨v,m,ws,z2,_,rfl,hv,m1,by decide,λU x H2 e2 hx x0 x1 x2 x3=>?_⟩;walk_at"";refine qC (ha.ext (e1.trans e2)) hl (by decide) λz3=>?_;walk_at"";refine⟨v,m,ws,z3,_,rfl,hv.ext e2,m1,by decide,λga g H3 e3 hg g0 g1 g2 g3=>?_⟩;have ix:bO m x:=⟨x0,x1,x2,by lia⟩;have ig:bO m g:=⟨g0,g1,g2,by lia⟩;have c5:=hv.ext (e2.trans e3);have c9:aw H3 U x:=e3 _ _ hx;have d1:=bi.ext (e1.trans (e2.trans e3));clear hv hx e1 e2 e3 ha bi;walk_at"";refine⟨v,m,ws,U,x.1,x.2,rfl,c5,ok,c9,λbl H4 cs e4 _ ca cd=>?_⟩;have a0:(dh ws x.1 x.2 ws.length).length<=100:=GC (pq ws x.1 x.2 ws.length) ok.few;have hcl:=G9 cd;walk_at"";refine bX (af.of ca) ?_;refine dP (xs:=A0 V.ref cs) (λi zs H'=>H'=H4/\∃bs,zs=A0 V.ref bs/\Paired (aw H4) bs (((dh ws x.1 x.2 ws.length).take i).map λt=>(t.2.1,t.2.2))) (eS (by rw[F1];lia)) ⟨rfl,[],rfl,.nil⟩ (λi zs H' _ h=>by obtain⟨rfl,bs,rfl,L⟩:=h;refine⟨af.of ca,?_⟩;rw[F1,ck L,F1,GU];lia) ?_ ?_
  .rintro i u zs H5 Y ⟨rfl,bs,rfl,L⟩;rw[F3]at Y;obtain⟨c,hc,rfl⟩:=Ge.mp Y;obtain⟨t,ht,d,dt,du⟩:=cn cd hc;walk_at"";refine dZ (ax.of dt) rfl ?_;walk_at"";refine aI ?_;walk_at"";refine⟨rfl,bs++[d],by rw[Gj];rfl,?_⟩;rw[G7,ht,Gj];exact gq L du
  rintro zs H5 pl ⟨rfl,bs,rfl,L⟩ d2;rw[F1,hcl,Gx]at L;have iys:∀y∈(dh ws x.1 x.2 ws.length).map (λt:Int×Int×Int=>(t.2.1,t.2.2)),bO m y/\aS ws x y:=λy J=>by obtain⟨t,ht,rfl⟩:=G6.mp J;obtain⟨k,_,hk⟩:=EI (T:=t.2.2) ht (IU _);have hs:=mw ok.ok hk;obtain⟨b0,b1,b2,b3,_⟩:=fg ok.ok hs x2;exact⟨⟨b0,b1,b2,by lia⟩,hs⟩
  have h2:∀y,aS ws x y->y∈(dh ws x.1 x.2 ws.length).map (λt:Int×Int×Int=>(t.2.1,t.2.2)):=λy J=>by obtain⟨k,hk⟩:=oJ ok.ok J (IU _);exact G6.mpr ⟨_,(CA hk).1,rfl⟩
  have d3:((dh ws x.1 x.2 ws.length).map (λt:Int×Int×Int=>(t.2.1,t.2.2))).length<=100:=by rw[F1];exact a0
  generalize (dh ws x.1 x.2 ws.length).map (λt:Int×Int×Int=>(t.2.1,t.2.2))=ys at L iys h2 d3;have h1:∀y∈ys,aS ws x y:=λy J=>(iys y J).2;have r:=bh (o:=.lst (A0 V.ref bs)) d2;have ar:upd H5 pl (.lst (A0 V.ref bs)) pl=Vn (.lst (A0 V.ref bs)):=aE;have O:=bt (λa x h=>r _ _ h) L;have as:=(c5.ext e4).ext r;have au:aw (upd H5 pl (.lst (A0 V.ref bs))) U x:=(e4.trans r) _ _ c9;have ce:aw (upd H5 pl (.lst (A0 V.ref bs))) ga g:=(e4.trans r) _ _ hg;have cf:=d1.ext (e4.trans r);generalize upd H5 pl (.lst (A0 V.ref bs))=H6 at ar O as au ce cf ⊢;clear r L d2 cd ca hcl c5 c9 hg d1 e4 a0;have a6:=ck O;walk_at"";refine⟨v,m,ws,U,x,pl,bs,ys,rfl,as,ok,au,ix,ar,O,λy J=>(iys y J).1,h1,h2,a5,cf,λH7 e7 t7=>?_⟩;walk_at"";refine aC ?_;have ch:=as.et e7;have d4:aw H7 U x:=aw.et e7 au;have ci:aw H7 ga g:=aw.et e7 ce;have a1:=gC e7 ar;have a9:=bt (λa x h=>aw.et e7 h) O;clear as au ce ar O cf e7;walk_at"";refine bX (af.of a1) ?_;refine dP (xs:=A0 V.ref bs) (λi zs H'=>Ext H7 H'/\Paired (ji H') zs ((ys.take i).map (dO ws g))) (eS (by rw[F1];lia)) ⟨Ext.rfl' _,.nil⟩ (λi zs H' _ h=>⟨af.of (h.1 _ _ a1),by rw[G9 h.2,F1,GU];lia⟩) ?_ ?_
  .rintro i u zs H8 Y ⟨e8,hzs⟩;rw[F3]at Y;obtain⟨b,hb,rfl⟩:=Ge.mp Y;obtain⟨y,J,ab⟩:=cn a9 hb;walk_at"";refine aI ?_;walk_at"";refine uB (ch.ext e8) ok (e8 _ _ ab) (e8 _ _ ci) (iys y (Ga J)).1 ig λu9 H9 e9 h9=>?_;refine⟨e8.trans e9,?_⟩;rw[G7,J,Gj];exact IT (Paired.mapP hzs λ_ _ z=>z.ext e9) h9
  rintro zs H8 wl ⟨e8,hzs⟩ d5;rw[F1,a6,Gx]at hzs;have r:=bh (o:=.lst zs) d5;have R:=e8.trans r;have b4:upd H8 wl (.lst zs) wl=Vn (.lst zs):=aE;have a2:=Paired.mapP (G:=ji (upd H8 wl (.lst zs))) hzs λ_ _ z=>z.ext r;generalize upd H8 wl (.lst zs)=H9 at R b4 a2 ⊢;have d6:=ch.ext R;have d7:aw H9 U x:=R _ _ d4;have d8:aw H9 ga g:=R _ _ ci;have bm:=R _ _ a1;have bn:=bt (λa x h=>R _ _ h) a9;have t9:=t7.ext R;clear r hzs d5 e8 R ch d4 ci a1 a9 t7;have cl:=G9 a2;rw[F1]at cl;walk_at"";refine bX (af.of b4) ?_;refine dP (xs:=zs) (λi b5 H'=>H'=H9/\b5=a7 ((ys.take i).filterMap (dO ws g))) (eS (by lia)) ⟨rfl,rfl⟩ (λi b5 H' _ h=>by obtain⟨rfl,rfl⟩:=h;refine⟨af.of b4,?_⟩;rw[F1];exact GC (K8 _ _) (by rw[GU];lia)) ?_ ?_
  .rintro i u b5 ac Y ⟨rfl,rfl⟩;obtain⟨o,ho,hw⟩:=cn a2 Y;rw[F3]at ho;obtain⟨y,J,rfl⟩:=Ge.mp ho;have co:(ys.take (i+1)).filterMap (dO ws g)=(ys.take i).filterMap (dO ws g)++(dO ws g y).toList:=by rw[G7,J,List.filterMap_append];show _++List.filterMap _ [y]=_;cases hd:dO ws g y<;>simp[hd]
   rw[co];walk_at"";cases hd:dO ws g y with
   | none=>
    rw[hd]at hw;have hw:u=.non:=hw;subst hw;refine⟨rfl,?_⟩;refine rd_exb (aC ⟨rfl,?_⟩);rw[Option.toList,HW]
   | some n=>
    rw[hd]at hw;obtain⟨l,ks,rfl,d9,cp⟩:=hw;refine⟨rfl,?_⟩;refine rd_exb (aI ?_);walk_at"";refine dM (af.of d9) ?_;refine⟨rfl,?_⟩;rw[Option.toList,j8,F1,cp]
  rintro b5 ac ll ⟨rfl,rfl⟩ da;rw[cl,Gx];rw[show List.filterMap (dO ws g) ys=dj ws g ys from rfl];have r:=bh (o:=.lst (a7 (dj ws g ys))) da;have cr:upd ac ll (.lst (a7 (dj ws g ys))) ll=Vn (.lst (a7 (dj ws g ys))):=aE;have b7:=d6.ext r;have b8:aw (upd ac ll (.lst (a7 (dj ws g ys)))) U x:=r _ _ d7;have ba:aw (upd ac ll (.lst (a7 (dj ws g ys)))) ga g:=r _ _ d8;have ad:=r _ _ bm;have ah:=bt (λa x h=>r _ _ h) bn;have tA:=t9.ext r;generalize upd ac ll (.lst (a7 (dj ws g ys)))=HA at cr b7 b8 ba ad ah tA ⊢;clear r da a2 b4 d6 d7 d8 bm bn t9 cl;walk_at"";refine uB b7 ok b8 ba ix ig λwk HB eB Z=>?_;have ct:=b7.ext eB;have cu:aw HB U x:=eB _ _ b8;have db:aw HB ga g:=eB _ _ ba;have a3:=eB _ _ ad;have S:=eB _ _ cr;have ai:=bt (λa x h=>eB _ _ h) ah;have tB:=tA.ext eB;clear b7 b8 ba ad cr ah tA eB;have dc:(dj ws g ys).length<=100:=GC (K8 _ _) d3;walk_at"";refine gL (λσ H'=>H'=HB/\σ=[Vn (.ref a),Vn v,Vn (.ref U),Vn (.ref ga),Vn (.ref pl),Vn (.ref wl),Vn (.ref ll),Vn wk,Vo,Vo,Vo]) ?_ ?_
  .walk_at"";refine⟨1,1,_,_,uk db,uk cu,by decide,?_⟩;rw[CQ];by_cases bb:g=x
   .rw[GZ bb];refine rd_exb (aC ?_);walk_at"";exact⟨rfl,rfl⟩
   rw[GY bb];refine rd_exb (aI ?_);walk_at"";refine dM (af.of S) ?_;walk_at"";rw[F1];by_cases dd:(dj ws g ys).length=0
   .rw[GZ (show(((dj ws g ys).length:Nat):Int)=0 by lia)];refine aI ?_;have dg:=KN dd;rw[rG (Dz h2 bb dg)]at Z;have Z:wk=.non:=Z;subst Z;walk_at"";refine⟨rfl,?_⟩;refine rd_exb (aC ?_);walk_at"";refine dM (af.of S) ?_;walk_at"";rw[F1,GY (show ¬(0:Int)<(((dj ws g ys).length:Nat):Int) by lia)];refine aC ?_;walk_at"";exact⟨rfl,rfl⟩
   .rw[GY (show ¬(((dj ws g ys).length:Nat):Int)=0 by lia)];refine aC ?_;refine aC ?_;obtain⟨M,hM,hm⟩:=xu (l:=dj ws g ys) (λz=>dd (by rw[z];rfl));rw[yk (FE h1 h2 bb hM hm)]at Z;obtain⟨l,ks,rfl,dx,cp⟩:=Z;have dk:HB ll=Vn (.lst (((dj ws g ys).map λj:Nat=>(j:Int)).map V.int)):=by rw[Mb];exact S
    walk_at"";refine dM (af.of S) ?_;walk_at"";rw[F1,GZ (show(0:Int)<(((dj ws g ys).length:Nat):Int) by lia)];refine aI ?_;walk_at"";refine⟨rfl,?_⟩;refine rd_exb (aC ?_);walk_at"";refine dM (af.of dx) ?_;walk_at"";refine CD (af.of dk) (by rw[F1];lia) λM' e0 e5=>?_;have eM:M'=(M:Int):=by obtain⟨u,Y,rfl⟩:=G6.mp e0;have e1:=hm u Y;have e2:=e5 _ (G6.mpr ⟨M,hM,rfl⟩);lia
    subst eM;walk_at"";rw[F1,cp,GZ (show((M+1:Nat):Int)=1+(M:Int) by lia)];refine aC ?_;walk_at"";exact⟨rfl,rfl⟩
  rintro σ HC ⟨rfl,rfl⟩;clear Z S dc;walk_at"";refine bX (af.of a3) ?_;refine dP (xs:=A0 V.ref bs) (λi B H'=>Et HC H'/\Tbs K H'/\∃Ns:List Int,B=Ns.map V.int/\Paired (iU ws) (ys.take i) Ns) (eS (by rw[F1];lia)) ⟨(Ext.rfl' _).et,tB,[],rfl,.nil⟩ (λi B H' _ h=>by obtain⟨e,_,Ns,rfl,W⟩:=h;refine⟨af.of (gC e a3),?_⟩;rw[F1,<-G9 W,GU];lia) ?_ ?_
  .rintro i u B HD Y ⟨eD,tD,Ns,rfl,W⟩;rw[F3]at Y;obtain⟨b,hb,rfl⟩:=Ge.mp Y;obtain⟨y,J,ab⟩:=cn ai hb;walk_at"";refine aI ?_;walk_at"";refine xc (ct.et eD) ok (aw.et eD ab) (iys y (Ga J)).1 a5 tD λN HE eE tE cv=>?_;refine⟨eD.trans eE,tE,Ns++[N],by rw[Gj];rfl,?_⟩;rw[G7,J];exact IT W cv
  rintro B HD tl ⟨eD,tD,Ns,rfl,W⟩ aj;rw[F1,a6,Gx]at W;have r:=bh (o:=.lst (Ns.map V.int)) aj;have bc:upd HD tl (.lst (Ns.map V.int)) tl=Vn (.lst (Ns.map V.int)):=aE;have eE:=eD.trans r.et;have tE:=tD.ext r;generalize upd HD tl (.lst (Ns.map V.int))=HE at eE tE bc ⊢;have ak:=ct.et eE;have a4:aw HE U x:=aw.et eE cu;have bu:=gC eE a3;have bv:=bt (λa x h=>aw.et eE h) ai;clear r aj eD tD eE ct cu db a3 ai tB;have dl:=G9 W;walk_at"";refine aB (ax.of a4) (v:=.int x.2) rfl ?_;walk_at"";refine aO λs1 HF eF am _=>?_;walk_at"";refine ke (eF _ _ bc) am (eS (by rw[F1,HN];lia)) (cA λs2 HG eG C _=>?_);have C:HG s2=Vn (.lst ((Ns++[x.2]).map V.int)):=by rw[Gj];exact C
  walk_at"";refine⟨s2,Ns++[x.2],rfl,af.of C,by simp,λM hM hm=>?_⟩;have c0:=zk (m:=m) x2 h1 h2 W hM hm;have p:=eF.trans eG;have an:=ak.ext p;have ap:aw HG U x:=p _ _ a4;have c1:=p _ _ bu;have c2:=p _ _ bc;have c3:=bt (λa x h=>p _ _ h) bv;have tG:=tE.ext p;clear ak a4 bu bc bv tE p eF eG am C;walk_at"";refine gL (λσ H'=>H'=HG/\σ=[Vn (.ref a),Vn v,Vn (.ref U),Vn (.ref ga),Vn (.ref pl),Vn (.ref wl),Vn (.ref ll),Vn wk,Vn (.ref tl),Vn (.int (if(-1)∈Ns then -1 else M)),Vo]) ?_ ?_
  .walk_at"";refine kJ (.inl (af.of c2)) rfl (by simp[eT]) ?_;rw[G0 Gi,kR];by_cases c:(-1:Int)∈Ns
   .rw[HZ.mpr c,G5 c];refine rd_exb (aI ?_);walk_at"";exact⟨rfl,rfl⟩
   .rw[show Ns.contains (-1)=false by rw[<-Bool.not_eq_true,HZ];exact c,G0 c];refine rd_exb (aC ?_);walk_at"";exact⟨rfl,rfl⟩
  rintro σ HH ⟨rfl,rfl⟩;walk_at"";refine xc an ok ap ix a5 tG λN HI eI tI be=>?_;have eN:=be.uniq c0;subst eN;walk_at"";rw[GZ rfl];refine aC ?_;have d0:=an.et eI;have dp:aw HI U x:=aw.et eI ap;have aq:=gC eI c1;have c4:=bt (λa x h=>aw.et eI h) c3;clear an ap c1 c2 c3 tG eI c0 be W dl hM hm;walk_at"";refine bX (af.of aq) ?_;refine dP (xs:=A0 V.ref bs) (λi B H'=>Et HI H'/\Tbs K H'/\∃Ns:List Int,B=Ns.map V.int/\Paired (iX ws) (ys.take i) Ns) (eS (by rw[F1];lia)) ⟨(Ext.rfl' _).et,tI,[],rfl,.nil⟩ (λi B H' _ h=>by obtain⟨e,_,Ns,rfl,W⟩:=h;refine⟨af.of (gC e aq),?_⟩;rw[F1,<-G9 W,GU];lia) ?_ ?_
  .rintro i u B HD Y ⟨eD,tD,Ns,rfl,W⟩;rw[F3]at Y;obtain⟨b,hb,rfl⟩:=Ge.mp Y;obtain⟨y,J,ab⟩:=cn c4 hb;walk_at"";refine aI ?_;walk_at"";refine yb (d0.et eD) ok (aw.et eD ab) (iys y (Ga J)).1 a5 tD λN HE eE tE cv=>?_;refine⟨eD.trans eE,tE,Ns++[N],by rw[Gj];rfl,?_⟩;rw[G7,J];exact IT W cv
  rintro B HD el ⟨eD,tD,I,rfl,W⟩ aj;rw[F1,a6,Gx]at W;have r:=bh (o:=.lst (I.map V.int)) aj;have bg:upd HD el (.lst (I.map V.int)) el=Vn (.lst (I.map V.int)):=aE;have eE:=eD.trans r.et;have tE:=tD.ext r;generalize upd HD el (.lst (I.map V.int))=HE at eE tE bg ⊢;have ak:=d0.et eE;have a4:aw HE U x:=aw.et eE dp;clear r aj eD tD eE d0 dp aq c4 tI;have dl:=G9 W;walk_at"";refine aO λs1 HF eF am _=>?_;walk_at"";refine ke (eF _ _ bg) am (eS (by rw[F1,HN];lia)) (cA λs2 HG eG C _=>?_);have C:HG s2=Vn (.lst ((I++[-1]).map V.int)):=by rw[Gj];exact C
  walk_at"";refine⟨s2,I++[-1],rfl,af.of C,by simp,λM2 hM hm=>?_⟩;have dr:=Dr h1 h2 W hM hm;have p:=eF.trans eG;have an:=ak.ext p;have ap:aw HG U x:=p _ _ a4;have ds:=p _ _ bg;have tG:=tE.ext p;clear ak a4 bg tE p eF eG am C;walk_at"";refine gL (λσ H'=>H'=HG/\∃k8 k9,σ=[Vn (.ref a),Vn v,Vn (.ref U),Vn (.ref ga),Vn (.ref pl),Vn (.ref wl),Vn (.ref ll),Vn wk,k8,Vn (.int (if(-1)∈I then -1 else M2+1)),k9]) ?_ ?_
  .walk_at"";refine kJ (.inl (af.of ds)) rfl (by simp[eT]) ?_;rw[G0 Gi,kR];by_cases c:(-1:Int)∈I
   .rw[HZ.mpr c,G5 c];refine rd_exb (aI ?_);walk_at"";exact⟨rfl,_,_,rfl⟩
   .rw[show I.contains (-1)=false by rw[<-Bool.not_eq_true,HZ];exact c,G0 c];refine rd_exb (aC ?_);walk_at"";exact⟨rfl,_,_,rfl⟩
  rintro σ HH ⟨rfl,k8,k9,rfl⟩;walk_at"";refine yb an ok ap ix a5 tG λN HI eI tI be=>?_;have eN:=be.uniq dr;subst eN;walk_at"";rw[GZ rfl];exact q _
def dq{K}{h}{mg}(X:K.In h)(G:h.Ns Vj mg){x}{st}{f}{od an}{sl}{oc kV b pm cd ct}(a:HX K Vj x=Vn (Vn (.ref f)))(l:K.lookup f=Vn ⟨oc,od,.func (Iq x x (iF st) (eY st) (cJ st) .none kV b pm an cd ct),sl⟩)(c:Jr K cd x=true)(k:Ja K (.ref f)=true):Dq K mg x st:=⟨f,_,Ie X G a,rH l c k⟩
def all_mk{l:PySem.W.OpenLaw}{K:FX}{h:Vh}(eK:K=_root_.My.K)(X:K.In h)(G:h.Ns Vj mg)(O:mg "law" = Vn (.ref fa))
  (d0:Dq K mg "staying_part" (stq 80))
  (d1:Dq K mg "places_ahead" (stq 78))
  (d2:Dq K mg "known_ranks" (stq 79))
  (d3:Dq K mg "raised_by" (stq 35))
  (d4:Dq K mg "led_to" (stq 36))
  (d5:Dq K mg "is_open" (stq 34))
  (d6:Dq K mg "counts_by_room" (stq 65))
  (d7:Dq K mg "steps_by_place" (stq 77))
  (d8:Dq K mg "walk_back" (stq 68))
  (d9:Dq K mg "greatest_met" (stq 66))
  (P:Dq K mg "found_from" (stq 67))
  (Q:Dq K mg "sought_walk" (stq 69))
  (R:Dq K mg "last_met" (stq 72))
  (S:Dq K mg "can_go" (stq 63))
  (U:Dq K mg "places_gone" (stq 64))
  (Y:Dq K mg "rising_part" (stq 73))
  (Z:Dq K mg "refuse_great_stair" (stq 14))
  (a0:Dq K mg "is_whole" (stq 9))
  (a1:Dq K mg "is_rising_row" (stq 10))
  (a2:Dq K mg "are_stair_places" (stq 11))
  (a3:Dq K mg "is_stair" (stq 12))
  (a4:Dq K mg "refuse_no_stair" (stq 13))
  (a5:Dq K mg "refuse_bad_stair" (stq 15))
  (a6:Dq K mg "holds" (stq 19))
  (a9:Dq K mg "unbounded_goals" (stq 74))
  (ab:Dq K mg "least_step" (stq 17))
  (ac:Dq K mg "stair_of_marks" (stq 18))
  (ad:Dq K mg "stair_of_room" (stq 54))
  (ah:Dq K mg "next_level" (stq 52))
  (ai:Dq K mg "reached" (stq 49))
  (aj:Dq K mg "told_pairs" (stq 40))
  (ak:Dq K mg "add_arches" (stq 43))
  (am:Dq K mg "join_walks" (stq 42))
  (an:Dq K mg "ways_of_deed" (stq 39))
  (ap:Dq K mg "beginning_table" (stq 41))
  (aq:Dq K mg "kept_table" (stq 44))
  (ar:Dq K mg "is_sign" (stq 28))
  (as:Dq K mg "is_deed" (stq 27))
  (au:Dq K mg "is_room" (stq 26))
  (b0:Dq K mg "is_way" (stq 29))
  (b1:Dq K mg "are_ways" (stq 30))
  (b2:Dq K mg "is_house" (stq 31))
  (b4:Dq K mg "refuse_no_house" (stq 32))
  (b5:Dq K mg "kept" (stq 45))
  (b7:Dq K mg "ways_by_room" (stq 48))
  (b8:Dq K mg "led_to_from" (stq 37))
  (ba:Dq K mg "low_beside" (stq 50))
  (bb:Dq K mg "low_levels" (stq 51))
  (bc:Dq K mg "risen" (stq 46))
  (be:Dq K mg "all_levels" (stq 53))
  (bg:Dq K mg "refuse_bad_places" (stq 33))
  (bi:Dq K mg "forward" (stq 55))
  (bl:Dq K mg "greatest" (stq 75))
  (bm:Dq K mg "fate" (stq 81))
  (bn:Dq K mg "_law_ends" (stq 95))
  (bu:Dq K mg "_law_most" (stq 94))
  (bv:Dq K mg "shortest" (stq 70))
  (c0:Dq K mg "marks_below" (stq 16))
  (c1:Dq K mg "greatest_divisor" (stq 57))
  (c2:Dq K mg "common_step" (stq 58))
  (c3:Dq K mg "refuse_bad_pair" (stq 59))
  (c4:Dq K mg "chosen" (stq 60))
  (c5:Dq K mg "either" (stq 61))
  (c9:Dq K mg "_law_stairs_right" (stq 96))
  (ca:Dq K mg "_law_behind" (stq 93))
  (cd:Dq K mg "_law_mixed" (stq 83))
  (ce:Dq K mg "_law_draws" (stq 84))
  (cf:Dq K mg "_law_place" (stq 92))
  (ch:Dq K mg "_law_cell" (stq 91))
  (ci:Dq K mg "_law_unlike" (stq 87))
  (cl:Dq K mg "_law_drawn_house" (stq 89))
  (co:Dq K mg "_law_gate_house" (stq 88))
  (cp:Dq K mg "_law_ring_house" (stq 86))
  (cr:Dq K mg "_law_spare" (stq 85))
  (cs:Dq K mg "_law_house" (stq 90))
   {m b:Option Vb} {n:Array (Option Va)} {o d f g a i:Va} (ct:HX K Vj "law" = Vn (Vn (.ref j))) (cu:K.lookup j=Vn ⟨o,m,.func (Iq "law" "law" (iF gU) (eY gU) (cJ gU) .none d f g b a i),n⟩) (cv:Jr K a "law" = true) (da:Ja K (.ref j)=true)
  (z0:HX K Vj "len" = Vn Vo)
  (z1:HX K Vj "isinstance" = Vn Vo)
  (z2:HX K Vj "tuple" = Vn Vo)
  (z3:HX K Vj "list" = Vn Vo)
  (z4:HX K Vj "int" = Vn Vo)
  (z5:HX K Vj "bool" = Vn Vo)
  (z6:HX K Vj "range" = Vn Vo)
  (z7:HX K Vj "zip" = Vn Vo)
  (z8:HX K Vj "max" = Vn Vo)
  (z9:HX K Vj "min" = Vn Vo)
  (db:HX K Vj "abs" = Vn Vo)
  (dc:HX K Vj "all" = Vn Vo)
  (dd:HX K Vj "enumerate" = Vn Vo)
  (dg:HX K Vj "set" = Vn Vo)
  (dk:HX K Vj "str" = Vn Vo)
  (dl:HX K Vj "reversed" = Vn Vo)
  (dp:HX K Vj "any" = Vn Vo)
   (v0:HX K Vj "GREATEST_STEP" = Vn (Vn (.int 840 t0)))
   (v1:HX K Vj "GREATEST_BASE" = Vn (Vn (.int 3000 t1)))
   (v2:HX K Vj "GREATEST_WAYS" = Vn (Vn (.int 100 t2)))
   (v3:HX K Vj "GREATEST_MANY" = Vn (Vn (.int 12 t3)))
   (v4:HX K Vj "GREATEST_NUMBER" = Vn (Vn (.int 1000 t4)))
   {p q r u x z A B:Tok}  (x0:HX K Vj "RAISED" = Vn (Vn (.ref e0))) (y0:K.lookup e0=Vn (jy w [("up",p,.int (1) q),("down",r,.int (-1) u),("stay",x,.int (0) z),("zero",A,.int (0) B)] dr)) (w0:(e0 == sysModules)=false)
   {C E F H I J L M:Tok}  (x1:HX K Vj "TURNED" = Vn (Vn (.ref e1))) (y1:K.lookup e1=Vn (jy w [("up",C,.str "down" E),("down",F,.str "up" H),("stay",I,.str "stay" J),("zero",L,.str "zero" M)] ds)) (w1:(e1 == sysModules)=false)
  : ∃fd,(∀s v,BindsTo s fd ⟨[v],[]⟩ [("_law_script",v)])/\∀base,K.In base->base.Ns Vj mg->(∀y∈(["either","kept","low_levels","risen"]:List Vm),∃c T,Tab K mg base y c T)->FnOk l.prog w K mg base cQ 14 fa fd ["_law_script"] (kW K):=by
 subst eK;have e:=O.symm.trans (Ie X G ct);cases e;have T:Blt mg:=⟨HS X G z0,HS X G z1,HS X G z2,HS X G z3,HS X G z4,HS X G z5,HS X G z6,HS X G z7,HS X G z8,HS X G z9,HS X G db,HS X G dc,HS X G dd,HS X G dg,HS X G dk,HS X G dl,HS X G dp⟩;refine⟨Iq "law" "law" (iF gU) (eY gU) (cJ gU) .none d f g b a i,λs v=>.of_eq rfl,λbase KB GB N=>?_⟩;exact Fv (rH cu cv da) ⟨T,d0,d1,d2,d3,d4,d5,d6,d7,d8,d9,P,Q,R,S,U,Y,Z,a0,a1,a2,a3,a4,a5,a6,a9,ab,ac,ad,ah,ai,aj,ak,am,an,ap,aq,ar,as,au,b0,b1,b2,b4,b5,b7,b8,ba,bb,bc,be,bg,bi,bl,bm,bn,bu,bv,c0,c1,c2,c3,c4,c5,c9,ca,cd,ce,cf,ch,ci,cl,co,cp,cr,cs,⟨_,Ie X G v0⟩,⟨_,Ie X G v1⟩,⟨_,Ie X G v2⟩,⟨_,Ie X G v3⟩,⟨_,Ie X G v4⟩,⟨_,Ie X G x0,C1 y0 w0⟩,⟨_,Ie X G x1,zW y1 w1⟩,N "kept" (by simp),N "low_levels" (by simp),N "risen" (by simp),N "either" (by simp)⟩
def walk{l:PySem.W.OpenLaw}{q:Vd}{m:(Vm->Option Va)->Vh->Prop}{g:Ve->Vh->Prop}{d:DefRec}{K:Params->FX}(o:l.most=Vn 63)(i:d.params.defaults=[])
  (p:∀w h,g w h->(K w.params).In h) (r:∀w:Ve,Lv (K w.params)=true) (hrec:∀y∈(["either","kept","low_levels","risen"]:List Vm),((PyProof.Rows.recsOf q).find? (λe=>e.name == y)).isSome=true) (htab:∀(w:Ve),∀y∈(["either","kept","low_levels","risen"]:List Vm),(Hm (K w.params) y).isSome=true) (b:∀w:Ve,dE (K w.params))
  (F:∀w mg j h,g w h->(K w.params).In h->h.Ns Vj mg->mg d.name=Vn (.ref j) ->
   ∃fd,(∀s u,BindsTo s fd ⟨[u],[]⟩ [("_law_script",u)])/\∀base,(K w.params).In base->base.Ns Vj mg->(∀y∈(["either","kept","low_levels","risen"]:List Vm),∃c T,Tab (K w.params) mg base y c T)->FnOk l.prog w (K w.params) mg base cQ 14 j fd ["_law_script"] (kW (K w.params))) :
  JT q loose m g l.row.toRowW d [] (λf vs=>Mk f vs):=
 L2.A1 ["either","kept","low_levels","risen"] o (by decide) i ⟨rfl,by decide,by decide⟩ p r hrec htab F λw H a ns v z A=>⟨a,ns,rfl,A,v,z,b w,λ_=>rfl⟩
end My
end
open PySem PySem.W PyProof.Rows
set_option maxRecDepth 100000 in
set_option maxHeartbeats 0 in
theorem PySem.Challenge.cw_stairrooms_k73_whole_first_step_holds : PySem.Challenge.rw_stairrooms_k73_whole_first_step.Holds := by
 refine My.top ?_
 k_fill
 refine L2.Br My.top.heap_39 My.top ?_;refine My.walk (l := PySem.Challenge.rw_stairrooms_k73_whole_first_step) rfl rfl (λw h Y => PySem.W.km_in_of Y.1) (λw => by kernel_rfl) ?R (λw => ?Tb) (λw => My.Al (by kernel_rfl)) ?F
 case R => intro y hy; simp only [List.mem_cons, List.not_mem_nil, or_false] at hy; rcases hy with rfl|rfl|rfl|rfl <;> kernel_rfl
 case Tb => intro y hy; simp only [List.mem_cons, List.not_mem_nil, or_false] at hy; rcases hy with rfl|rfl|rfl|rfl <;> kernel_rfl
 case F =>
  intro w mg fa h Y KX G hmg;have q := @My.dq _ _ _ KX G
  refine' My.all_mk (by with_unfolding_all exact Y.2) KX G hmg (q ?_ ?_ ?_ ?_) (q ?_ ?_ ?_ ?_) (q ?_ ?_ ?_ ?_) (q ?_ ?_ ?_ ?_) (q ?_ ?_ ?_ ?_) (q ?_ ?_ ?_ ?_) (q ?_ ?_ ?_ ?_) (q ?_ ?_ ?_ ?_) (q ?_ ?_ ?_ ?_) (q ?_ ?_ ?_ ?_) (q ?_ ?_ ?_ ?_) (q ?_ ?_ ?_ ?_) (q ?_ ?_ ?_ ?_) (q ?_ ?_ ?_ ?_) (q ?_ ?_ ?_ ?_) (q ?_ ?_ ?_ ?_) (q ?_ ?_ ?_ ?_) (q ?_ ?_ ?_ ?_) (q ?_ ?_ ?_ ?_) (q ?_ ?_ ?_ ?_) (q ?_ ?_ ?_ ?_) (q ?_ ?_ ?_ ?_) (q ?_ ?_ ?_ ?_) (q ?_ ?_ ?_ ?_) (q ?_ ?_ ?_ ?_) (q ?_ ?_ ?_ ?_) (q ?_ ?_ ?_ ?_) (q ?_ ?_ ?_ ?_) (q ?_ ?_ ?_ ?_) (q ?_ ?_ ?_ ?_) (q ?_ ?_ ?_ ?_) (q ?_ ?_ ?_ ?_) (q ?_ ?_ ?_ ?_) (q ?_ ?_ ?_ ?_) (q ?_ ?_ ?_ ?_) (q ?_ ?_ ?_ ?_) (q ?_ ?_ ?_ ?_) (q ?_ ?_ ?_ ?_) (q ?_ ?_ ?_ ?_) (q ?_ ?_ ?_ ?_) (q ?_ ?_ ?_ ?_) (q ?_ ?_ ?_ ?_) (q ?_ ?_ ?_ ?_) (q ?_ ?_ ?_ ?_) (q ?_ ?_ ?_ ?_) (q ?_ ?_ ?_ ?_) (q ?_ ?_ ?_ ?_) (q ?_ ?_ ?_ ?_) (q ?_ ?_ ?_ ?_) (q ?_ ?_ ?_ ?_) (q ?_ ?_ ?_ ?_) (q ?_ ?_ ?_ ?_) (q ?_ ?_ ?_ ?_) (q ?_ ?_ ?_ ?_) (q ?_ ?_ ?_ ?_) (q ?_ ?_ ?_ ?_) (q ?_ ?_ ?_ ?_) (q ?_ ?_ ?_ ?_) (q ?_ ?_ ?_ ?_) (q ?_ ?_ ?_ ?_) (q ?_ ?_ ?_ ?_) (q ?_ ?_ ?_ ?_) (q ?_ ?_ ?_ ?_) (q ?_ ?_ ?_ ?_) (q ?_ ?_ ?_ ?_) (q ?_ ?_ ?_ ?_) (q ?_ ?_ ?_ ?_) (q ?_ ?_ ?_ ?_) (q ?_ ?_ ?_ ?_) (q ?_ ?_ ?_ ?_) (q ?_ ?_ ?_ ?_) (q ?_ ?_ ?_ ?_) (q ?_ ?_ ?_ ?_) (q ?_ ?_ ?_ ?_) (q ?_ ?_ ?_ ?_) ?_ ?_ ?_ ?_ ?_ ?_ ?_ ?_ ?_ ?_ ?_ ?_ ?_ ?_ ?_ ?_ ?_ ?_ ?_ ?_ ?_ ?_ ?_ ?_ ?_ ?_ ?_ ?_ ?_ ?_ ?_ ?_
  all_goals try first|k_is|rfl
