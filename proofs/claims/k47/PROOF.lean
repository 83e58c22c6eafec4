import PyProof.Rows.All
import Wide.All
import OpenK.AllK
import Wide.FinOn
import Lean
import PyProof.EqAt
import PyProof.EqKinds
import PyProof.TupleCall
import KE.KLam
import PySem.Challenge.RW_stairrooms_k47_whole_fate
set_option Elab.async false
namespace PySem.W.Fast
def tw6020556748687803119:=0
def tw16766542221979663322:=0
def tw9083285238311792291:=0
def tw620582567226813120:=0
def tw8632990565723312620:=0
def tw9478813727029378433:=0
def tw12489671996159091778:=0
def tw199490214966439573:=0
def tw11258306804293243132:=0
def tw3042810517636258726:=0
def tw15125771261956903258:=0
def tw3497212847013558094:=0
def tw8388858425438247444:=0
def tw3544651915260091173:=0
def tw1923656493189036919:=0
def tw6986908369701068897:=0
def tw15641575440650329080:=0
def tw10328213104965892662:=0
def tw6211967426479221364:=0
def tw14774234679712429206:=0
def tw6146029037097477828:=0
def tw2686718004561559855:=0
def tw8604979696160575008:=0
def tw10166892954511498249:=0
def tw12683310795314169836:=0
def tw4918694162171632466:=0
def tw16408023001231065620:=0
def tw11716318428403799857:=0
def tw3501889831259424984:=0
def tw13921919005729749812:=0
def tw12390782021942118942:=0
def tw12585790354688115527:=0
def tw17389396115470475288:=0
def tw11872690636868124001:=0
def tw9456409991113330330:=0
def tw6743822951217308217:=0
def tw1283506980011859969:=0
def tw9085195453500331236:=0
def tw18189657841938801392:=0
def tw1735571389945239771:=0
def tw13847991401066540787:=0
def tw9583254098639418403:=0
def tw3161077796674850459:=0
def tw3093781508513788219:=0
def tw2567624805475646970:=0
def tw15945904282836308387:=0
def tw9623524494010043433:=0
def tw12124443520851957044:=0
def tw902582806634263858:=0
def tw8562296191053873827:=0
def tw2308842233520690658:=0
def tw1465564398378206461:=0
def tw10932722520931459696:=0
def tw7258929849126983957:=0
def tw4672492687276399408:=0
def tw11655376856063916228:=0
def tw11030641428109492703:=0
def tw9248597171148506525:=0
def tw5766181095882713430:=0
def tw447717403241242290:=0
def tw16526325248041854055:=0
def tw14635225500592789833:=0
def tw12664327836493813462:=0
def tw7980446502605500991:=0
def tw7904445426397662059:=0
def tw684117499851941213:=0
def tw4355615645706949100:=0
def tw16843462989757039891:=0
def tw13185835248587936794:=0
def tw1057306937073154610:=0
def tw9878173891806150429:=0
def tw9834661911540460081:=0
def tw9281662355237421915:=0
def tw7875707854763748492:=0
def tw2904058922640873309:=0
def tw17908656721387608039:=0
def tw14832175709080873599:=0
def tw10275949009854564666:=0
def tw8247069255634196442:=0
def tw6658185936689682968:=0
def tw6181847661251503008:=0
def tw5824247625822886979:=0
def tw3830783680494933951:=0
def tw16618134895088991800:=0
def tw14876317631354250296:=0
def tw14550693921475344484:=0
def tw13809386149585982481:=0
def tw119775208399524090:=0
def tw705330452703051597:=0
def tw2187499721780371684:=0
def tw2168224380260717174:=0
def tw1921160878016633958:=0
def tw18038851775406917655:=0
def tw1751447207448873119:=0
def tw16840622159041910090:=0
def tw16622475990643145580:=0
def tw14292392306617517729:=0
def tw11971130579796114034:=0
def tw11408623696531555632:=0
def tw11198388801270196117:=0
def tw8770029601138628478:=0
def tw7539763571100840771:=0
def tw7240639191980452486:=0
def tw4817981600543833687:=0
def tw4307926830116509514:=0
def tw16868688195037900307:=0
def tw16826725409987885975:=0
def tw14109453767193502313:=0
def tw13298203722689827917:=0
def tw13055914441102849027:=0
def tw8521597775319928436:=0
def tw5581349078452510653:=0
def tw1897875410602398997:=0
def tw17357414001117552268:=0
def tw16980547499210933930:=0
def tw14321144422957734134:=0
def tw13888251672469135178:=0
def tw13392218115919352882:=0
def tw1304240117979556626:=0
def tw13021086612755893400:=0
def tw12632963454795662708:=0
def tw12249993202121903794:=0
def tw10154314827766144001:=0
def tw8340926499216404060:=0
def tw7750769465160294860:=0
def tw7574902415414485744:=0
def tw6714801024506940561:=0
def tw512557566824241540:=0
def tw450187942056410602:=0
def tw17843169823834903998:=0
def tw17375602352810135561:=0
def tw1703860651114587486:=0
def tw1599608497217551579:=0
def tw15104015179872336855:=0
def tw14397947794671477899:=0
def tw11858878876565515630:=0
def tw11701492411309977178:=0
def tw6178244272827954729:=0
def tw5442971307982108685:=0
def tw3797301031838899788:=0
def tw18406689318668271181:=0
def tw18101583386606535240:=0
def tw15968237232650601322:=0
def tw15860708213811878519:=0
def tw15729792075999087868:=0
def tw14800109303040266240:=0
def tw13501672401922333513:=0
def tw10602856759635532317:=0
def tw8487562230406468105:=0
def tw8089249423132065445:=0
def tw7341270039093922885:=0
def tw7134983793405793177:=0
def tw7115244209674446852:=0
def tw6093179522131556990:=0
def tw5819105399919881484:=0
def tw5708804837514111757:=0
def tw5213485622955226937:=0
def tw5140171473248983199:=0
def tw5010354932100547165:=0
def tw4992925186480290751:=0
def tw3866599564448483793:=0
def tw3104486758596841148:=0
def tw18032779900021213040:=0
def tw18027755133952139252:=0
def tw17571631200592639834:=0
def tw17065142239566038489:=0
def tw16988158499489311127:=0
def tw16964212798373946863:=0
def tw16743919102785911483:=0
def tw16283258727396688951:=0
def tw16245695487900975421:=0
def tw14775263502782431712:=0
def tw14670137783204244808:=0
def tw14585778381282314952:=0
def tw14221475358252599964:=0
def tw13647187277582396961:=0
def tw13135487405686255751:=0
def tw12996499756298277263:=0
def tw12840604464936152123:=0
def tw12357872333080808881:=0
def tw11787554532782738252:=0
def tw11560677996495128784:=0
def tw11339562753883754242:=0
def tw1069010634818593453:=0
def tw10035081181641441020:=0
def tw9642658117253805749:=0
def tw8035931760809384120:=0
def tw7848866751621661257:=0
def tw762384175361060421:=0
def tw6744984778823417519:=0
def tw6329672369177362234:=0
def tw5425565988235752197:=0
def tw3924725502804413793:=0
def tw2696157109874119690:=0
def tw18127141830633905074:=0
def tw17843839365795533554:=0
def tw17423125552162021742:=0
def tw16801269517542960672:=0
def tw1612923964453859806:=0
def tw15269425654929456476:=0
def tw1488503510874697304:=0
def tw14836224472968703893:=0
def tw1460478622569836974:=0
def tw11166862733661299840:=0
def tw10095913671755900038:=0
def tw7897135418779063302:=0
def tw5956051100702781606:=0
def tw5295854211047901153:=0
def tw4769826392853288355:=0
def tw439055297870408345:=0
def tw4074507585887532813:=0
def tw3823650005643028596:=0
def tw3566807236516140644:=0
def tw3299272117925849540:=0
def tw3015604971527890583:=0
def tw2773274263299585572:=0
def tw2064118905727727203:=0
def tw17234483976792478675:=0
def tw16180315334032665911:=0
def tw15142431143280010732:=0
def tw14977234088687162302:=0
def tw1492062709326496596:=0
def tw14560837491469231475:=0
def tw13752025206567590305:=0
def tw13587954947775276195:=0
def tw12678953225602555564:=0
def tw12296552071639831032:=0
def tw10787819557663234410:=0
def tw8039774922555296384:=0
def tw7175792842613744815:=0
def tw6350474685870504171:=0
def tw3436359320994789115:=0
def tw3121732170634265723:=0
def tw2651210568008831048:=0
def tw2520694231678862498:=0
def tw193794278739742225:=0
def tw17928405464846012575:=0
def tw17716863462265859512:=0
def tw1629198167979442983:=0
def tw15853727897521883275:=0
def tw12650994420537281789:=0
def tw12261729195969336472:=0
def tw9802983821206752271:=0
def tw9749810874003056045:=0
def tw931510637493425866:=0
def tw8938549127931359579:=0
def tw8863156965792605256:=0
def tw8783073200307453229:=0
def tw8708482821940700748:=0
def tw8612541938085228305:=0
def tw847593159352496057:=0
def tw8420131052260663755:=0
def tw8390827631967549055:=0
def tw8184033042858750843:=0
def tw7863108119856694670:=0
def tw7693350481814642131:=0
def tw7627118995241731642:=0
def tw720755081136891062:=0
def tw6704578965310311189:=0
def tw6692137819554114951:=0
def tw6690677384477064843:=0
def tw6563287387372313796:=0
def tw6406724726538629663:=0
def tw6393150591798677637:=0
def tw6252878086273825581:=0
def tw6008010531490865865:=0
def tw5533809914848052129:=0
def tw5190860397250508396:=0
def tw5168400519034163868:=0
def tw5051596291613938045:=0
def tw4933930183700603765:=0
def tw4926171350198008544:=0
def tw4566636315000093172:=0
def tw4532786408525356839:=0
def tw4169430970946328830:=0
def tw397431815971221653:=0
def tw3941131271490555836:=0
def tw3725507860900426652:=0
def tw3711776433476670718:=0
def tw3465091326942903629:=0
def tw3258786278723069861:=0
def tw3220723017206680370:=0
def tw3096949930750721708:=0
def tw2800321189394573348:=0
def tw1980078614172103820:=0
def tw18334927389422029420:=0
def tw17994301212061070119:=0
def tw17990003072128590093:=0
def tw17949153669898374660:=0
def tw17939888687896264705:=0
def tw17925923492730016652:=0
def tw17915051066750267265:=0
def tw17831088686795452451:=0
def tw17628590533929976792:=0
def tw17405045028177135956:=0
def tw17029066052626920852:=0
def tw16835956152608702361:=0
def tw16821967185522334815:=0
def tw1682181479755940848:=0
def tw16702496124019576060:=0
def tw16661212229125270991:=0
def tw16645757649517396401:=0
def tw16575673167688372683:=0
def tw16503717402094505217:=0
def tw16469943266984779137:=0
def tw16221219022901355867:=0
def tw16164986634524919498:=0
def tw15963830579283735448:=0
def tw15924826414491783191:=0
def tw15641155157065175805:=0
def tw1564093576101422265:=0
def tw15565656631415577005:=0
def tw15291515778787918541:=0
def tw15159215201983465910:=0
def tw15083788939570734299:=0
def tw14882510809304047780:=0
def tw14870940994311712039:=0
def tw14849095896601040367:=0
def tw14650229311272632197:=0
def tw14324394720252608761:=0
def tw14322595565739780087:=0
def tw13817142068744991791:=0
def tw13769731409856085057:=0
def tw13732165248360646341:=0
def tw13580389790971816817:=0
def tw13385619842731796546:=0
def tw12340981958623863397:=0
def tw12170451868844119946:=0
def tw12150866365501820893:=0
def tw11892039915525360660:=0
def tw11860059332995364445:=0
def tw11788803944947964044:=0
def tw11612187849094769778:=0
def tw11137535781475439334:=0
def tw11040902395418374828:=0
def tw10846541316933110243:=0
def tw10785498421680218836:=0
def tw10785159265526997160:=0
def tw10548826715568245312:=0
def tw10500720501580190231:=0
def tw10241033358962818077:=0
def tw10150324261921262226:=0
def tw10121643642846045468:=0
def tw10053539800044614232:=0
def tw1004593339420490729:=0
def tw9816307224394526710:=0
def tw9602979466950630956:=0
def tw912290570786946579:=0
def tw8777541643666118068:=0
def tw8722415481117505015:=0
def tw8572175281459272771:=0
def tw8568187914498332850:=0
def tw8444893750286939596:=0
def tw8125407811402774585:=0
def tw7552210041123771490:=0
def tw684210181549580303:=0
def tw6780223440767404674:=0
def tw6340304130596135008:=0
def tw6169767553621521813:=0
def tw6158425238486604569:=0
def tw5920227957080817638:=0
def tw5096499008420852698:=0
def tw3612554134655720397:=0
def tw2093290091728733057:=0
def tw17795394019121955329:=0
def tw16219145617115034907:=0
def tw15414259988211055499:=0
def tw15186367229040268510:=0
def tw1488474676173749703:=0
def tw14415884991196681418:=0
def tw1428814744893504695:=0
def tw13746588304753895505:=0
def tw11551815002882820457:=0
def tw10424792985553544811:=0
def tw10017577030591726147:=0
def tw4746302684295054048:=0
def tw4337561567144917162:=0
def tw4256779784062091372:=0
def tw4237640369940289380:=0
def tw4138905410403352593:=0
def tw404968458719316295:=0
def tw3975676623463710300:=0
def tw3855077825024126993:=0
def tw3773624442522805073:=0
def tw3760063030202703356:=0
def tw3624387153200950280:=0
def tw3427924564325372817:=0
def tw3415376743198261602:=0
def tw3268437569422444630:=0
def tw3182821167057557991:=0
def tw3017139974649574989:=0
def tw2904033067149887106:=0
def tw2780415966309772251:=0
def tw2762985067018713519:=0
def tw2642144764089699081:=0
def tw2448602276733661166:=0
def tw2265299691495554755:=0
def tw2248526150547823735:=0
def tw2217001567337907910:=0
def tw2045930578084102194:=0
def tw2020109458520273824:=0
def tw1901317781093569649:=0
def tw1856151083423349262:=0
def tw18324572440802094995:=0
def tw1818218476948158209:=0
def tw18159918767601648018:=0
def tw18133197322224867361:=0
def tw18066811921283522515:=0
def tw17868647176945168147:=0
def tw17723765623042550390:=0
def tw176977295656723065:=0
def tw17694846207451314135:=0
def tw17690871460500525271:=0
def tw17652695096001567504:=0
def tw17645572048654386869:=0
def tw17644514534155135092:=0
def tw17581992280946622230:=0
def tw17438179399263098937:=0
def tw17415715754555401154:=0
def tw17405974757215459542:=0
def tw17259577006381911698:=0
def tw17238752558760652402:=0
def tw17218974888202052536:=0
def tw17076493798685594974:=0
def tw17002439396945247550:=0
def tw16924412733494049589:=0
def tw1691102865124860179:=0
def tw16477329177891185698:=0
def tw1637453852661378490:=0
def tw16306601271817509428:=0
def tw16291882091215157828:=0
def tw16080655234471338842:=0
def tw15856698116174445793:=0
def tw15831574140416324556:=0
def tw15786528573266890262:=0
def tw15732654264858244716:=0
def tw15699315692412800413:=0
def tw1536147683505774889:=0
def tw15319796435752655959:=0
def tw15266785391687444539:=0
def tw15003257448840769609:=0
def tw14931363111589739018:=0
def tw14867130098325134529:=0
def tw14793259975867257014:=0
def tw14429984225472846677:=0
def tw13841191037290658594:=0
def tw1382559312744143635:=0
def tw13820470126673855253:=0
def tw13788262537284159298:=0
def tw13679643304169797691:=0
def tw13611136168108132581:=0
def tw13140385074510843379:=0
def tw12993445975515111361:=0
def tw12679859039530741841:=0
def tw12661369023874259431:=0
def tw11985937269989024962:=0
def tw11801650391622900179:=0
def tw11735653163353574974:=0
def tw11687504721054253588:=0
def tw11665305186481523908:=0
def tw11646379141798419536:=0
def tw11644868132232139897:=0
def tw11605670760853518920:=0
def tw11469663846147530161:=0
def tw11383850339681254435:=0
def tw11365700717142005424:=0
def tw11364142691922409913:=0
def tw11362101791794971524:=0
def tw11304072722765767021:=0
def tw11296645311156999791:=0
def tw11282886037220131173:=0
def tw11083616581157620123:=0
def tw11029396596865941829:=0
def tw10897373541712964772:=0
def tw10769681086646498438:=0
def tw10760031201136348398:=0
def tw10698238366409207256:=0
def tw1059446635175154315:=0
def tw10263077061500514125:=0
def tw10044013261082468525:=0
end PySem.W.Fast
section
open PySem PySem.W PyProof.Rows
set_option maxRecDepth 100000 in
set_option maxHeartbeats 0 in
open_top My.top for PySem.Challenge.rw_stairrooms_k47_whole_fate
end
set_option linter.all false
set_option maxRecDepth 100000
set_option maxHeartbeats 4000000
open PySem renaming Value->Va,Addr->Vb,Shared->Vc,Program->Vd,World->Ve,wpAny->Vf,model->Vg,Heap->Vh,Around->Vi,mainGlobals->Vj,Expr->Vk,FuncData->Vl,Str->Vm
open Option renaming some->Vn,none->Vo
open PySem renaming wpAny_bind->E1,wpAny_pure->E2,wpAny_setState_of->F0,wpAny_callSpecial?_slot->F1
open PySem.W renaming Frag->E3
open PySem.Heap renaming get?_push_of_some->E4,get?_push_size->E5,lt_size->E6
open List renaming length_map->E7,getElem?_eq_getElem->E8,getElem?_map->E9,mem_cons_of_mem->Fb,size_toArray->Fd,mem_cons_self->Fe,getElem?_eq_some_iff->Fg,mem_of_getElem?->Fh,mem_singleton->Fi,mem_cons->Fo,map_append->Fq,length_append->Fs,mem_append->Fx,getElem?_append_right->Fy,getElem?_append_left->Fz,getElem_mem->FA,length_cons->FC,take_length->FD,not_mem_nil->FJ,all_eq_true->FK,any_eq_true->FL,mem_append_right->FR,mem_append_left->FT,replicate->FU,getElem?_of_mem->FX,lookup_cons->FY,length_take->FZ,range->F2
open Array renaming length_toList->Fc
open PySem.F renaming plainAttrs_list->Ff,slot_list_append->Fv,type_list_append->Fw
open Option renaming map_eq_some_iff->Fj,bind_some->FG
open Int renaming toNat_natCast->Fl,toNat_of_nonneg->Fm,mul_nonneg->FE
open Bool renaming false_ne_true->Fp,eq_iff_iff->FN,and_eq_true->FO,false_eq_true->FV
open Nat renaming ne_of_lt->Ft,le_refl->Fu,lt_of_lt_of_le->FH,le_trans->FI,lt_or_ge->FW
open PySem.Str renaming ofString->FP
open Option.some renaming inj->FQ
open List renaming map->A0,mem_map->F7,take_add_one->GA,mem_filter->GC,nodup_append->GD,length_filter_le->GF,length_singleton->GG,append_nil->GJ,mem_range->GK,filter_append->GL,filter_cons->GQ,getD_eq_getElem?_getD->GV,map_cons->GY,getElem?_eq_none->Gb,length_reverse->Gh,drop_eq_getElem_cons->Gj,append_assoc->Gm,nodup_cons->Gp,nodup_nil->Gq,mem_of_mem_take->Gs,length_range->G6,filter->G7,pairwise_map->HG,getElem?_inj->HM,length_drop->HP,getElem?_take_of_lt->HR,filterMap_cons->Ha,length_pos_of_mem->He,getElem?_toArray->Hh,contains_iff_mem->Hi,pairwise_iff_getElem->Hk,range_succ->Hm,replicate_succ'->Hq,take_succ->Hu,mem_filterMap->Hw,take_of_length_le->Hz,pairwise_lt_range->IC,map_map->ID,count_pos_iff->IE,find?_cons->IF,dropLast_concat_getLast->IH,getElem?_reverse->IK,count_append->IQ,count_nil->IV,mem_or_eq_of_mem_set->IZ,getElem?_range->Ia,any_cons->Ib,length_erase_of_mem->Ie,reverse_cons->Ip,ext_getElem?->Iu,Nodup->JG,map_take->JI,lookup->JL,mem_iff_getElem->JM,dropLast_concat->JR,of_mem_zip->JS,replicate_succ->JX,any_map->Jc,filterMap_map->Jf,drop_zero->Ji,exists_cons_of_ne_nil->Jo,map_singleton->Jp,mem_of_find?_eq_some->Jt,length->Ju,take_sublist->Jv,getElem?_replicate->J3,length_eq_zero_iff->KA,getElem?_set_self->KC,range_succ_eq_map->KQ,filter_eq_nil_iff->KR,length_set->KU,foldl_cons->KW,forIn_cons->KY,count_cons->Ka,length_replicate->Kb,perm_append_comm->Kg,cons_lt_cons_iff->Kj,take_append_drop->Kl,mem_iff_getElem?->Km,getElem?_set_ne->Ko,mem_erase_of_ne->Ks,mem_of_mem_drop->Kt,reverse_append->K3,map_congr_left->K5,length_pos_iff->K6,map_drop->K9,find?_eq_none->LM,getElem?_take->LO,getElem?_drop->LP,pairwise_cons->LQ,count->LR,map_nil->Lc,map_id'->Ld,foldl->Lj
open PySem.PassesOwn renaming never->F8
open PySem.Paired renaming length->F9,snoc->Gz
open PyProof.Rows renaming boot_isinstance->GH,boot_tuple->Ga,callWith_type1->Gf,slot_tuple_getitem->Gn,boot_max->HN,boot_list->IA,boot_enumerate->JZ,boot_bool->KP,boot_int->Kh,boot_str->Ki,boot_all->Kk
open PySem renaming boot_len->GI,mem_of_lookup->Gg,list_append->LW,call->Lk
open PySem.W renaming mg_none_of->GN,nsIn->GP,tabIn->Gr,cellsFrom_some->Gu,kia_one->G8,mg_of->HS,fnOf->Hc,WalkO->II,keepIn->IS,codeIn->Io,CodeHd->Iq,tabObj->Ir,kla_obj->JV,instObj->KS,lookIn->Kp,noTabs->Kr,callWith_K->LG,methodObj->LS,kitx_list->LU,kitx_dict->LV,plainGet->Le
open Nat renaming zero_le->GO,not_lt_zero->GS,lt_of_le_of_lt->Gv,lt_irrefl->Gy,le_of_lt->HE,strongRecOn->HJ,ne_of_gt->HL,zero_add->Hd,succ_mul->Ho,le_add_right->Hs,mul_comm->Hy,div_add_mod->IG,lt_succ_of_lt->IL,lt_trichotomy->IP,mod_lt->IT,succ_le_succ->IW,lt_succ_self->IY,add_assoc->Ih,add_sub_cancel->Ik,le_of_succ_le->Iw,mod_mul_right_mod->JA,le_of_not_lt->JD,min_eq_left->JW,sub_self->Jd,mul_add_mod_self_right->Jm,mul_le_mul->Jn,add_mod_right->Jx,add_sub_cancel_left->J5,le_mul_of_pos_right->J9,le_of_eq->KI,mul_le_mul_right->Kv,pow_le_pow_right->K0,add_le_add_left->K1,mul_le_mul_left->K4,sub_zero->LY,lt_trans->LZ,succ_add->La,add_zero->Lb
open Option renaming isSome_iff_exists->GR,bind_eq_some_iff->HK,map_some->JU,map_map->Jl,isSome_map->Jw,isSome_some->LK,getD_none->Lf
open Int renaming emod_lt_of_pos->GU,emod_nonneg->Ge,mul_le_mul_of_nonneg_right->HQ,le_refl->HY,mul_le_mul->Iz,mul_le_mul_of_nonneg_left->JQ,add_mul_emod_self_right->Jb,add_mul->Kw,one_mul->Ky,lt_add_one_of_le->Kz
open Array renaming getElem?_eq_getElem->GW,getElem?_toList->G5,getElem?_eq_none->Iv,mem_toList_iff->JK,getD_eq_getD_getElem?->Ja,getElem?_eq_some_iff->Jk,toList_filterMap->KO,size_map->Ku,ext_getElem?->LL,forIn_toList->LN
open Classical renaming byContradiction->GX,axiomOfChoice->Hv
open False renaming elim->GZ
open Ne renaming symm->Gi
open PySem.Heap renaming get?_update_other->Gk,size_push->Gx,get?_update_self->G0,SameBut->Hn,get?_none_of_le->JJ,ExtBut->JN
open PySem.PyData renaming eqv->Gw,eqvAll->JH,canLayAll0->LX
open PySem.SetTable renaming leap->G9,bits->HH,turns->HW,insertAt->HZ,sizeAbove->Hg,runEnd->Hl,grown->IU,fits->Jz,advance->J7,fill->K7,tooFull->Lh
open Prod renaming ext->HF
open PySem.F renaming slot_dict_keyiterator_next->HI,slot_tuple_iterator_next->Hf,plain_max_loop->Ht,called_set->IB,slot_enumerate_next->IJ,slot_list_getattribute->Ig,slot_list_pop->JB,type_list_pop->JC,args_dict_keyiterator_next_1->JE,entry_dict_keyiterator_next->JO,args_tuple_iterator_next_1->JT,entry_tuple_iterator_next->JY,slot_dict_getitem->Js,slot_list_extend->J1,type_list_extend->J2,args_enumerate_next_1->J4,slot_list_index->J6,typeCall_enumerate_1->KL,entry_enumerate_next->KN,newCall_enumerate_1->Kd,entry_enumerate_new->Ke
open List.Pairwise renaming imp_of_mem->HV,filter->JP
open PySem.Around renaming under_plainId->HX,frames_deeper->Kq
open PySem.Heap.SameBut renaming update->Hb
open PySem.Builtin.Slice renaming slicePlaces->Hj,sliceAdjust->Jq
open Bool renaming eq_false_iff->Hr,and_false->Jh
open PySem.Obj renaming mapSeq->Hx,data_mapFields->Ij,putSet->JF,isFreed_of_fields->Kc
open PySem.SetTable.probe renaming go->IM
open PySem.Builtin.List renaming listTooLong->Ic,listSameRef->Jy
open PySem.Calls renaming spliced_cons->Ii,spliced_nil->Im,Name_function_global->Je,callWith_builtin->KG
open PyProof.Rows.F renaming plain_set_update_loop->Il,entry_set_update_loop->J8
open PySem.SetTable.layClean renaming free->Iy
open PySem.Builtin.Tuple renaming tupleItemsOf->Jg
open PySem.Value.type renaming inj->Jj
open PySem.Builtin.SmallTypes renaming nextOf->Jr
open PySem.Env renaming cells->KZ
open PySem.Builtin.Dict renaming showsAll->Kf
open Function renaming comp_apply->K2
open PySem.DictEntry renaming key->K8
open PySem.SeqAt.EqAt renaming int_str->LA,str_int->LD
open PySem.Heap.IsSliceOf renaming new->LH
open PySem.Walks renaming list->LJ
open PySem.IsL renaming update->Lg
open Sum.inl renaming inj->Li
abbrev F3:=@decide_eq_false
abbrev F4:=@decide_eq_true
abbrev F5:=@if_neg
abbrev F6:=@if_pos
noncomputable section
namespace L2
open PySem PySem.Spec PyProof.Rows
abbrev Key:=Sum Int Vm
def je:Key->Va->Bool
 | .inl k,v=>Value.isInt k v
 | .inr x,v=>Value.isStrOf x v
def CO(w:Ve):Key->Int
 | .inl k=>hashInt k
 | .inr x=>hashStr w x
def gy:∀{k} {v},je k v=true->(∃i t,k=Sum.inl i/\v=Value.int i t)\/(∃x t,k=Sum.inr x/\v=Value.str x t)
 | .inl i,v,h=>by obtain⟨t,e⟩:=Value.isInt_shape (k:=i) (v:=v) h;exact .inl ⟨i,t,rfl,e⟩
 | .inr x,v,h=>by obtain⟨t,e⟩:=Value.isStrOf_shape (x:=x) (v:=v) h;exact .inr ⟨x,t,rfl,e⟩
def AZ(i)(t):je (.inl i) (.int i t)=true:=by simp[je,Value.isInt]
def zi(x)(t):je (.inr x) (.str x t)=true:=by simp[je,Value.isStrOf]
def AF(a b):decide ((Sum.inl a:Key)=Sum.inl b)=(a == b):=by
 by_cases e:a=b
 .subst e;simp
 .have h:¬(Sum.inl a:Key)=Sum.inl b:=λq=>e (Li q);rw[F3 h];exact(beq_eq_false_iff_ne.mpr e).symm
def Ao(a b):decide ((Sum.inr a:Key)=Sum.inr b)=decide (a=b):=by
 by_cases e:a=b
 .simp
 .have h:¬(Sum.inr a:Key)=Sum.inr b:=λq=>e (Sum.inr.inj q);rw[F3 h,F3 e]
def A2(a)(b):decide ((Sum.inl a:Key)=Sum.inr b)=false:=F3 (λq=>nomatch q)
def Bz(a)(b):decide ((Sum.inr a:Key)=Sum.inl b)=false:=F3 (λq=>nomatch q)
def bS(prog:Vd)(w:Ve):PySem.KeyKind prog w Key where
 is:=je
 hash:=CO w
 inj:=λv a b ha hb=>by
  rcases gy ha with⟨i,t,rfl,rfl⟩|⟨x,t,rfl,rfl⟩
  .rcases gy hb with⟨j,u,rfl,e⟩|⟨y,u,rfl,e⟩
   .injection e with c _;rw[c]
   .exact nomatch e
  .rcases gy hb with⟨j,u,rfl,e⟩|⟨y,u,rfl,e⟩
   .exact nomatch e
   .injection e with c _;rw[c]
 byValue:=λk v h=>by rcases gy h with⟨i,t,rfl,rfl⟩|⟨x,t,rfl,rfl⟩<;>rfl
 pyHash:=λd h=>by
  rcases gy d with⟨i,t,rfl,rfl⟩|⟨x,t,rfl,rfl⟩
  .exact wpAny_pyHash_int h
  .exact wpAny_pyHash_str h
 eqBool:=λf d h=>by
  rcases gy f with⟨i,t,rfl,rfl⟩|⟨x,t,rfl,rfl⟩
  .rcases gy d with⟨j,u,rfl,rfl⟩|⟨y,u,rfl,rfl⟩
   .rw[AF]at h;exact wpAny_eqBool_int h
   .rw[A2]at h;exact LA i t y u _ _ _ _ h
  .rcases gy d with⟨j,u,rfl,rfl⟩|⟨y,u,rfl,rfl⟩
   .rw[Bz]at h;exact LD x t j u _ _ _ _ h
   .rw[Ao]at h;exact wpAny_eqBool_str h
 «strs»:=λk x t v h=>by
  rcases gy h with⟨i,u,rfl,e⟩|⟨y,u,rfl,e⟩
  .exact nomatch e
  .injection e with c _
   subst c;cases v<;>rfl
def Cy(prog)(w)(i)(t):(bS prog w).is (.inl i) (.int i t)=true:=AZ i t
def og(prog)(w)(x)(t):(bS prog w).is (.inr x) (.str x t)=true:=zi x t
inductive V where
 | non|bl (b:Bool)|int (i:Int)|str (x:Vm)|byt (b:Array UInt8)|flt (b:UInt64)|ref (a:Vb)|ty (n:String)
 deriving DecidableEq
def RelV:V->Va->Prop
 | .non,u=>u=Value.none
 | .bl b,u=>u=Value.bool b
 | .int i,u=>∃t,u=Value.int i t
 | .str x,u=>∃t,u=Value.str x t
 | .byt b,u=>∃t,u=Value.bytes b t
 | .flt b,u=>∃t,u=Value.float b t
 | .ref a,u=>u=Value.ref a
 | .ty n,u=>u=Value.type n
abbrev Vals:List V->List Va->Prop:=Paired RelV
theorem Vals.length{xs:List V}{us:List Va}(r:Vals xs us):xs.length=us.length:=F9 r
theorem Vals.get:∀{xs:List V} {us:List Va} {i:Nat} {x:V},Vals xs us->xs[i]?=Vn x->∃u,us[i]?=Vn u/\RelV x u
 | _,_,_,_,.nil,e=>by simp at e
 | _,_,0,_,.cons r _,e=>by simp at e;subst e;exact⟨_,rfl,r⟩
 | _,_,i+1,x,.cons _ t,e=>by obtain⟨u,h1,h2⟩:=Vals.get (i:=i) (x:=x) t (by simpa using e);exact⟨u,by simpa using h1,h2⟩
theorem Vals.set{x:V}{u:Va}(r:RelV x u):∀{xs:List V} {us:List Va} (i:Nat),Vals xs us->Vals (xs.set i x) (us.set i u)
 | _,_,_,.nil=>.nil
 | _,_,0,.cons _ t=>.cons r t
 | _,_,i+1,.cons q t=>.cons q (Vals.set r i t)
theorem Vals.append:∀{xs ys:List V} {us ws:List Va},Vals xs us->Vals ys ws->Vals (xs++ys) (us++ws)
 | _,_,_,_,.nil,s=>s
 | _,_,_,_,.cons r t,s=>.cons r (Vals.append t s)
theorem Vals.take:∀{xs:List V} {us:List Va} (n:Nat),Vals xs us->Vals (xs.take n) (us.take n)
 | _,_,0,_=>.nil
 | _,_,_+1,.nil=>.nil
 | _,_,n+1,.cons r t=>.cons r (Vals.take n t)
theorem Vals.drop:∀{xs:List V} {us:List Va} (n:Nat),Vals xs us->Vals (xs.drop n) (us.drop n)
 | _,_,0,r=>r
 | _,_,_+1,.nil=>.nil
 | _,_,n+1,.cons _ t=>Vals.drop n t
def fL:Option V->Option Va->Prop
 | some v,Vn u=>RelV v u
 | none,Vo=>True
 | _,_=>False
def KV{κ:Type}:List (κ×V)->List (κ×Va)->Prop:=Paired λ(p:κ×V) (q:κ×Va)=>p.1=q.1/\RelV p.2 q.2
def kV:Key->V
 | .inl i=>.int i
 | .inr x=>.str x
inductive HO where
 | lst (xs:List V)
 | tup (xs:List V)
 | dK (kvs:List (Key×V))|dT (kvs:List (List Key×V))
 | set (S:Int->Bool) (n:Nat)
 | ins (C dx:Vb) (fs:List (Vm×V))
 | own (x:Vb)
 | xd (fs:List (Vm×V))
 | met (f x:Vb)
 | rng (lo hi:Int)
 | frz (o:Obj) (u:HO)
 | tbl (ps:Array Va)
 | ext (φ:Vh->Prop)
abbrev Hp:=Vb->Option HO
def upd(H:Hp)(a:Vb)(o:HO):Hp:=λb=>if b=a then Vn o else H b
def aF:upd H a o a=Vn o:=by unfold upd;rw[F6 rfl]
def aB(h:b≠a):upd H a o b=H b:=by unfold upd;rw[F5 h]
def bp{H:Hp}(h:H a=Vn o)(h':H b=Vn u)(d:o≠u):a≠b:=by intro e;subst e;rw[h]at h';exact d (FQ h')
def cG{H:Hp}(h:H a=Vn o)(h':H b=Vo):a≠b:=by intro e;subst e;rw[h]at h';cases h'
section
variable (P:Vd) (w:Ve)
def bN(H:Hp)(h:Vh)(a:Vb):HO->Prop
 | .lst xs=>xs.length<=sizeLine/\∃(b:List Va) (n:Nat),Vals xs b/\h.get? a=Vn { cls:=.type "list",data:=.seq b.toArray n }
 | .tup xs=>xs.length<=sizeLine/\∃b:List Va,Vals xs b/\IsTup h a b.toArray
 | .dK kvs=>kvs.length<=sizeLine/\(a == sysModules)=false/\∃vs,KV kvs vs/\h.DictOf (bS P w) a vs
 | .dT kvs=>kvs.length<=sizeLine/\(a == sysModules)=false/\∃xs:List (List Key×Vb×Va),
   Paired (λ(p:List Key×V) (q:List Key×Vb×Va)=>p.1=q.1/\H q.2.1=Vn (.tup (p.1.map kV))/\RelV p.2 q.2.2) kvs xs ∧
   ∃o es ep,h.get? a=Vn o/\o.ExactDict/\o.data=.dict es ep/\es.toList=xs.map (entryOfKey (tupleKind (bS P w)))/\(xs.map (·.1)).Nodup
 | .set S n=>h.SetOf (intKind P w) a S n
 | .ins C dx fs=>H dx=Vn (.own a)/\fs.length<=1000/\dx≠a/\h.get? a=Vn (KS C dx) ∧
   ∃mA,h.Ns1 dx mA/\(∀f,fL (fs.lookup f) (mA f))/\PySem.Within mA (fs.map (·.1))
 | .own _=>∃o,h.get? a=Vn o
 | .xd fs=>∃mA,h.Ns1 a mA/\∀f,fL (fs.lookup f) (mA f)
 | .rng lo hi=>∃t u v,h.get? a=Vn { cls:=.type "range",data:=.fields #[.int lo t,.int hi u,.int 1 v] }
 | .frz o u=>h.get? a=Vn o/\bN H h a u
 | .tbl ps=>h.get? a=Vn { cls:=.none,data:=.fields ps }
 | .met f x=>h.get? a=Vn (LS (.ref f) (.ref x))
 | .ext φ=>φ h/\(∃o,h.get? a=Vn o)/\∀h1 h2:Vh,φ h1->(∀o,h1.get? a=Vn o->h2.get? a=Vn o)->φ h2
def bK(H:Hp)(h:Vh):Prop:=∀a o,H a=Vn o->bN P w H h a o
end
section
variable {P:Vd} {w:Ve} {H H':Hp} {h h':Vh} {a:Vb} {o:HO}
theorem bN.lt(x:bN P w H h a o):a<h.objs.size:=by
 cases o with
 | lst xs=>obtain⟨_,_,_,_,e⟩:=x;exact E6 e
 | tup xs=>obtain⟨_,_,_,p⟩:=x;exact p.lt
 | dK kvs=>obtain⟨_,_,_,_,o,_,_,e,_⟩:=x;exact E6 e
 | dT kvs=>obtain⟨_,_,_,_,o,_,_,e,_⟩:=x;exact E6 e
 | set S n=>obtain⟨o,_,_,_,e,_⟩:=x;exact E6 e
 | ins C dx fs=>obtain⟨_,_,_,e,_⟩:=x;exact E6 e
 | own y=>obtain⟨_,e⟩:=x;exact E6 e
 | xd fs=>obtain⟨_,⟨_,_,_,e,_⟩,_⟩:=x;exact E6 e
 | rng lo hi=>obtain⟨_,_,_,e⟩:=x;exact E6 e
 | frz b u=>obtain⟨e,_⟩:=x;exact E6 e
 | tbl ps=>exact E6 (x)
 | met f y=>exact E6 (x)
 | ext φ=>obtain⟨_,⟨_,e⟩,_⟩:=x;exact E6 e
theorem Paired.mapP{α β:Type}{F G:α->β->Prop}:∀{l₁:List α} {l₂:List β},Paired F l₁ l₂->(∀a b,F a b->G a b)->Paired G l₁ l₂
 | _,_,.nil,_=>.nil
 | _,_,.cons r t,f=>.cons (f _ _ r) (Paired.mapP t f)
def bN.stay(x:bN P w H h a o)(k:∀b u,(b=a\/H b=Vn (.own a))->h.get? b=Vn u->h'.get? b=Vn u)
  (ho:∀b,H b=Vn (.own a)->H' b=Vn (.own a)) (j:∀b xs,H b=Vn (.tup xs)->H' b=Vn (.tup xs)):bN P w H' h' a o:=by
 induction o with
 | lst xs=>obtain⟨z,i,n,r,e⟩:=x;exact⟨z,i,n,r,k _ _ (.inl rfl) e⟩
 | tup xs=>obtain⟨z,i,r,g,e,c⟩:=x;exact⟨z,i,r,g,k _ _ (.inl rfl) e,c⟩
 | dK kvs=>obtain⟨z,y,vs,r,g,es,ep,e,c⟩:=x;exact⟨z,y,vs,r,g,es,ep,k _ _ (.inl rfl) e,c⟩
 | dT kvs=>
  obtain⟨z,y,xs,r,g,es,ep,e,c⟩:=x;exact⟨z,y,xs,Paired.mapP r λp q z=>⟨z.1,j _ _ z.2.1,z.2.2⟩,g,es,ep,k _ _ (.inl rfl) e,c⟩
 | set S n=>obtain⟨g,es,ep,t,e,c⟩:=x;exact⟨g,es,ep,t,k _ _ (.inl rfl) e,c⟩
 | ins C dx fs=>
  obtain⟨d,z,ne,e,mA,⟨od,es,ep,l,c⟩,r⟩:=x;exact⟨ho _ d,z,ne,k _ _ (.inl rfl) e,mA,⟨od,es,ep,k _ _ (.inr d) l,c⟩,r⟩
 | own y=>obtain⟨g,e⟩:=x;exact⟨g,k _ _ (.inl rfl) e⟩
 | xd fs=>obtain⟨mA,⟨od,es,ep,e,c⟩,r⟩:=x;exact⟨mA,⟨od,es,ep,k _ _ (.inl rfl) e,c⟩,r⟩
 | rng lo hi=>obtain⟨t,u,v,e⟩:=x;exact⟨t,u,v,k _ _ (.inl rfl) e⟩
 | frz g u m=>obtain⟨e,q⟩:=x;exact⟨k _ _ (.inl rfl) e,m q⟩
 | tbl ps=>
  have e:h.get? a=Vn { cls:=.none,data:=.fields ps }:=x;exact k a _ (.inl rfl) e
 | met f y=>
  have e:h.get? a=Vn (LS (.ref f) (.ref y)):=x;exact k a _ (.inl rfl) e
 | ext φ=>obtain⟨p,⟨o,e⟩,st⟩:=x;exact⟨st _ _ p λo q=>k _ _ (.inl rfl) q,⟨o,k _ _ (.inl rfl) e⟩,st⟩
theorem bK.lt(x:bK P w H h)(e:H a=Vn o):a<h.objs.size:=(x a o e).lt
def bK.fresh(x:bK P w H h)(e:h.objs.size<=a):H a=Vo:=by
 cases q:H a with
 | none=>rfl
 | some u=>exact absurd (FH (x.lt q) e) (Gy _)
def bK.kept(x:bK P w H h)(k:∀b u,h.get? b=Vn u->h'.get? b=Vn u):bK P w H h':=λa o e=>
 (x a o e).stay (λb u _ q=>k b u q) (λ_ q=>q) λ_ _ q=>q
def bK.laid(x:bK P w H h)(k:∀b u,h.get? b=Vn u->h'.get? b=Vn u)(f:h.objs.size<=a)(new:bN P w (upd H a o) h' a o):bK P w (upd H a o) h':=λb u e=>by
 have d:=x.fresh f;by_cases hb:b=a
 .subst hb;rw[aF]at e;cases e;exact new
 .rw[aB hb]at e;exact(x b u e).stay (λc v _ q=>k c v q) (λc q=>by rw[aB (cG q d)];exact q) λc xs q=>by rw[aB (cG q d)];exact q
end
def Rd(H:Hp)(a:Vb)(u:HO):Prop:=H a=Vn u\/∃o,H a=Vn (.frz o u)
def Rd.ok(r:Rd H a u)(x:bK P w H h):bN P w H h a u:=by
 rcases r with r|⟨o,r⟩
 .exact x a u r
 .obtain⟨_,q⟩:=x a _ r;exact q
def ju:Option HO->Prop
 | some (.lst _)=>True
 | some (.dK _)=>True
 | some (.dT _)=>True
 | some (.set _ _)=>True
 | some (.ins _ _ _)=>True
 | some (.ext _)=>True
 | _=>False
section
variable {P:Vd} {w:Ve} {H:Hp} {h h':Vh} {x e:Vb} {o':HO}
def bK.write(ok:bK P w H h)(d:ju (H x))(i:e=x\/H e=Vn (.own x))(k:∀b u,b≠e->h.get? b=Vn u->h'.get? b=Vn u)(g:∃u,h'.get? e=Vn u)
  (new:bN P w (upd H x o') h' x o'):bK P w (upd H x o') h':=λb u q=>by
 have nown:∀c y,H c=Vn (.own y)->c≠x:=λc y r z=>by subst z;rw[r]at d;exact d
 have ntup:∀c xs,H c=Vn (.tup xs)->c≠x:=λc xs r z=>by subst z;rw[r]at d;exact d
 by_cases hb:b=x
 .subst hb;rw[aF]at q;cases q;exact new
 .rw[aB hb]at q;by_cases a:b=e
  .have j:H b=Vn (.own x):=by
    rcases i with z|z
    .exact absurd (a.trans z) hb
    .rw[a];exact z
   rw[q]at j;cases j;obtain⟨v,l⟩:=g;exact⟨v,by rw[a];exact l⟩
  .refine(ok b u q).stay (λc v f r=>k c v ?_ r) (λc r=>by rw[aB (nown c b r)];exact r) λc xs r=>by rw[aB (ntup c xs r)];exact r
   rcases f with rfl|f
   .exact a
   .rintro rfl;rcases i with z|z
    .exact nown c b f z
    .rw[f]at z;cases z;exact hb rfl
end
structure Un(fs ex:List Vb)(H H':Hp)(h h':Vh):Prop where
 keep:∀b o,h.get? b=Vn o->H b=Vo->b∉fs->b∉ex->h'.get? b=Vn o
 slot:∀b o,h.get? b=Vn o->H b=Vo->b∈fs->b∉ex->∃sl,h'.get? b=Vn { o with slots:=sl }
 free:∀b o,h.get? b=Vn o->H b=Vo->b∉ex->H' b=Vo
 there:∀b o,h.get? b=Vn o->b∉ex->∃o',h'.get? b=Vn o'
 tups:∀b xs,H b=Vn (.tup xs)->H' b=Vn (.tup xs)
 frzs:∀b o u,H b=Vn (.frz o u)->H' b=Vn (.frz o u)
 tbls:∀b ps,H b=Vn (.tbl ps)->∃more,H' b=Vn (.tbl (ps++more))
section
variable {fs fs' ex ex':List Vb} {H H1 H2:Hp} {h h1 h2 h':Vh} {a x e:Vb} {o:HO}
def Un.any(u:Un fs ex H H1 h h1){a:Obj}(q:h.get? b=Vn a)(n:H b=Vo)(c:b∉ex):∃sl,h1.get? b=Vn { a with slots:=sl }:=by
 by_cases hb:b∈fs
 .exact u.slot b a q n hb c
 .exact⟨a.slots,u.keep b a q n hb c⟩
def Un.kept(k:∀b u,h.get? b=Vn u->h'.get? b=Vn u):Un fs ex H H h h':=
 ⟨λb a q _ _ _=>k b a q,λb a q _ _ _=>⟨a.slots,k b a q⟩,λ_ _ _ n _=>n,λb a q _=>⟨a,k b a q⟩,λ_ _ q=>q,λ_ _ _ q=>q,λ_ ps q=>⟨#[],by rw[q];simp⟩⟩
def Un.refl:Un fs ex H H h h:=Un.kept λ_ _ q=>q
def Un.laid(k:∀b u,h.get? b=Vn u->h'.get? b=Vn u)(d:h.objs.size<=a)(c:H a=Vo):Un fs ex H (upd H a o) h h' where
 keep:=λb u q _ _ _=>k b u q
 slot:=λb u q _ _ _=>⟨u.slots,k b u q⟩
 free:=λb u q n _=>by rw[aB (Ft (FH (E6 q) d))];exact n
 there:=λb u q _=>⟨u,k b u q⟩
 tups:=λb xs q=>by rw[aB (cG q c)];exact q
 frzs:=λb u xs q=>by rw[aB (cG q c)];exact q
 tbls:=λb ps q=>⟨#[],by rw[aB (cG q c),q];simp⟩
def Un.write(c:ju (H x))(i:e=x\/H e=Vn (.own x))(k:∀b u,b≠e->h.get? b=Vn u->h'.get? b=Vn u)(d:∃u,h'.get? e=Vn u):Un fs ex H (upd H x o) h h':=by
 have g:∀b,H b=Vo->b≠x:=λb n z=>by subst z;rw[n]at c;exact c
 have hb:∀b,H b=Vo->b≠e:=λb n z=>by
  subst z;rcases i with r|r
  .exact g b n r
  .rw[n]at r;cases r
 have f:∀b u,H b=Vn u->¬ju (Vn u)->b≠x:=λb u q nm z=>by subst z;rw[q]at c;exact nm c
 refine⟨λb u q n _ _=>k b u (hb b n) q,λb u q n _ _=>⟨u.slots,k b u (hb b n) q⟩,λb u q n _=>by rw[aB (g b n)];exact n,λb u q _=>?_,
  λb xs q=>by rw[aB (f b _ q λz=>z)];exact q,λb u xs q=>by rw[aB (f b _ q λz=>z)];exact q,λb ps q=>⟨#[],by rw[aB (f b _ q λz=>z),q];simp⟩⟩
 by_cases a:b=e
 .subst a;exact d
 .exact⟨u,k b u a q⟩
end
def l7(h:Vh)(H:Hp):List Vb:=(F2 h.objs.size).filter λa=>(H a).isSome
def gq(h:Vh)(H:Hp):Vh:=PySem.W.hideAll h (l7 h H)
def y6(h)(H):(gq h H).objs.size=h.objs.size:=PySem.W.hideAll_size _ _
def l6(e:h.get? b=Vn o)(n:H b=Vo):(gq h H).get? b=Vn o:=
 PySem.W.hideAll_get _ e λa=>by have q:(H b).isSome=true:=(GC.mp a).2;rw[n]at q;simp at q
def B2(e:(gq h H).get? b=Vn o):h.get? b=Vn o/\H b=Vo:=by
 have e':h.get? b=Vn o:=PySem.W.of_hideAll (l7 h H) e;refine⟨e',?_⟩;cases q:H b with
 | none=>rfl
 | some x=>
  have a:b∈l7 h H:=GC.mpr ⟨GK.mpr (E6 e'),by simp[q]⟩;have z:(gq h H).get? b=Vo:=PySem.W.hideAll_none (l7 h H) a;rw[z]at e;cases e
structure Mod(K:E3)(mg:Vm->Option Va)(base:Vh):Prop where
 kin:K.In base
 glob:base.Ns Vj mg
 blt:∃mb,base.Ns builtinsNs mb/\∀x:Vm,x≠"__name__"->mb x=bootBuiltins x
 nolimit:base.NoLimit
structure Cx where
 prog:Vd
 w:Ve
 K:E3
 mg:Vm->Option Va
 base:Vh
 A:Vi
 N:List Vm
 s₀:Vc
 H₀:Hp
 env:Env
 outer:List Env
 stack:List Env
 ex:List Vb
 fn:Vm->Bool
 calm:Bool
 pn:List (Vb×Obj)
 xe:Va->Vc->Prop
variable {a tg:Vk}{t' n:Nat}{ch fp:List Vb}{M:Model}{A:Vi}{E:Va->Vc->Prop}{v:V}{u:Va}{s:Vc}{pins:List (Vb×Obj)}{H:Hp}{P:Vd}{w:Ve}{h:Vh}{xs:List V}{us:List Va}
def dZ(l:List Env):List Vb:=l.filterMap (·.frame)
abbrev Cx.fs(X:Cx):List Vb:=dZ X.outer
def lz(sc:Scope)(x:Vm):Prop:=sc.names.lookup x=Vn .local\/sc.names.lookup x=Vn .cell\/sc.names.lookup x=Vn .free
def Loc(sc:Scope)(x:Vm):Prop:=sc.names.lookup x=Vn .local\/sc.names.lookup x=Vn .cell
def Look(env:Env)(h:Vh)(m:Vm->Option Va)(x:Vm)(u:Va):Prop:=
 (env.kindOf x=Vn .local/\m x=Vn u)\/((env.kindOf x=Vn .cell\/env.kindOf x=Vn .free)/\∃c,env.cells.lookup x=Vn c/\h.IsCell c (Vn u))
structure Cx.Ok(X:Cx):Prop where
 mod:Mod X.K X.mg X.base
 kind:X.env.scope.kind=.function
 glob:X.env.globals=Vj
 blt:X.env.builtins=builtinsNs
 above:X.s₀.heap.objs.size<=X.env.locals
 inj:∀x y c,X.env.cells.lookup x=Vn c->X.env.cells.lookup y=Vn c->x=y
 has:∀x,(X.env.kindOf x=Vn .cell\/X.env.kindOf x=Vn .free)->∃c,X.env.cells.lookup x=Vn c
 cab:∀x c,X.fn x=true->X.env.cells.lookup x=Vn c->X.s₀.heap.objs.size<=c
 hd:X.calm=true->X.A.handled=Vo
 frames:X.A.frames=Vn X.stack
 stk:X.stack=X.outer\/(X.stack=X.env::X.outer/\X.env.frame=Vn X.env.locals)
 exf:∀b∈X.ex,b≠X.env.locals/\∀x c,X.env.cells.lookup x=Vn c->c≠b
 bs:∀b o,X.base.get? b=Vn o->X.s₀.heap.get? b=Vn o/\X.H₀ b=Vo
 bsz:X.base.objs.size<=X.s₀.heap.objs.size
 noex:∀b o,X.base.get? b=Vn o->b∉X.ex
 exfs:∀b∈X.ex,b∉X.fs
 funs:X.s₀.heap.FunFrames X.base X.outer
 frf:∀b∈X.fs,X.H₀ b=Vo
structure Inv(X:Cx)(pins:List (Vb×Obj))(σ:List (Option V))(H:Hp)(s:Vc):Prop where
 ok:X.Ok
 os:s.os=X.s₀.os
 bare:AllBare s.gens
 base:Un X.fs X.ex X.H₀ H X.s₀.heap s.heap
 loc:∃m,s.heap.Ns X.env.locals m/\∀(i:Nat) (x:Vm) (v:V),X.N[i]?=Vn x->σ[i]?=Vn (Vn v)->lz X.env.scope x->∃u,RelV v u/\Look X.env s.heap m x u
 cell:∀x c,X.env.cells.lookup x=Vn c->∃v,s.heap.IsCell c v
 free:H X.env.locals=Vo
 freeC:∀x c,X.env.cells.lookup x=Vn c->H c=Vo
 pin:∀p∈X.pn++pins,s.heap.get? p.1=Vn p.2/\H p.1=Vo/\p.1≠X.env.locals/\p.1∉X.fs/\∀v,p.2.data≠.cell v
 hok:bK X.prog X.w H s.heap
 len:σ.length=X.N.length
section
variable {X:Cx} {pins:List (Vb×Obj)} {σ:List (Option V)} {H H':Hp} {s:Vc} {h':Vh}
def Cx.Ok.nofr(ok:X.Ok)(e:X.base.get? b=Vn o):b∉X.fs:=λhb=>by have:=(ok.funs.mem hb).1;rw[e]at this;cases this
theorem Inv.bs(I:Inv X pins σ H s):∀b o,X.base.get? b=Vn o->s.heap.get? b=Vn o/\H b=Vo:=λb o e=>
 ⟨I.base.keep b o (I.ok.bs b o e).1 (I.ok.bs b o e).2 (I.ok.nofr e) (I.ok.noex b o e),I.base.free b o (I.ok.bs b o e).1 (I.ok.bs b o e).2 (I.ok.noex b o e)⟩
def Inv.bk(I:Inv X pins σ H s):∀b o,X.base.get? b=Vn o->s.heap.get? b=Vn o:=λb o e=>(I.bs b o e).1
theorem Inv.mod(I:Inv X pins σ H s):Mod X.K X.mg X.base:=I.ok.mod
def Inv.kIn(I:Inv X pins σ H s):X.K.In s.heap:=I.ok.mod.kin.keeps I.bk
theorem Inv.lt(I:Inv X pins σ H s):X.env.locals<s.heap.objs.size:=let ⟨_,hn,_⟩:=I.loc;hn.lt
def Inv.sz(I:Inv X pins σ H s):X.s₀.heap.objs.size<=s.heap.objs.size:=FI I.ok.above (HE I.lt)
def Inv.nofs(I:Inv X pins σ H s){a:Vb}(h:s.heap.objs.size<=a):a∉X.fs:=λhb=>by obtain⟨_,o,ho,_⟩:=I.ok.funs.mem hb;exact absurd (FH (E6 ho) (FI I.sz h)) (Gy _)
def Inv.cne(I:Inv X pins σ H s):∀x c,X.env.cells.lookup x=Vn c->c≠X.env.locals:=λx c e z=>by obtain⟨v,o,ho,hd⟩:=I.cell x c e;obtain⟨m,⟨o',es,ep,a,b,_⟩,_⟩:=I.loc;rw[z,a]at ho;cases ho;rw[b]at hd;cases hd
theorem Inv.funs(I:Inv X pins σ H s):s.heap.FunFrames X.base X.outer:=by
 have all:∀l,(∀b∈dZ l,b∈X.fs)->X.s₀.heap.FunFrames X.base l->s.heap.FunFrames X.base l:=by
  intro l;induction l with
  | nil=>intro _ _;trivial
  | cons env r d=>
   intro hs f;obtain⟨g,⟨L,o,a,h,ho,hd⟩,i⟩:=f;have c:L∈X.fs:=hs L (by unfold dZ;rw[Ha,a];exact Fe);obtain⟨sl,e⟩:=I.base.slot L o ho (I.ok.frf L c) c λz=>I.ok.exfs L z c;exact⟨g,⟨L,_,a,h,e,hd⟩,d (λb hb=>hs b (by unfold dZ;rw[Ha,a];exact Fb _ hb)) i⟩
 exact all X.outer (λ_ hb=>hb) I.ok.funs
theorem Inv.stack(I:Inv X pins σ H s):s.heap.FunFrames X.base X.stack:=by
 rcases I.ok.stk with e|⟨e,a⟩
 .rw[e];exact I.funs
 .rw[e];obtain⟨m,b,_⟩:=I.loc;refine .cons (by rw[I.ok.kind];decide) a b ?_ I.funs;exact JJ (FI I.ok.bsz I.ok.above)
def Inv.stkSub(I:Inv X pins σ H s):∀b∈dZ X.stack,b∈X.env.locals::X.fs:=λb hb=>by
 rcases I.ok.stk with e|⟨e,a⟩
 .rw[e]at hb;exact Fb _ hb
 .rw[e]at hb;unfold dZ at hb;rw[Ha,a]at hb;exact hb
def Inv.stkFree(I:Inv X pins σ H s):∀b∈dZ X.stack,H b=Vo:=λb hb=>by
 rcases Fo.mp (I.stkSub b hb)with e|hb
 .rw[e];exact I.free
 .obtain⟨_,o,ho,_⟩:=I.ok.funs.mem hb;exact I.base.free b o ho (I.ok.frf b hb) λz=>I.ok.exfs b z hb
def Inv.step(I:Inv X pins σ H s)
  (hch:∀b∈ch,(b∈X.ex\/X.s₀.heap.objs.size<=b)/\b≠X.env.locals/\(∀x c,X.env.cells.lookup x=Vn c->c≠b)/\∀p∈X.pn++pins,p.1≠b)
  (keep:∀b o,b≠X.env.locals->b∉X.fs->b∉ch->s.heap.get? b=Vn o->H b=Vo->h'.get? b=Vn o)
  (slot:∀b o,b≠X.env.locals->b∈X.fs->b∉ch->s.heap.get? b=Vn o->H b=Vo->∃sl,h'.get? b=Vn { o with slots:=sl }) (free:∀b o,b∉ch->s.heap.get? b=Vn o->H b=Vo->H' b=Vo)
  (there:∀b o,b∉ch->s.heap.get? b=Vn o->∃o',h'.get? b=Vn o')
  (tups:∀b xs,H b=Vn (.tup xs)->H' b=Vn (.tup xs)) (frzs:∀b o u,H b=Vn (.frz o u)->H' b=Vn (.frz o u)) (tbls:∀b ps,H b=Vn (.tbl ps)->∃more,H' b=Vn (.tbl (ps++more)))
  (ns:∀m,s.heap.Ns X.env.locals m->h'.Ns X.env.locals m) (hok:bK X.prog X.w H' h') (C:AllBare g') :
  Inv X pins σ H' { s with heap:=h',gens:=g',drawn:=d',toks:=t' }:=by
 have neL:∀b o,X.s₀.heap.get? b=Vn o->b≠X.env.locals:=λb o e=>Ft (FH (E6 e) I.ok.above);have neC:∀b o,X.s₀.heap.get? b=Vn o->b∉X.ex->b∉ch:=λb o e a hb=>by
  rcases(hch b hb).1 with z|z
  .exact a z
  .exact absurd (FH (E6 e) z) (Gy _)
 have cellK:∀x c,X.env.cells.lookup x=Vn c->∀v,s.heap.IsCell c v->h'.IsCell c v:=λx c e v ⟨o,ho,hd⟩=>by
  have f:c∉ch:=λz=>(hch c z).2.2.1 x c e rfl;by_cases y:c∈X.fs
  .obtain⟨sl,q⟩:=slot c o (I.cne x c e) y f ho (I.freeC x c e);exact⟨_,q,hd⟩
  .exact⟨o,keep c o (I.cne x c e) y f ho (I.freeC x c e),hd⟩
 refine⟨I.ok,I.os,C,⟨λb o e n hb a=>?_,λb o e n hb a=>?_,λb o e n a=>?_,λb o e a=>?_,λb xs e=>tups b xs (I.base.tups b xs e),λb o xs e=>frzs b o xs (I.base.frzs b o xs e),λb ps e=>?_⟩,?_,λx c e=>?_,?_,λx c e=>?_,λp A=>?_,hok,I.len⟩
 .exact keep b o (neL b o e) hb (neC b o e a) (I.base.keep b o e n hb a) (I.base.free b o e n a)
 .obtain⟨sl,g⟩:=I.base.slot b o e n hb a;obtain⟨j,h⟩:=slot b _ (neL b o e) hb (neC b o e a) g (I.base.free b o e n a);exact⟨j,h⟩
 .obtain⟨o',g⟩:=I.base.there b o e a;exact free b o' (neC b o e a) g (I.base.free b o e n a)
 .obtain⟨o',g⟩:=I.base.there b o e a;exact there b o' (neC b o e a) g
 .obtain⟨m1,g⟩:=I.base.tbls b ps e;obtain⟨E,h⟩:=tbls b _ g;exact⟨m1++E,by rw[h,Array.append_assoc]⟩
 .obtain⟨m,F,G⟩:=I.loc;refine⟨m,ns m F,λi x v g h J=>?_⟩;obtain⟨u,r,l⟩:=G i x v g h J;refine⟨u,r,?_⟩;rcases l with l|⟨k,c,e,z⟩
  .exact .inl l
  .exact .inr ⟨k,c,e,cellK x c e _ z⟩
 .obtain⟨v,z⟩:=I.cell x c e;exact⟨v,cellK x c e v z⟩
 .obtain⟨m,⟨o,_,_,ho,_⟩,_⟩:=I.loc;exact free _ o (λz=>(hch _ z).2.1 rfl) ho I.free
 .obtain⟨v,o,ho,hd⟩:=I.cell x c e;exact free c o (λz=>(hch c z).2.2.1 x c e rfl) ho (I.freeC x c e)
 .obtain⟨e,n,ne,B,d⟩:=I.pin p A;have f:p.1∉ch:=λz=>(hch p.1 z).2.2.2 p A rfl;exact⟨keep p.1 p.2 ne B f e n,free p.1 p.2 f e n,ne,B,d⟩
def Inv.un(I:Inv X pins σ H s)(u:Un X.fs [] H H' s.heap h')(hok:bK X.prog X.w H' h'):Inv X pins σ H' { s with heap:=h',toks:=t' }:=by
 obtain⟨m,⟨o,es,ep,ho,r⟩,_⟩:=id I.loc;obtain⟨sl,f⟩:=u.any ho I.free (by simp);exact I.step (ch:=[]) (λ_ z=>nomatch z) (λb o _ hb _ e n=>u.keep b o e n hb (by simp)) (λb o _ hb _ e n=>u.slot b o e n hb (by simp)) (λb o _ e n=>u.free b o e n (by simp)) (λb o _ e=>u.there b o e (by simp)) u.tups u.frzs u.tbls (λi g=>by obtain⟨o',c,d,a,h⟩:=g;rw[ho]at a;cases a;exact⟨_,c,d,f,h⟩) hok I.bare
def Inv.call(I:Inv X pins σ H s)(u:Un (dZ X.stack) ch H H' s.heap h')(hok:bK X.prog X.w H' h')(i:AllBare g')
  (hch:∀b∈ch,(b∈X.ex\/X.s₀.heap.objs.size<=b)/\b≠X.env.locals/\(∀x c,X.env.cells.lookup x=Vn c->c≠b)/\∀p∈X.pn++pins,p.1≠b) :
  Inv X pins σ H' { s with heap:=h',gens:=g',drawn:=d',toks:=t' }:=by
 obtain⟨m,⟨o,es,ep,ho,r⟩,_⟩:=id I.loc;obtain⟨sl,f⟩:=u.any ho I.free λz=>(hch _ z).2.1 rfl;exact I.step hch (λb o f hb a e n=>u.keep b o e n (λz=>(Fo.mp (I.stkSub b z)).elim f hb) a) (λb o _ _ a e n=>u.any e n a) (λb o a e n=>u.free b o e n a) (λb o a e=>u.there b o e a) u.tups u.frzs u.tbls (λq j=>by obtain⟨o',g,h,d,l⟩:=j;rw[ho]at d;cases d;exact⟨_,g,h,f,l⟩) hok i
def Inv.turned(I:Inv X pins σ H s)(k:∀b o,b≠it->s.heap.get? b=Vn o->h'.get? b=Vn o)(g:H it=Vo)(f:it≠X.env.locals)
  (h1:it∈X.ex\/X.s₀.heap.objs.size<=it) (h2:∀x c,X.env.cells.lookup x=Vn c->c≠it) (h:∀p∈X.pn++pins,p.1≠it):Inv X pins σ H { s with heap:=h',toks:=t' }:=by
 have d:∀b u,H b=Vn u->b≠it:=λb u e z=>by rw[z,g]at e;cases e
 refine I.step (ch:=[it]) (λb hb=>?_) (λb o _ _ a e _=>k b o (λz=>a (by simp[z])) e) (λb o _ _ a e _=>⟨o.slots,k b o (λz=>a (by simp[z])) e⟩) (λ_ _ _ _ n=>n)
  (λb o a e=>⟨o,k b o (λz=>a (by simp[z])) e⟩) (λ_ _ e=>e) (λ_ _ _ e=>e) (λb ps e=>⟨#[],by rw[e];simp⟩) (λm i=>?_) (λb u e=>?_) I.bare
 .have e:b=it:=by simpa using hb
  subst e;exact⟨h1,f,h2,h⟩
 .obtain⟨o,es,ep,ho,r⟩:=i;exact⟨o,es,ep,k _ o (Gi f) ho,r⟩
 .refine(I.hok b u e).stay (λc v a q=>k c v ?_ q) (λ_ q=>q) λ_ _ q=>q;rcases a with z|z
  .rw[z];exact d b u e
  .exact d c _ z
def Inv.tok(I:Inv X pins σ H s)(t):Inv X pins σ H { s with toks:=t }:=I.un Un.refl I.hok
theorem Inv.kept{t':Nat}(I:Inv X pins σ H s)(k:∀b u,s.heap.get? b=Vn u->h'.get? b=Vn u):Inv X pins σ H { s with heap:=h',toks:=t' }:=I.un (Un.kept k) (I.hok.kept k)
theorem Inv.laid{a:Vb}{o:HO}{t':Nat}(I:Inv X pins σ H s)(k:∀b u,s.heap.get? b=Vn u->h'.get? b=Vn u)(c:s.heap.objs.size<=a)(new:bN X.prog X.w (upd H a o) h' a o):
  Inv X pins σ (upd H a o) { s with heap:=h',toks:=t' }:=I.un (Un.laid k c (I.hok.fresh c)) (I.hok.laid k c new)
theorem Inv.write{x e:Vb}{o:HO}{t':Nat}(I:Inv X pins σ H s)(c:ju (H x))(d:e=x\/H e=Vn (.own x))(k:∀b u,b≠e->s.heap.get? b=Vn u->h'.get? b=Vn u)(a:∃u,h'.get? e=Vn u)
  (new:bN X.prog X.w (upd H x o) h' x o):Inv X pins σ (upd H x o) { s with heap:=h',toks:=t' }:=I.un (Un.write c d k a) (I.hok.write c d k a new)
def Inv.pins_of{a:List (Vb×Obj)}(I:Inv X pins σ H s)(h:∀p∈a,s.heap.get? p.1=Vn p.2/\H p.1=Vo/\p.1≠X.env.locals/\p.1∉X.fs/\∀v,p.2.data≠.cell v):Inv X a σ H s:=
 ⟨I.ok,I.os,I.bare,I.base,I.loc,I.cell,I.free,I.freeC,λp b=>(Fx.mp b).elim (λz=>I.pin p (FT _ z)) (h p),I.hok,I.len⟩
def vz{N:List Vm}(c:N.Nodup){i j:Nat}(a:N[i]?=Vn x)(b:N[j]?=Vn x):i=j:=by obtain⟨h1,d⟩:=Fg.mp a;obtain⟨h2,e⟩:=Fg.mp b;exact(List.getElem_inj c).mp (d.trans e.symm)
def tZ{M:Model}{A:Vi}{E:Va->Vc->Prop}{i:Nat}{x:Vm}{Q:Unit->Vc->Prop}(I:Inv X pins σ H s)(hN:X.N.Nodup)(hi:X.N[i]?=Vn x)(l:Loc X.env.scope x)(r:RelV v u)
  (h:∀s',Inv X pins (σ.set i (Vn v)) H s'->(∃a,Hn a s.heap s'.heap/\(a=X.env.locals\/X.env.cells.lookup x=Vn a))->Q () s') (hf:X.fn x=true\/X.env.scope.names.lookup x=Vn .local:=by first|exact .inl rfl|exact .inr rfl|assumption):Vf M A (storeName X.env x u) Q E s:=by
 obtain⟨m,U,hl⟩:=id I.loc;have L:(X.env.scope.kind == .class || (X.env.scope.kind == .module && X.env.locals != X.env.globals))=false:=by rw[I.ok.kind];rfl
 have F:i<σ.length:=by rw[I.len];exact(Fg.mp hi).1
 have cne:=I.cne;have tracked:∀{a:Vb} {h':Vh},(∃o,s.heap.get? a=Vn o/\H a=Vo)->Hn a s.heap h'->bK X.prog X.w H h':=λ{a h'} ha hs b ob e=>by
  obtain⟨_,_,B⟩:=ha;refine(I.hok b ob e).stay (λc T g q=>(hs.2 c ?_).trans q) (λ_ q=>q) λ_ _ q=>q;rintro rfl;rcases g with rfl|g
  .rw[B]at e;cases e
  .rw[B]at g;cases g
 rcases l with G|G
 .refine wpAny_storeName_local G U (λh' W hs=>?_) L;obtain⟨oL,_,_,Y,_⟩:=id U;refine h _ ⟨I.ok,I.os,I.bare,⟨λb o e n hb l=>?_,λb o e n hb l=>?_,I.base.free,λb o e l=>?_,I.base.tups,I.base.frzs,I.base.tbls⟩,⟨_,W,λj y Z f C e3=>?_⟩,λy c e=>?_,I.free,I.freeC,λp hp=>?_,tracked ⟨oL,Y,I.free⟩ hs,by simpa using I.len⟩ ⟨_,hs,.inl rfl⟩
  .exact(hs.2 b (Ft (FH (E6 e) I.ok.above))).trans (I.base.keep b o e n hb l)
  .obtain⟨sl,f⟩:=I.base.slot b o e n hb l;exact⟨sl,(hs.2 b (Ft (FH (E6 e) I.ok.above))).trans f⟩
  .obtain⟨o',f⟩:=I.base.there b o e l;exact⟨o',(hs.2 b (Ft (FH (E6 e) I.ok.above))).trans f⟩
  .by_cases J:j=i
   .subst J;rw[hi]at f;cases f;rw[KC F]at C;cases C;exact⟨u,r,.inl ⟨G,by simp⟩⟩
   .rw[Ko (Gi J)]at C;obtain⟨u',r',q⟩:=hl j y Z f C e3;refine⟨u',r',?_⟩;rcases q with⟨k,e⟩|⟨k,c,e,z⟩
    .refine .inl ⟨k,?_⟩;have:y≠x:=λe=>J (vz hN f (e ▸ hi));simp[this,e]
    .exact .inr ⟨k,c,e,z.sameBut hs (cne y c e)⟩
  .obtain⟨T,z⟩:=I.cell y c e;exact⟨T,z.sameBut hs (cne y c e)⟩
  .obtain⟨e,n,ne,nf,d⟩:=I.pin p hp;exact⟨(hs.2 p.1 ne).trans e,n,ne,nf,d⟩
 .have hfn:X.fn x=true:=by
   rcases hf with z|z
   .exact z
   .rw[z]at G;cases G
  obtain⟨c,g⟩:=I.ok.has x (.inl G);obtain⟨T,z⟩:=I.cell x c g;refine wpAny_storeName_cell I.ok.kind G g z (λh' O hs=>?_);obtain⟨oc,P,R⟩:=id z;refine h { s with heap:=h' } ⟨I.ok,I.os,I.bare,⟨λb o e n hb l=>?_,λb o e n hb l=>?_,I.base.free,λb o e l=>?_,I.base.tups,I.base.frzs,I.base.tbls⟩,⟨m,U.sameBut hs (Gi (cne x c g)),λj y Z f C e3=>?_⟩,λy c' e=>?_,I.free,I.freeC,λp hp=>?_,tracked ⟨oc,P,I.freeC x c g⟩ hs,by simpa using I.len⟩ ⟨c,hs,.inr g⟩
  .exact(hs.2 b (Ft (FH (E6 e) (I.ok.cab x c hfn g)))).trans (I.base.keep b o e n hb l)
  .obtain⟨sl,f⟩:=I.base.slot b o e n hb l;exact⟨sl,(hs.2 b (Ft (FH (E6 e) (I.ok.cab x c hfn g)))).trans f⟩
  .obtain⟨o',f⟩:=I.base.there b o e l;exact⟨o',(hs.2 b (Ft (FH (E6 e) (I.ok.cab x c hfn g)))).trans f⟩
  .by_cases J:j=i
   .subst J;rw[hi]at f;cases f;rw[KC F]at C;cases C;exact⟨u,r,.inr ⟨.inl G,c,g,O⟩⟩
   .rw[Ko (Gi J)]at C;obtain⟨u',r',q⟩:=hl j y Z f C e3;refine⟨u',r',?_⟩;rcases q with q|⟨k,c',e,z'⟩
    .exact .inl q
    .refine .inr ⟨k,c',e,z'.sameBut hs ?_⟩;rintro rfl;exact J (vz hN f (I.ok.inj _ _ _ e g ▸ hi))
  .by_cases S:c'=c
   .subst S;exact⟨_,O⟩
   .obtain⟨w2,z2⟩:=I.cell y c' e;exact⟨w2,z2.sameBut hs S⟩
  .obtain⟨e,n,ne,nf,d⟩:=I.pin p hp;refine⟨(hs.2 p.1 ?_).trans e,n,ne,nf,d⟩;intro q;rw[q,P]at e;have q':oc=p.2:=FQ e;exact d T (by rw[<-q'];exact R)
def jt{M:Model}{A:Vi}{E:Va->Vc->Prop}{i:Nat}{x:Vm}{Q:Unit->Vc->Prop}(I:Inv X pins σ H s)(a:X.N.Nodup)(hi:X.N[i]?=Vn x)(b:Loc X.env.scope x)(r:RelV v u)
  (h:∀s',Inv X pins (σ.set i (Vn v)) H s'->Q () s') (c:X.fn x=true\/X.env.scope.names.lookup x=Vn .local:=by first|exact .inl rfl|exact .inr rfl|assumption):Vf M A (storeName X.env x u) Q E s:=
 tZ I a hi b r (λs' d _=>h s' d) c
def Inv.call'(I:Inv X pins σ H s)(ho:s'.os=s.os)(u:Un (dZ X.stack) ch H H' s.heap s'.heap)(hok:bK X.prog X.w H' s'.heap)(a:AllBare s'.gens)
  (hch:∀b∈ch,(b∈X.ex\/X.s₀.heap.objs.size<=b)/\b≠X.env.locals/\(∀x c,X.env.cells.lookup x=Vn c->c≠b)/\∀p∈X.pn++pins,p.1≠b):Inv X pins σ H' s':=by
 obtain⟨h',g',d',t',o'⟩:=s';have e:o'=s.os:=ho;subst e;exact I.call u hok a hch
end
abbrev XK:=Va->Option Vb->Hp->Prop
abbrev St:=List (Option V)
abbrev VK:=V->Hp->Prop
abbrev TE:=St->Hp->VK->Prop
abbrev TT:=St->Hp->(Bool->Hp->Prop)->Prop
abbrev TA:=St->Hp->(List V->Hp->Prop)->Prop
structure Ends where
 nx:St->Hp->Prop
 rt:VK
 bk:St->Hp->Prop:=λ_ _=>False
 ct:St->Hp->Prop:=λ_ _=>False
abbrev TS:=Ends->St->Hp->Prop
def EP(X:Cx)(pins:List (Vb×Obj))(σ:St)(Q:VK)(u:Va)(s':Vc):Prop:=∃v H',Inv X pins σ H' s'/\RelV v u/\Q v H'
def TP(X:Cx)(pins:List (Vb×Obj))(σ:St)(Q:Bool->Hp->Prop)(b:Bool)(s':Vc):Prop:=∃H',Inv X pins σ H' s'/\Q b H'
def AP(X:Cx)(pins:List (Vb×Obj))(σ:St)(Q:List V->Hp->Prop)(us:List Va)(s':Vc):Prop:=∃vs H',Inv X pins σ H' s'/\Vals vs us/\Q vs H'
def SP(X:Cx)(pins:List (Vb×Obj))(D:Ends)(f:Flow)(s':Vc):Prop:=
 match f with
 | .next=>∃a H',Inv X pins a H' s'/\D.nx a H'
 | .brk=>∃a H',Inv X pins a H' s'/\D.bk a H'
 | .cont=>∃a H',Inv X pins a H' s'/\D.ct a H'
 | .ret u=>∃v a H',Inv X pins a H' s'/\RelV v u/\D.rt v H'
def PE(X:Cx)(e:Vk)(t:TE):Prop:=
 ∀(pins:List (Vb×Obj)) (s:Vc) (σ:St) (H:Hp) (Q:VK),Inv X pins σ H s->t σ H Q->Vf (Vg X.prog X.w) X.A (eval e X.env) (EP X pins σ Q) X.xe s
def PT(X:Cx)(e:Vk)(t:TT):Prop:=
 ∀(pins:List (Vb×Obj)) (s:Vc) (σ:St) (H:Hp) (Q:Bool->Hp->Prop),Inv X pins σ H s->t σ H Q->Vf (Vg X.prog X.w) X.A (isTrue e X.env (eval e X.env)) (TP X pins σ Q) X.xe s
def PW(X:Cx)(e:Vk)(t:TT):Prop:=
 ∀(whole:Sem Va) (pins:List (Vb×Obj)) (s:Vc) (σ:St) (H:Hp) (Q:Bool->Hp->Prop),Inv X pins σ H s->t σ H Q->Vf (Vg X.prog X.w) X.A (isTrue e X.env whole) (TP X pins σ Q) X.xe s
def PW.pt(h:PW X e t):PT X e t:=h _
def PA(X:Cx)(es:List Vk)(t:TA):Prop:=
 ∀(pos:Pos) (pins:List (Vb×Obj)) (s:Vc) (σ:St) (H:Hp) (Q:List V->Hp->Prop),Inv X pins σ H s->t σ H Q->Vf (Vg X.prog X.w) X.A (spliced (backTo pos (starEach es X.env))) (AP X pins σ Q) X.xe s
def PS(X:Cx)(st:Stmt)(t:TS):Prop:=
 ∀(pins:List (Vb×Obj)) (s:Vc) (σ:St) (H:Hp) (D:Ends),Inv X pins σ H s->t D σ H->Vf (Vg X.prog X.w) X.A (exec st X.env) (SP X pins D) X.xe s
def cW(X:Cx)(st:List Stmt)(t:TS):Prop:=
 ∀(pins:List (Vb×Obj)) (s:Vc) (σ:St) (H:Hp) (D:Ends),Inv X pins σ H s->t D σ H->Vf (Vg X.prog X.w) X.A (execs st X.env) (SP X pins D) X.xe s
def aM{t:Sem α}{Q b:α->Vc->Prop}(h:Vf M A t Q E s)(c:∀a s,Q a s->b a s):Vf M A t b E s:=wpAny_mono h c λ_ _ x=>x
section
variable {X:Cx}
def bin(ha:PE X a ta)(hb:PE X b tb){σ:St}{R:V->V->Hp->Prop}(I:Inv X pins σ H s)(h:ta σ H λx H1=>tb σ H1 λy H2=>R x y H2)
   {Q:α->Vc->Prop} {f:Va->Va->Sem α}
  (e:∀v u s2 x y H2,Inv X pins σ H2 s2->RelV x v->RelV y u->R x y H2->Vf (Vg X.prog X.w) X.A (f v u) Q X.xe s2) :
  Vf (Vg X.prog X.w) X.A (eval a X.env) (λv c=>Vf (Vg X.prog X.w) X.A (eval b X.env) (λu d=>Vf (Vg X.prog X.w) X.A (f v u) Q X.xe d) X.xe c) X.xe s:=by
 refine aM (ha pins s σ H _ I h) λv s1 ⟨x,H1,g,r1,i⟩=>?_;refine aM (hb pins s1 σ H1 _ g i) λu s2 ⟨y,H2,j,l,m⟩=>?_;exact e v u s2 x y H2 j r1 l m
def mW(i:Nat):TE:=λσ H Q=>∃v,σ[i]?=Vn (Vn v)/\Q v H
def tC(v:V):TE:=λ_ H Q=>Q v H
def BA{i:Nat}{x:Vm}{pos:Pos}(g:X.N[i]?=Vn x)(j:lz X.env.scope x)(hd:(x == ("__debug__":Vm))=false:=by decide)(d:(x == ("__classdict__":Vm))=false:=by decide):PE X (.Name x pos) (mW i):=by
 intro pins s σ H Q I h;obtain⟨v,e,h⟩:=h;obtain⟨m,n,o⟩:=I.loc;obtain⟨u,r,l⟩:=o i x v g e j;have fin:EP X pins σ Q u s:=⟨v,H,I,r,h⟩;rcases l with⟨b,p⟩|⟨b,c,f,a⟩
 .exact wpAny_Name (wpAny_loadName_local I.ok.kind b n p fin) hd
 .rcases b with b|b
  .exact wpAny_Name (wpAny_loadName_cell I.ok.kind b f a fin) hd
  .exact wpAny_Name (wpAny_loadName_free I.ok.kind b f a fin d) hd
def ae{i j pos}:PE X (.Constant (.int i) j pos) (tC (.int i)):=λ_ _ _ H _ I h=>wpAny_Constant_int ⟨.int i,H,I.tok _,⟨_,rfl⟩,h⟩
def b8{b j pos}:PE X (.Constant (.bool b) j pos) (tC (.bl b)):=λ_ _ _ H _ I h=>Constant_bool ⟨.bl b,H,I,rfl,h⟩
def ib{j pos}:PE X (.Constant .none j pos) (tC .non):=λ_ _ _ H _ I h=>Constant_none ⟨.non,H,I,rfl,h⟩
def a8{x j pos}:PE X (.Constant (.str x) j pos) (tC (.str x)):=λ_ _ _ H _ I h=>Calls.Constant_str ⟨.str x,H,I.tok _,⟨_,rfl⟩,h⟩
def Gl(X:Cx)(x:Vm):Prop:=X.env.kindOf x=Vn .globalImplicit
def jv{E:Va->Vc->Prop}{σ:St}{x:Vm}{pos:Pos}{Q:Va->Vc->Prop}(I:Inv X pins σ H s)(a:Gl X x)(b:X.mg x=Vn u)(h:Q u s)
  (hd:(x == ("__debug__":Vm))=false:=by decide):Vf (Vg X.prog X.w) X.A (eval (.Name x pos) X.env) Q E s:=
 Je I.ok.kind a (Calls.loadGlobal_global (by rw[I.ok.glob];exact I.mod.glob.keeps I.bk) b h) hd
def fQ{E:Va->Vc->Prop}{σ:St}{x:Vm}{pos:Pos}{Q:Va->Vc->Prop}(I:Inv X pins σ H s)(a:Gl X x)(b:X.mg x=Vo)(c:bootBuiltins x=Vn u)(h:Q u s)
  (d:x≠"__name__":=by decide) (hd:(x == ("__debug__":Vm))=false:=by decide):Vf (Vg X.prog X.w) X.A (eval (.Name x pos) X.env) Q E s:=by
 obtain⟨mb,h1,h2⟩:=I.mod.blt;exact Je I.ok.kind a (Calls.loadGlobal_builtin (by rw[I.ok.glob];exact I.mod.glob.keeps I.bk) b (by rw[I.ok.blt];exact h1.keeps I.bk) ((h2 x d).trans c) h) hd
def kq{x:Vm}{pos:Pos}(a:Gl X x)(b:X.mg x=Vn u)(r:RelV v u)(hd:(x == ("__debug__":Vm))=false:=by decide):PE X (.Name x pos) (tC v):=
 λ_ _ _ H _ I h=>jv I a b ⟨v,H,I,r,h⟩ hd
def eO{x:Vm}{pos:Pos}(a:Gl X x)(b:X.mg x=Vo)(c:bootBuiltins x=Vn u)(r:RelV v u)(d:x≠"__name__":=by decide)(hd:(x == ("__debug__":Vm))=false:=by decide):PE X (.Name x pos) (tC v):=
 λ_ _ _ H _ I h=>fQ I a b c ⟨v,H,I,r,h⟩ d hd
variable {a b:Vk} {ta tb:TE} {pos:Pos}
def PC(X:Cx)(op:CmpOp)(a b:Vk)(t:TE):Prop:=
 ∀(pins:List (Vb×Obj)) (s:Vc) (σ:St) (H:Hp) (Q:VK),Inv X pins σ H s->t σ H Q ->
  Vf (Vg X.prog X.w) X.A (eval a X.env) (λv c=>Vf (Vg X.prog X.w) X.A (eval b X.env) (λu d=>Vf (Vg X.prog X.w) X.A (compareOp op v u) (EP X pins σ Q) X.xe d) X.xe c) X.xe s
def tB(t:TE):TT:=λσ H Q=>t σ H λx H1=>∃c,x=.bl c/\Q c H1
def yO{op:CmpOp}{t:TE}(h:PC X op a b t)(h1:behindInMarks op b=false:=by first|exact nobehind _ (by decide) (by decide)|rfl):PE X (.Compare a [op] [b] pos) t:=λpins s σ H Q I c=>wpAny_Compare1 (h pins s σ H Q I c) h1
def fY{op:CmpOp}{t:TE}(h:PC X op a b t)(h1:behindInMarks op b=false:=by first|exact nobehind _ (by decide) (by decide)|rfl):PT X (.Compare a [op] [b] pos) (tB t):=by intro pins s σ H Q I e;refine wpAny_isTrue_Compare1 (aM (h pins s σ H _ I e) λv s1 h1=>aM h1 λu s2 h2=>aM h2 λc i ⟨x,H1,f,r1,g⟩=>?_) h1;obtain⟨d,rfl,q⟩:=g;cases r1;exact wpAny_truthy_bool ⟨H1,f,q⟩
def bT{e:Vk}{t:TE}(h:PE X e t)(a:∀whole,isTrue e X.env whole=(do let v <-whole;standAt e.pos;holding [v] (truthy v)):=by intro _;rfl):PT X e (tB t):=by intro pins s σ H Q I b;refine isTrue_plain (aM (h pins s σ H _ I b) λv s1 ⟨x,H1,c,r1,f⟩=>?_) (a _);obtain⟨d,rfl,q⟩:=f;cases r1;exact wpAny_truthy_bool ⟨H1,c,q⟩
variable {tA tB':TT} {rest:List Vk}
def u4(t u:TT):TT:=λσ H Q=>t σ H λc H1=>if c=true then u σ H1 Q else Q false H1
def sZ(t u:TT):TT:=λσ H Q=>t σ H λc H1=>if c=true then Q true H1 else u σ H1 Q
def yo(t:TT):TT:=λσ H Q=>t σ H λc H1=>Q (!c) H1
def ir(ha:PT X a tA):PW X (.BoolOp .And [a] pos) tA:=by
 intro b pins s σ H Q I h;refine isTrue_and (aM (ha pins s σ H Q I h) λc s1 e=>?_);cases c with
 | true=>exact isTrue_and_nil e
 | false=>exact e
def eL(ha:PT X a tA):PW X (.BoolOp .Or [a] pos) tA:=by
 intro b pins s σ H Q I h;refine isTrue_or (aM (ha pins s σ H Q I h) λc s1 e=>?_);cases c with
 | false=>exact isTrue_or_nil e
 | true=>exact e
def gZ(ha:PT X a tA)(hb:PW X (.BoolOp .And (b::rest) pos) tB'):PW X (.BoolOp .And (a::b::rest) pos) (u4 tA tB'):=by
 intro f pins s σ H Q I h;refine isTrue_and (aM (ha pins s σ H _ I h) λc s1 ⟨H1,d,e⟩=>?_);cases c with
 | true=>exact hb f pins s1 σ H1 Q d e
 | false=>exact⟨H1,d,e⟩
def cY(ha:PT X a tA)(hb:PW X (.BoolOp .Or (b::rest) pos) tB'):PW X (.BoolOp .Or (a::b::rest) pos) (sZ tA tB'):=by
 intro f pins s σ H Q I h;refine isTrue_or (aM (ha pins s σ H _ I h) λc s1 ⟨H1,d,e⟩=>?_);cases c with
 | true=>exact⟨H1,d,e⟩
 | false=>exact hb f pins s1 σ H1 Q d e
def cI(ha:PT X a tA):PT X (.UnaryOp .Not a pos) (yo tA):=by intro pins s σ H Q I h;exact isTrue_not (ha pins s σ H (λc H1=>Q (!c) H1) I h)
def xg(ta tb:TE):TE:=λσ H Q=>ta σ H λx H1=>∃c,x=.bl c/\if c=true then tb σ H1 Q else Q (.bl false) H1
def wI(ta tb:TE):TE:=λσ H Q=>ta σ H λx H1=>∃c,x=.bl c/\if c=true then Q (.bl true) H1 else tb σ H1 Q
def qA(ta:TE):TE:=λσ H Q=>ta σ H λx H1=>∃c,x=.bl c/\Q (.bl (!c)) H1
def dG{op}(h:PE X a t):PE X (.BoolOp op [a] pos) t:=λpins s σ H Q I b=>BoolOp_one (h pins s σ H Q I b)
def cR(ha:PE X a ta)(hb:PE X (.BoolOp .And (b::rest) pos) tb):PE X (.BoolOp .And (a::b::rest) pos) (xg ta tb):=by
 intro pins s σ H Q I h;refine BoolOp_and (aM (ha pins s σ H _ I h) λv s1 ⟨x,H1,e,r1,d⟩=>?_);obtain⟨c,rfl,d⟩:=d;cases r1;refine wpAny_truthy_bool ?_;cases c with
 | true=>exact hb pins s1 σ H1 Q e d
 | false=>exact⟨.bl false,H1,e,rfl,d⟩
def um(ha:PE X a ta)(hb:PE X (.BoolOp .Or (b::rest) pos) tb):PE X (.BoolOp .Or (a::b::rest) pos) (wI ta tb):=by
 intro pins s σ H Q I h;refine BoolOp_or (aM (ha pins s σ H _ I h) λv s1 ⟨x,H1,e,r1,d⟩=>?_);obtain⟨c,rfl,d⟩:=d;cases r1;refine wpAny_truthy_bool ?_;cases c with
 | false=>exact hb pins s1 σ H1 Q e d
 | true=>exact⟨.bl true,H1,e,rfl,d⟩
def tE(ha:PE X a ta):PE X (.UnaryOp .Not a pos) (qA ta):=by intro pins s σ H Q I h;refine UnaryOp_ (aM (ha pins s σ H _ I h) λv s1 ⟨x,H1,d,r1,b⟩=>?_);obtain⟨c,rfl,b⟩:=b;cases r1;exact not_of (wpAny_truthy_bool ⟨.bl (!c),H1,d,rfl,b⟩)
end
def ag(K:E3)(H:Hp)(a:Vb)(xs:List V):Prop:=
 Rd H a (.lst xs) ∨
  ∃(o:Obj) (b:Array Va) (n:Nat),K.lookup a=Vn o/\o.cls=.type "list"/\o.dict=Vo/\o.data=.seq b n/\b.size<=sizeLine/\Vals xs b.toList
def ay(K:E3)(H:Hp)(a:Vb)(xs:List V):Prop:=
 Rd H a (.tup xs) ∨
  ∃(o:Obj) (b:Array Va) (n:Nat),K.lookup a=Vn o/\o.cls=.type "tuple"/\o.data=.seq b n/\b.size<=sizeLine/\Vals xs b.toList
def BO:Va->Option V
 | .none=>Vn .non
 | .bool b=>Vn (.bl b)
 | .int i _=>Vn (.int i)
 | .str x _=>Vn (.str x)
 | .bytes b _=>Vn (.byt b)
 | .float b _=>Vn (.flt b)
 | .ref a=>Vn (.ref a)
 | .type n=>Vn (.ty n)
 | _=>Vo
def RelV.abs(r:RelV x u):BO u=Vn x:=by
 cases x with
 | non=>cases r;rfl
 | bl _=>cases r;rfl
 | int _=>obtain⟨t,rfl⟩:=r;rfl
 | str _=>obtain⟨t,rfl⟩:=r;rfl
 | byt _=>obtain⟨t,rfl⟩:=r;rfl
 | flt _=>obtain⟨t,rfl⟩:=r;rfl
 | ref _=>cases r;rfl
 | ty _=>cases r;rfl
def RelV.inj(r:RelV x u)(q:RelV y u):x=y:=FQ (r.abs.symm.trans q.abs)
theorem Vals.inj:∀{xs ys:List V} {us:List Va},Vals xs us->Vals ys us->xs=ys
 | _,_,_,.nil,.nil=>rfl
 | _,_,_,.cons r t,.cons a t'=>by rw[r.inj a,Vals.inj t t']
section
variable {X:Cx} {pins:List (Vb×Obj)} {σ:St} {H:Hp} {s:Vc} {a:Vb} {xs ys:List V}
def ag.of{K:E3}(h:H a=Vn (.lst xs)):ag K H a xs:=.inl (.inl h)
def ay.of{K:E3}(h:H a=Vn (.tup xs)):ay K H a xs:=.inl (.inl h)
theorem Inv.list(I:Inv X pins σ H s)(h:ag X.K H a xs):∃b,Vals xs b/\PlainL s.heap a b.toArray/\xs.length<=sizeLine:=by
 rcases h with h|⟨o,b,n,c,d,hd,hs,f,r⟩
 .obtain⟨z,b,n,r,e⟩:=h.ok I.hok;exact⟨b,r,⟨_,n,e,rfl,rfl,rfl⟩,z⟩
 .refine⟨b.toList,r,⟨o,n,I.kIn a o c,d,hd,by simpa using hs⟩,?_⟩;have e:=r.length;simp only[Fc]at e;lia
theorem Inv.tuple(I:Inv X pins σ H s)(h:ay X.K H a xs):∃b,Vals xs b/\IsTup s.heap a b.toArray/\xs.length<=sizeLine:=by
 rcases h with h|⟨o,b,n,c,d,hs,f,r⟩
 .obtain⟨z,b,r,p⟩:=h.ok I.hok;exact⟨b,r,p,z⟩
 .refine⟨b.toList,r,⟨o,I.kIn a o c,d,n,by simpa using hs⟩,?_⟩;have e:=r.length;simp only[Fc]at e;lia
def Inv.list_inj(I:Inv X pins σ H s)(h:ag X.K H a xs)(h':ag X.K H a ys):xs=ys:=by
 obtain⟨c,r,⟨o,n,e,_,_,d⟩,_⟩:=I.list h;obtain⟨b,g,⟨o',j,e',_,_,f⟩,_⟩:=I.list h';rw[e]at e';cases e';rw[d]at f;injection f with i _;have:c=b:=by simpa using congrArg Array.toList i
 subst this;exact r.inj g
def Inv.tuple_inj(I:Inv X pins σ H s)(h:ay X.K H a xs)(h':ay X.K H a ys):xs=ys:=by
 obtain⟨c,r,⟨o,e,_,n,d⟩,_⟩:=I.tuple h;obtain⟨b,g,⟨o',e',_,j,f⟩,_⟩:=I.tuple h';rw[e]at e';cases e';rw[d]at f;injection f with i _;have:c=b:=by simpa using congrArg Array.toList i
 subst this;exact r.inj g
end
abbrev Cx.wish(X:Cx)(E:Va->Vc->Prop):Cx:={ X with xe:=E }
abbrev Cx.nox(X:Cx):Cx:=X.wish λ_ _=>False
theorem Cx.Ok.wish{X:Cx}(ok:X.Ok)(E:Va->Vc->Prop):(X.wish E).Ok:=
 ⟨ok.mod,ok.kind,ok.glob,ok.blt,ok.above,ok.inj,ok.has,ok.cab,ok.hd,ok.frames,ok.stk,ok.exf,ok.bs,ok.bsz,ok.noex,ok.exfs,ok.funs,ok.frf⟩
def Cx.Ok.unwish{X:Cx}(ok:(X.wish E).Ok):X.Ok:=
 ⟨ok.mod,ok.kind,ok.glob,ok.blt,ok.above,ok.inj,ok.has,ok.cab,ok.hd,ok.frames,ok.stk,ok.exf,ok.bs,ok.bsz,ok.noex,ok.exfs,ok.funs,ok.frf⟩
section
variable {X:Cx} {pins:List (Vb×Obj)} {σ:St} {H:Hp} {s:Vc} {E:Va->Vc->Prop}
theorem Inv.wish(I:Inv X pins σ H s)(E:Va->Vc->Prop):Inv (X.wish E) pins σ H s:=⟨I.ok.wish E,I.os,I.bare,I.base,I.loc,I.cell,I.free,I.freeC,I.pin,I.hok,I.len⟩
theorem Inv.unwish(I:Inv (X.wish E) pins σ H s):Inv X pins σ H s:=⟨I.ok.unwish,I.os,I.bare,I.base,I.loc,I.cell,I.free,I.freeC,I.pin,I.hok,I.len⟩
theorem SP.unwish{D:Ends}{f:Flow}{s':Vc}(h:SP (X.wish E) pins D f s'):SP X pins D f s':=by
 cases f with
 | next=>obtain⟨a,H',I,q⟩:=h;exact⟨a,H',I.unwish,q⟩
 | brk=>obtain⟨a,H',I,q⟩:=h;exact⟨a,H',I.unwish,q⟩
 | cont=>obtain⟨a,H',I,q⟩:=h;exact⟨a,H',I.unwish,q⟩
 | ret u=>obtain⟨v,a,H',I,r,q⟩:=h;exact⟨v,a,H',I.unwish,r,q⟩
theorem cW.nox{st:List Stmt}{t:TS}(h:cW X.nox st t):cW X st t:=λpins s σ H D I a=>
 wpAny_mono (h pins s σ H D (I.wish _) a) (λ_ _ q=>q.unwish) λ_ _ z=>GZ z
end
section
variable {X:Cx} {st:Stmt} {rest:List Stmt} {t u:TS} {e:Vk} {te:TE} {pos:Pos}
def uS:TS:=λD σ H=>D.nx σ H
def vT(t u:TS):TS:=λD σ H=>t { D with nx:=u D } σ H
def aV:cW X [] uS:=λ_ _ σ H _ I h=>wpAny_execs_nil ⟨σ,H,I,h⟩
def av(h1:PS X st t)(h2:cW X rest u):cW X (st::rest) (vT t u):=by
 intro pins s σ H D I h;refine wpAny_execs_cons (aM (h1 pins s σ H { D with nx:=u D } I h) λf s1 q=>?_);cases f with
 | next=>
  obtain⟨a,H',b,q⟩:=q;exact h2 pins s1 a H' D b q
 | ret v=>exact q
 | brk=>exact q
 | cont=>exact q
def az(h1:PS X st t):cW X [st] t:=by
 intro pins s σ H D I h;refine wpAny_execs_cons (aM (h1 pins s σ H D I h) λf s1 q=>?_);cases f with
 | next=>exact wpAny_execs_nil q
 | ret v=>exact q
 | brk=>exact q
 | cont=>exact q
def Inv.quiet{σ:St}(I:Inv X pins σ H s):interactive X.env=false:=by simp[interactive,I.ok.kind]
def wU(te:TE):TS:=λD σ H=>te σ H λ_ H1=>D.nx σ H1
def bA(a:PE X e te)(hs:swapsWith e Vo pos.line X.env=pure false:=by rfl):PS X (.Expr e pos) (wU te):=by intro pins s σ H D I h;exact wpAny_Expr_any (aM (a pins s σ H _ I h) λv s1 ⟨x,H1,b,r1,c⟩=>⟨σ,H1,b,c⟩) I.quiet hs
def sN(te:TE):TS:=λD σ H=>te σ H D.rt
def aK(a:PE X e te):PS X (.Return (Vn e) pos) (sN te):=by intro pins s σ H D I h;exact wpAny_Return_some (aM (a pins s σ H _ I h) λv s1 ⟨x,H1,b,r1,c⟩=>⟨x,σ,H1,b,r1,c⟩)
def qR(c:TT)(t u:TS):TS:=λD σ H=>c σ H λb H1=>if b=true then t D σ H1 else u D σ H1
def bB{c}{a b}{tc}(g:PT X c tc)(ha:cW X a t)(hb:cW X b u):PS X (.If c a b pos) (qR tc t u):=by
 intro pins s σ H D I h;refine wpAny_If (aM (g pins s σ H _ I h) λd s1 ⟨H1,e,f⟩=>?_);cases d with
 | true=>exact ha pins s1 σ H1 D e f
 | false=>exact hb pins s1 σ H1 D e f
def BU:TS:=λ_ _ _=>False
def jb:PS X st BU:=λ_ _ _ _ _ _ h=>h.elim
end
abbrev TG:=V->St->Hp->(St->Hp->Prop)->Prop
abbrev fk:=List V->St->Hp->(St->Hp->Prop)->Prop
def PG(X:Cx)(target:Vk)(t:TG):Prop:=
 ∀(pins:List (Vb×Obj)) (s:Vc) (σ:St) (H:Hp) (v:V) (u:Va) (Q:St->Hp->Prop),Inv X pins σ H s->RelV v u->t v σ H Q ->
  Vf (Vg X.prog X.w) X.A (assign target X.env u) (λ_ s'=>∃a H',Inv X pins a H' s'/\Q a H') X.xe s
def jq(X:Cx)(ts:List Vk)(t:fk):Prop:=
 ∀(pins:List (Vb×Obj)) (s:Vc) (σ:St) (H:Hp) (vs:List V) (us:List Va) (Q:St->Hp->Prop),Inv X pins σ H s->Vals vs us->t vs σ H Q ->
  Vf (Vg X.prog X.w) X.A (assignInOrder ((assignEach ts X.env).map (·.2)) us) (λ_ s'=>∃a H',Inv X pins a H' s'/\Q a H') X.xe s
abbrev lS:=V->V->V->Hp->(Hp->Prop)->Prop
def xy(X:Cx)(t:lS):Prop:=
 ∀(pins:List (Vb×Obj)) (s:Vc) (σ:St) (H:Hp) (o i v:V) (a b u:Va) (Q:Hp->Prop),Inv X pins σ H s->RelV o a->RelV i b->RelV v u->t o i v H Q ->
  Vf (Vg X.prog X.w) X.A (setItem a b u) (λ_ s'=>∃H',Inv X pins σ H' s'/\Q H') X.xe s
abbrev jG:=V->V->Hp->VK->Prop
def oE(X:Cx)(op:Operator)(t:jG):Prop:=
 ∀(pins:List (Vb×Obj)) (s:Vc) (σ:St) (H:Hp) (x y:V) (v u:Va) (Q:VK),Inv X pins σ H s->RelV x v->RelV y u->t x y H Q ->
  Vf (Vg X.prog X.w) X.A (inplaceOp op v u) (EP X pins σ Q) X.xe s
section
variable {X:Cx} {pos:Pos}
def jY(i:Nat):TG:=λv σ H Q=>Q (σ.set i (Vn v)) H
def aO{i:Nat}{x:Vm}(a:X.N.Nodup)(hi:X.N[i]?=Vn x)(b:Loc X.env.scope x)(c:X.fn x=true\/X.env.scope.names.lookup x=Vn .local:=by first|exact .inl rfl|exact .inr rfl|assumption):PG X (.Name x pos) (jY i):=by intro pins s σ H v u Q I r h;exact wpAny_assign_Name (jt I a hi b r (λs' d=>⟨_,H,d,h⟩) c)
def vi:fk:=λvs σ H Q=>vs=[]/\Q σ H
def qO(t:TG)(u:fk):fk:=λvs σ H Q=>∃v r,vs=v::r/\t v σ H λa H'=>u r a H' Q
def df:jq X [] vi:=by intro pins s σ H vs us Q I r h;obtain⟨e,h⟩:=h;subst e;cases r;exact assignInOrder_nil ⟨σ,H,I,h⟩
def bF{e:Vk}{es:List Vk}{t:TG}{u:fk}(h1:PG X e t)(h2:jq X es u)
  (hs:(assignEach (e::es) X.env).map (·.2)=assign e X.env::(assignEach es X.env).map (·.2):=by rfl):jq X (e::es) (qO t u):=by
 intro pins s σ H vs us Q I r h;obtain⟨v,g,b,h⟩:=h;subst b;cases r with
 | cons r c=>
  rw[hs];refine assignInOrder_cons (aM (h1 pins s σ H _ _ _ I r h) λ_ s1 ⟨a,H1,d,f⟩=>?_);exact h2 pins s1 a H1 _ _ Q d c f
def mL(K:E3)(n:Nat)(t:fk):TG:=λv σ H Q=>∃a xs,v=.ref a/\ay K H a xs/\xs.length=n/\t xs σ H Q
def zH{es:List Vk}{k:Nat}{t:fk}(g:X.calm=true)(h:jq X es t)
  (i:(assignEach es X.env).length=n:=by rfl) (c:(assignEach es X.env).findIdx? (·.1)=Vo:=by rfl):PG X (.Tuple es k pos) (mL X.K n t):=by
 intro pins s σ H v u Q I r d;obtain⟨a,xs,j,l,m,d⟩:=d;subst j;cases r;obtain⟨p,f,q,y⟩:=I.tuple l;refine assign_Tuple_tuple (I.ok.hd g) q (by simp[i,<-m,f.length]) c λh' w=>?_;have x:Inv X pins σ H { s with heap:=h' }:=I.kept (t':=s.toks) λb o e=>w b o (Ft (E6 e)) e;exact h pins _ σ H xs _ Q x (by simpa using f) d
def uj(to a:TE)(t:lS):TG:=λv σ H Q=>to σ H λo H1=>a σ H1 λi H2=>t o i v H2 λb=>Q σ b
def jV{o i:Vk}{to c:TE}{t:lS}(ho:PE X o to)(hi:PE X i c)(hs:xy X t)
  (ha:∀v,assign (.Subscript o i pos) X.env v=(do
   let a <-holding [v] (eval o X.env);let b <-holding [v,a] (eval i X.env)
   standAt pos
   holding [v,a,b] (setItem a b v)
   release [v,a,b] []):=by intro _;rfl):PG X (.Subscript o i pos) (uj to c t):=by
 intro pins s σ H v u Q I r h;refine E1 (wpAny_holding (aM (ho pins s σ H _ I h) λa s1 ⟨x,H1,d,r1,e⟩=>?_));refine E1 (wpAny_holding (aM (hi pins s1 σ H1 _ d e) λb s2 ⟨y,H2,f,g,j⟩=>?_));refine E1 (wpAny_standAt (E1 (wpAny_holding (aM (hs pins s2 σ H2 x y v a b u _ f r1 g r j) λ_ p ⟨l,m,n⟩=>?_))));exact wpAny_release ⟨σ,l,m,n⟩
def me(te:TE)(g:TG):TS:=λD σ H=>te σ H λx H1=>g x σ H1 D.nx
def iJ{tg e:Vk}{te:TE}{g:TG}(a:PE X e te)(b:PG X tg g)(hs:swapsWithSole [tg] e pos.line X.env=pure false:=by rfl)(c:swappedStores [tg] e X.env=pure Vo:=by rfl)
  (h1:(assignEach [tg] X.env).map (·.2)=[assign tg X.env]:=by rfl):PS X (.Assign [tg] e pos) (me te g):=by
 intro pins s σ H D I h;refine wpAny_Assign_stores (aM (a pins s σ H _ I h) λv s1 ⟨x,H1,d,r1,f⟩=>?_) hs c;rw[h1];exact aM (b pins s1 σ H1 x v _ d r1 f) λ_ s2 q=>q
def aH{i:Nat}{x:Vm}{e:Vk}{te:TE}{pos':Pos}(a:X.N.Nodup)(hi:X.N[i]?=Vn x)(b:Loc X.env.scope x)(c:PE X e te)(hs:swapsWith e (Vn (.Name x pos')) pos.line X.env=pure false:=by rfl)(d:X.fn x=true\/X.env.scope.names.lookup x=Vn .local:=by first|exact .inl rfl|exact .inr rfl|assumption):
  PS X (.Assign [.Name x pos'] e pos) (me te (jY i)):=by
 intro pins s σ H D I h;refine wpAny_Assign_Name (aM (c pins s σ H _ I h) λv s1 ⟨y,H1,f,r1,g⟩=>?_) hs;exact jt f a hi b r1 (λs2 j=>⟨_,H1,j,g⟩) d
def xw(i j:Nat)(ta:TA):TS:=λD σ H=>ta σ H λvs H1=>∃v w,vs=[v,w]/\D.nx ((σ.set i (Vn v)).set j (Vn w)) H1
def ux{i j:Nat}{x y:Vm}{b:Vk}{ta:TA}{f py pt:Pos}{kt k2 pt2}(C:X.calm=true)(r:X.N.Nodup)(hi:X.N[i]?=Vn x)(E:X.N[j]?=Vn y)(g:i≠j)
  (u:X.env.scope.names.lookup x=Vn .local) (z:X.env.scope.names.lookup y=Vn .local) (ha:PA X [a,b] ta)
  (F:swappedStores [.Tuple [.Name x f,.Name y py] kt pt] (.Tuple [a,b] k2 pt2) X.env=pure (Vn [x,y]))
  (hs:swapsWithSole [.Tuple [.Name x f,.Name y py] kt pt] (.Tuple [a,b] k2 pt2) pos.line X.env=pure false:=by rfl) :
  PS X (.Assign [.Tuple [.Name x f,.Name y py] kt pt] (.Tuple [a,b] k2 pt2) pos) (xw i j ta):=by
 intro pins s σ H D I h;refine E1 (wpAny_standAt ?_);refine E1 (E2 ?_);refine E1 (Tuple_ (aM (ha _ pins s σ H _ I h) λus s1 ⟨vs,H1,G,r1,l⟩=>?_));obtain⟨v,w,J,l⟩:=l;subst J;obtain⟨c,d,rfl,L,m⟩:∃c d,us=[c,d]/\RelV v c/\RelV w d:=by
  cases r1 with
  | cons p q=>
   cases q with
   | cons M O=>
    cases O;exact⟨_,_,rfl,p,M⟩
 refine wpAny_newObj_type ?_ (by show 2<=sizeLine;decide);have P:Inv X pins σ H1 { s1 with heap:=s1.heap.push { cls:=.type "tuple",data:=.seq [c,d].toArray } }:=G.kept (t':=s1.toks) λb o e=>E4 _ e;rw[F];refine E1 (E2 ?_);refine E1 (wpAny_rule (E1 (unpackItems_tuple (items:=#[c,d]) (I.ok.hd C) (IsTup.new s1.heap _) λh' n=>?_)));have Q:=P.kept (h':=h') (t':=s1.toks) λb o e=>n b o (Ft (E6 e)) e;refine E1 (assignInOrder_cons (wpAny_bindName (jt Q r E (.inl z) m (λs2 R=>?_) (.inr z))));refine assignInOrder_cons (wpAny_bindName (jt R r hi (.inl u) L (λS B=>assignInOrder_nil (E2 ?_)) (.inr u)));rw[List.set_comm _ _ (Gi g)]at B;exact⟨_,H1,B,l⟩
def qE(i:Nat)(te:TE)(a:jG):TS:=λD σ H=>∃x,σ[i]?=Vn (Vn x)/\te σ H λy H1=>a x y H1 λz H2=>D.nx (σ.set i (Vn z)) H2
def jS{i:Nat}{x:Vm}{e:Vk}{te:TE}{op:Operator}{n:jG}{pos':Pos}(o:X.N.Nodup)(hi:X.N[i]?=Vn x)(g:Loc X.env.scope x)(p:PE X e te)(ho:oE X op n)(q:X.fn x=true\/X.env.scope.names.lookup x=Vn .local:=by first|exact .inl rfl|exact .inr rfl|assumption):
  PS X (.AugAssign (.Name x pos') op e pos) (qE i te n):=by
 intro pins s σ H D I h;obtain⟨v,B,h⟩:=h;obtain⟨m,C,E⟩:=I.loc;have j:lz X.env.scope x:=by rcases g with k|k;exact .inl k;exact .inr (.inl k)
 obtain⟨u,r,l⟩:=E i x v hi B j;refine wpAny_AugAssign_Name ?_;have go:Vf (Vg X.prog X.w) X.A (eval e X.env) (λw d=>Vf (Vg X.prog X.w) X.A (inplaceOp op u w) (λr f=>Vf (Vg X.prog X.w) X.A (storeName X.env x r) (λ_=>SP X pins D .next) X.xe f) X.xe d) X.xe s:=by refine aM (p pins s σ H _ I h) λw s1 ⟨y,H1,F,r1,G⟩=>?_;refine aM (ho pins s1 σ H1 v y u w _ F r r1 G) λz s2 ⟨R,H2,J,L,M⟩=>?_;exact jt J o hi g L (λS O=>⟨_,H2,O,M⟩) q
 rcases l with⟨a,P⟩|⟨a,c,Q,b⟩
 .exact wpAny_loadName_local I.ok.kind a C P go
 .rcases a with a|a
  .exact wpAny_loadName_cell I.ok.kind a Q b go
  .rcases g with k|k
   .have:X.env.scope.names.lookup x=Vn .free:=a;rw[k]at this;cases this
   .have:X.env.scope.names.lookup x=Vn .free:=a;rw[k]at this;cases this
def o5(f:Int->Int->Int):jG:=λx y H Q=>∃i j,x=.int i/\y=.int j/\Q (.int (f i j)) H
def ly:oE X .Add (o5 λi j=>i+j):=by intro pins s σ H x y v u Q I r1 a h;obtain⟨i,j,b,c,q⟩:=h;subst b;subst c;obtain⟨t,rfl⟩:=r1;obtain⟨d,rfl⟩:=a;exact iadd_int ⟨.int _,H,I.tok _,⟨_,rfl⟩,q⟩
def zg:oE X .Sub (o5 λi j=>i-j):=by intro pins s σ H x y v u Q I r1 a h;obtain⟨i,j,b,c,q⟩:=h;subst b;subst c;obtain⟨t,rfl⟩:=r1;obtain⟨d,rfl⟩:=a;exact isub_int ⟨.int _,H,I.tok _,⟨_,rfl⟩,q⟩
def D9(c:TT)(tb:TS):TS:=λD σ H=>∃W:Nat->St->Hp->Prop,(∃m,W m σ H)/\∀m σ H,W m σ H ->
 c σ H λb H1=>if b=true then ∃N:St->Hp->Prop,(∀a H',N a H'->∃d,d<m/\W d a H')/\tb { D with nx:=N,ct:=N,bk:=D.nx } σ H1 else D.nx σ H1
def yE(r:PassesOwn (Vg X.prog X.w) X.A X.env X.xe)(y:PT X c tc)(hb:cW X body tb):PS X (.While c body [] pos) (D9 tc tb):=by
 intro pins s σ H D I h;obtain⟨W,⟨z,B⟩,turn⟩:=h;refine wpAny_While (codeAny_whileLoop (λn s'=>∃e H',Inv X pins e H' s'/\W n e H') ?_ z ⟨σ,H,I,B⟩);rintro n s1 ⟨d,H1,C,E⟩;refine wpAny_passesOwn r (aM (y pins s1 d H1 _ C (turn n d H1 E)) λb s2 ⟨H2,u,i⟩=>?_);cases b with
 | true=>
  obtain⟨N,x,i⟩:=i;refine wpAny_passesOwn r (aM (hb pins s2 d H2 _ u i) λf F j=>?_);cases f with
  | next=>
   obtain⟨a,g,l,m⟩:=j;obtain⟨o,p,q⟩:=x a g m;exact⟨o,p,a,g,l,q⟩
  | cont=>
   obtain⟨a,g,l,m⟩:=j;obtain⟨o,p,q⟩:=x a g m;exact⟨o,p,a,g,l,q⟩
  | brk=>exact j
  | ret v=>exact j
 | false=>
  exact wpAny_execs_nil ⟨d,H2,u,i⟩
end
structure It where
 go:Nat->Hp->Prop
 yld:Nat->Hp->V->Hp->Prop
 stop:Nat->Hp->Prop
def dS(X:Cx)(pins:List (Vb×Obj))(H:Hp)(b:Vb):Prop:=
 H b=Vo/\b≠X.env.locals/\b∉X.fs/\(b∈X.ex\/X.s₀.heap.objs.size<=b)/\(∀x c,X.env.cells.lookup x=Vn c->c≠b)/\∀p∈X.pn++pins,p.1≠b
def Inv.fpOk{σ:St}{b:Vb}(I:Inv X pins σ H s)(hb:s.heap.objs.size<=b)(a:H' b=Vo):dS X pins H' b:=by
 refine⟨a,HL (FH I.lt hb),I.nofs hb,.inr (FI I.sz hb),λx c e z=>?_,λp d z=>?_⟩
 .obtain⟨v,q⟩:=I.cell x c e;exact absurd (FH q.lt (by rw[z];exact hb)) (Gy _)
 .exact absurd (FH (E6 (I.pin p d).1) (by rw[z];exact hb)) (Gy _)
structure Turn(P:Vd)(w:Ve)(K:E3)(tg:Vk)(J:It)(fp:List Vb)(it:Vb)(tn:Nat->Vh->Prop):Prop where
 mem:it∈fp
 obj:∀i h,tn i h->∀b∈fp,∃o,h.get? b=Vn o/\∀v,o.data≠.cell v
 keep:∀i h h',tn i h->(∀b∈fp,∀o,h.get? b=Vn o->h'.get? b=Vn o)->tn i h'
 item:∀(X:Cx),X.prog=P->X.w=w->X.K=K->X.calm=true->∀(i:Nat) (pins:List (Vb×Obj)) (s:Vc) (σ:St) (H:Hp) (E:Va->Vc->Prop),Inv X pins σ H s->(∀b∈fp,dS X pins H b)->tn i s.heap->J.go i H ->
  Vf (Vg P w) X.A (pyNext (.ref it)) (λr s1=>∃u,r=Vn u ∧
   Vf (Vg P w) X.A (letOwnedTupleGo tg (.ref it) u) (λ_ s2=>∃x H',Inv X pins σ H' s2/\RelV x u/\J.yld i H x H'/\tn (i+1) s2.heap/\∀b∈fp,H' b=Vo) E s1) E s
 done:∀(X:Cx),X.prog=P->X.w=w->X.K=K->X.calm=true->∀(i:Nat) (pins:List (Vb×Obj)) (s:Vc) (σ:St) (H:Hp) (E:Va->Vc->Prop),Inv X pins σ H s->(∀b∈fp,dS X pins H b)->tn i s.heap->J.stop i H ->
  Vf (Vg P w) X.A (pyNext (.ref it)) (λr s1=>r=Vo/\Inv X pins σ H s1) E s
 self:∀(A:Vi) (i:Nat) (s:Vc) (Q:Va->Vc->Prop) (E:Va->Vc->Prop),tn i s.heap->Q (.ref it) s->Vf (Vg P w) A (pyIter (.ref it)) Q E s
abbrev TI:=St->Hp->(It->Hp->Prop)->Prop
def sM(X:Cx)(pins:List (Vb×Obj))(σ:St)(tg:Vk)(R:It->Hp->Prop)(a:Va)(s2:Vc):Prop:=
 ∃(it:Vb) (fp:List Vb) (tn:Nat->Vh->Prop) (J:It) (H':Hp),a=.ref it/\Inv X pins σ H' s2/\Turn X.prog X.w X.K tg J fp it tn/\tn 0 s2.heap/\(∀b∈fp,dS X pins H' b)/\R J H'
def PI(X:Cx)(tg iter:Vk)(a:TI):Prop:=
 ∀(pins:List (Vb×Obj)) (s:Vc) (σ:St) (H:Hp) (R:It->Hp->Prop),Inv X pins σ H s->a σ H R ->
  Vf (Vg X.prog X.w) X.A (eval iter X.env) (λv s1=>Vf (Vg X.prog X.w) X.A (pyIter v) (sM X pins σ tg R) X.xe s1) X.xe s
def lM         {n : String}   (ho : s.heap.get? it = Vn o) (b : o.cls = .type n) (hd : o.data = .fields vs)
    (c : ["enumerate", "zip", "dict_itemiterator", "dict_reverseitemiterator", "odict_iterator", "itertools.zip_longest", "itertools.pairwise"].contains n = false) (a : Q () s) : Vf M A (letOwnedTupleGo tg (.ref it) u) Q E s := by
  cases tg <;> first
    | exact E2 a
    | (cases u <;> first
        | exact E2 a
        | (refine E1 (wpAny_load ho ?_)
           rw [b, hd];show Vf M A (if (["enumerate", "zip", "dict_itemiterator", "dict_reverseitemiterator", "odict_iterator", "itertools.zip_longest", "itertools.pairwise"].contains n && vs[0]? == Vn (rawInt _)) = true then _ else _) Q E s;rw [F5 (by intro h; rw [c, Bool.false_and] at h; cases h)];exact E2 a))
def fG(K:E3)(a:Vb):It:=
 ⟨λi H=>∃xs x,ag K H a xs/\xs[i]?=Vn x,λi H x H'=>H'=H/\∀xs,ag K H a xs->xs[i]?=Vn x,λi H=>∃xs,ag K H a xs/\xs.length<=i⟩
def fD(K:E3)(a:Vb):It:=
 ⟨λi H=>∃xs x,ay K H a xs/\xs[i]?=Vn x,λi H x H'=>H'=H/\∀xs,ay K H a xs->xs[i]?=Vn x,λi H=>∃xs,ay K H a xs/\xs.length<=i⟩
def fb(lo:Int)(n:Nat):It:=⟨λi _=>i<n,λi H x H'=>H'=H/\x=.int (lo+i),λi _=>n<=i⟩
theorem AQ{K:E3}(a it):Turn P w K tg (fG K a) [it] it (λi h=>h.IsListIter it a i) where
 mem:=by simp
 obj:=λi h st b hb=>by
  have e:b=it:=by simpa using hb
  subst e;obtain⟨o,e,c,d⟩:=st;exact⟨o,e,λv z=>by rw[d]at z;cases z⟩
 keep:=λi h h' st k=>st.at λo e=>k it (by simp) o e
 item:=by intro X l m n L i pins s σ H E I g st q;subst l m n;obtain⟨xs,x,j,r⟩:=q;obtain⟨y,A,p,M⟩:=I.list j;obtain⟨u,N,O⟩:=A.get r;obtain⟨B,C,Q,F,G,J⟩:=g it (by simp);refine wpAny_pyNext_list_item st p.isList (by simpa using N) λh' f R=>?_;have S:Inv X pins σ H { s with heap:=h' }:=I.turned (t':=s.toks) (λb o hb e=>(R.2 b hb).trans e) B C F G J;obtain⟨o,e,c,d⟩:=id f;exact⟨u,rfl,lM e c d (by decide) ⟨x,H,S,O,⟨rfl,λys T=>by rw[I.list_inj T j];exact r⟩,f,λb hb=>(g b hb).1⟩⟩
 done:=by intro X l m n L i pins s σ H E I g st q;subst l m n;obtain⟨xs,j,r⟩:=q;obtain⟨y,A,p,M⟩:=I.list j;obtain⟨B,C,Q,F,G,J⟩:=g it (by simp);have W:=A.length;exact wpAny_pyNext_list_end (I.ok.hd L) st p.isList (by simp;lia) λh' U=>⟨rfl,I.turned (λb o hb e=>U b o hb e) B C F G J⟩
 self:=λ_ _ _ _ _ st h=>wpAny_pyIter_listiter st h
theorem AS{K:E3}(a it):Turn P w K tg (fD K a) [it] it (λi h=>h.IsTupleIter it a i) where
 mem:=by simp
 obj:=λi h st b hb=>by
  have e:b=it:=by simpa using hb
  subst e;obtain⟨o,e,c,d⟩:=st;exact⟨o,e,λv z=>by rw[d]at z;cases z⟩
 keep:=λi h h' st k=>st.at λo e=>k it (by simp) o e
 item:=by intro X m n q L i pins s σ H E I j st r;subst m n q;obtain⟨xs,x,l,y⟩:=r;obtain⟨f,A,p,M⟩:=I.tuple l;obtain⟨u,N,O⟩:=A.get y;obtain⟨B,C,Q,F,G,J⟩:=j it (by simp);refine wpAny_pyNext_tuple_item st (p) (by simpa using N) λh' g R=>?_;have S:Inv X pins σ H { s with heap:=h' }:=I.turned (t':=s.toks) (λb o hb e=>(R.2 b hb).trans e) B C F G J;obtain⟨o,e,c,d⟩:=id g;exact⟨u,rfl,lM e c d (by decide) ⟨x,H,S,O,⟨rfl,λys T=>by rw[I.tuple_inj T l];exact y⟩,g,λb hb=>(j b hb).1⟩⟩
 done:=by intro X m n q L i pins s σ H E I j st r;subst m n q;obtain⟨xs,l,y⟩:=r;obtain⟨f,A,p,M⟩:=I.tuple l;obtain⟨B,C,Q,F,G,J⟩:=j it (by simp);have W:=A.length;exact wpAny_pyNext_tuple_end (I.ok.hd L) st (p) (by simp;lia) λh' U=>⟨rfl,I.turned (λb o hb e=>U b o hb e) B C F G J⟩
 self:=λ_ _ _ _ _ st h=>wpAny_pyIter_tupleiter st h
theorem zp{K:E3}(it)(lo)(n):Turn P w K tg (fb lo n) [it] it (λi h=>IsRangeIter h it (lo+(i:Nat)*1) ((n:Int)-(i:Nat)) 1) where
 mem:=by simp
 obj:=λi h st b hb=>by
  have e:b=it:=by simpa using hb
  subst e;exact⟨_,st,λv z=>by have x:=z;cases x⟩
 keep:=λi h h' st k=>k it (by simp) _ st
 item:=by intro X d f g j i pins s σ H E I c st l;subst d f g;obtain⟨m,p,y,q,r,u⟩:=c it (by simp);have W:=Walks.range (prog:=X.prog) (w:=X.w) (I.ok.hd j) it lo 1 n;refine W.item i s _ _ l st λv h' tk A a B=>?_;obtain⟨t,rfl⟩:=A;have C:Inv X pins σ H { s with heap:=h',toks:=tk }:=I.turned (λb o hb e=>B b o (by simpa using hb) e) m p q r u;refine⟨_,rfl,lM a rfl rfl (by decide) ⟨.int (lo+i),H,C,⟨t,?_⟩,⟨rfl,rfl⟩,a,λb hb=>(c b hb).1⟩⟩;rw[Int.mul_one]
 done:=by intro X d f g j i pins s σ H E I c st l;obtain⟨m,p,y,q,r,u⟩:=c it (by simp);exact wpAny_pyNext_range_end (I.ok.hd j) st (by have:n<=i:=l;lia) λh' F=>⟨rfl,I.turned (λb o hb e=>F b o hb e) m p q r u⟩
 self:=λ_ _ _ _ _ st h=>wpAny_pyIter_rangeiter st h
section
variable {X:Cx} {tg:Vk}
def nH(K:E3)(tl:TE):TI:=λσ H R=>tl σ H λx H1=>∃a,x=.ref a/\(∃xs,ag K H1 a xs)/\R (fG K a) H1
def nM(K:E3)(tl:TE):TI:=λσ H R=>tl σ H λx H1=>∃a,x=.ref a/\(∃xs,ay K H1 a xs)/\R (fD K a) H1
def De(d:PE X l tl):PI X tg l (nH X.K tl):=by
 intro pins s σ H R I h;refine aM (d pins s σ H _ I h) λv s1 ⟨x,H1,c,r1,f⟩=>?_;obtain⟨a,e,⟨xs,g⟩,q⟩:=f;subst e;cases r1;obtain⟨i,j,p,m⟩:=c.list g;refine wpAny_pyIter_list p.isList ?_;refine⟨s1.heap.objs.size,[s1.heap.objs.size],_,_,H1,rfl,c.kept λb o e=>E4 _ e,AQ a _,⟨_,E5 _ rfl,rfl,rfl⟩,λb hb=>?_,q⟩;have e:b=s1.heap.objs.size:=by simpa using hb
 subst e;exact c.fpOk (Fu _) (c.hok.fresh (Fu _))
def CD(f:PE X l tl):PI X tg l (nM X.K tl):=by
 intro pins s σ H R I h;refine aM (f pins s σ H _ I h) λv s1 ⟨x,H1,c,r1,g⟩=>?_;obtain⟨a,e,⟨xs,i⟩,q⟩:=g;subst e;cases r1;obtain⟨d,j,p,m⟩:=c.tuple i;refine wpAny_pyIter_tuple (p) ?_;refine⟨s1.heap.objs.size,[s1.heap.objs.size],_,_,H1,rfl,c.kept λb o e=>E4 _ e,AS a _,⟨_,E5 _ rfl,rfl,rfl⟩,λb hb=>?_,q⟩;have e:b=s1.heap.objs.size:=by simpa using hb
 subst e;exact c.fpOk (Fu _) (c.hok.fresh (Fu _))
theorem rX{σ:St}{lo hi:Int}{t u v:Tok}(I:Inv X pins σ H s)(h1:-(2 ^ 62)<=lo)(h2:lo<2 ^ 62)(c:-(2 ^ 62)<=hi)(d:hi<2 ^ 62)
  (q:R (fb lo (hi-lo).toNat) H):Vf (Vg X.prog X.w) X.A (pyIter (.ref s.heap.objs.size)) (sM X pins σ tg R) E { s with heap:=s.heap.push { cls:=.type "range",data:=.fields #[.int lo t,.int hi u,.int 1 v] },toks:=tk }:=by
 refine wpAny_pyIter_range (IsRange.new ..) (small_one h1 h2 c d) ?_;have a:Inv X pins σ H { s with heap:=s.heap.push { cls:=.type "range",data:=.fields #[.int lo t,.int hi u,.int 1 v] },toks:=tk }:=I.kept λb o e=>E4 _ e;refine⟨(s.heap.push { cls:=.type "range",data:=.fields #[.int lo t,.int hi u,.int 1 v] }).objs.size,[(s.heap.push { cls:=.type "range",data:=.fields #[.int lo t,.int hi u,.int 1 v] }).objs.size],_,_,H,rfl,
  a.kept λb o e=>E4 _ e,zp _ lo (hi-lo).toNat,?_,λb hb=>?_,q⟩
 .have f:lo+((0:Nat):Int)*1=lo:=by simp
  have g:(((hi-lo).toNat:Nat):Int)-((0:Nat):Int)=Builtin.Range.rangeSize lo hi 1:=by rw[rangeSize_one];split<;>lia
  rw[f,g];exact E5 _ rfl
 .have e:b=(s.heap.push { cls:=.type "range",data:=.fields #[.int lo t,.int hi u,.int 1 v] }).objs.size:=by simpa using hb
  subst e;exact a.fpOk (Fu _) (a.hok.fresh (Fu _))
def vx(ta:TA):TI:=λσ H R=>ta σ H λvs H1=>∃j:Int,vs=[.int j]/\-(2 ^ 62)<=j/\j<2 ^ 62/\R (fb 0 j.toNat) H1
def tQ(ta:TA):TI:=λσ H R=>ta σ H λvs H1=>∃i j:Int,vs=[.int i,.int j]/\(-(2 ^ 62)<=i/\i<2 ^ 62/\-(2 ^ 62)<=j/\j<2 ^ 62)/\R (fb i (j-i).toNat) H1
theorem dv{ta:TA}{p pos:Pos}(c:Gl X "range")(d:X.mg "range" = Vo)(ha:PA X [a] ta)(hs:starEach [a] X.env=[(false,eval a X.env)]:=by rfl):PI X tg (.Call (.Name "range" p) [a] [] pos) (vx ta):=by
 intro pins s σ H R I h;refine Call_ (fQ I c d boot_range (Gf (aM (ha pos pins s σ H _ I h) λus s1 ⟨vs,H1,f,r1,b⟩=>?_) hs rfl));obtain⟨j,e,b,g,q⟩:=b;subst e;cases r1 with
 | cons r i=>
  cases i;obtain⟨t,rfl⟩:=r;exact call_range_1 (rX f (by lia) (by lia) b g (by simpa using q))
def Ew{b:Vk}{ta:TA}{p pos:Pos}(g:Gl X "range")(l:X.mg "range" = Vo)(ha:PA X [a,b] ta)(hs:starEach [a,b] X.env=[(false,eval a X.env),(false,eval b X.env)]:=by rfl)(c:starEach [b] X.env=[(false,eval b X.env)]:=by rfl):
  PI X tg (.Call (.Name "range" p) [a,b] [] pos) (tQ ta):=by
 intro pins s σ H R I h;refine Call_ (fQ I g l boot_range (Gf (aM (ha pos pins s σ H _ I h) λus s1 ⟨vs,H1,m,r1,d⟩=>?_) (by rw[hs,c]) (by rw[c];rfl)));obtain⟨i,j,e,⟨d,n,o,u⟩,q⟩:=d;subst e;cases r1 with
 | cons r f=>
  cases f with
  | cons v f=>
   cases f;obtain⟨t,rfl⟩:=r;obtain⟨w,rfl⟩:=v;exact call_range_2 (rX m d n o u q)
def sO(d:TI)(g:TG)(tb:TS):TS:=λD σ H=>d σ H λJ H1=>∃W:Nat->Nat->St->Hp->Prop,(∃m,W 0 m σ H1)/\∀i m σ H,W i m σ H ->
 (J.stop i H/\D.nx σ H)\/(J.go i H/\∃N:St->Hp->Prop,(∀a H',N a H'->∃c,c<m/\W (i+1) c a H')/\∀x H',J.yld i H x H'->g x σ H' λb H2=>tb { D with nx:=N,ct:=N,bk:=D.nx } b H2)
def ie(fp:List Vb)(h:Vh):List (Vb×Obj):=fp.filterMap λb=>(h.get? b).map λo=>(b,o)
def m8(hb:b∈fp)(e:h.get? b=Vn o):(b,o)∈ie fp h:=Hw.mpr ⟨b,hb,by rw[e];rfl⟩
def rV(a:p∈ie fp h):p.1∈fp/\h.get? p.1=Vn p.2:=by
 obtain⟨b,hb,e⟩:=Hw.mp a;cases q:h.get? b with
 | none=>rw[q]at e;cases e
 | some o=>
  rw[q]at e;have e':(b,o)=p:=FQ e;subst e';exact⟨hb,q⟩
def Inv.pinned{σ:St}(I:Inv X pins σ H s)(a:∀b∈fp,dS X pins H b)(ho:∀b∈fp,∃o,s.heap.get? b=Vn o/\∀v,o.data≠.cell v):Inv X (pins++ie fp s.heap) σ H s:=
 I.pins_of λp c=>(Fx.mp c).elim (λz=>I.pin p (FR _ z)) λz=>by obtain⟨hb,e⟩:=rV z;obtain⟨f,g,h,_⟩:=a p.1 hb;obtain⟨o,e',d⟩:=ho p.1 hb;rw[e]at e';cases e';exact⟨e,f,g,h,d⟩
def Inv.unpinned{σ:St}(I:Inv X (pins++pl) σ H s):Inv X pins σ H s:=I.pins_of λp a=>I.pin p (FR _ (FT _ a))
def bJ{iter:Vk}{body:List Stmt}{R:TI}{g:TG}{tb:TS}{pos:Pos}(z:PassesOwn (Vg X.prog X.w) X.A X.env X.xe)(S:X.calm=true)(hi:PI X tg iter R)(hg:PG X tg g)(hb:cW X body tb)
  (hs:∀x,foldedSetIterable iter X.env x=pure x:=by intro _;rfl):PS X (.For tg iter body [] pos) (sO R g tb):=by
 intro pins s σ H D I h;refine wpAny_For (aM (hi pins s σ H _ I h) λv s1 h1=>aM h1 λa0 s2 h2=>?_) hs;obtain⟨it,fp,tn,J,H2,e,I2,T,G,U,W,⟨m0,w0⟩,turn⟩:=h2;subst e;have stat:∀{H':Hp},(∀b∈fp,H' b=Vo)->∀b∈fp,dS X pins H' b:=λhn b hb=>⟨hn b hb,(U b hb).2⟩;refine codeAny_forLoop_any (λn s'=>∃i c H',Inv X pins c H' s'/\tn i s'.heap/\(∀b∈fp,H' b=Vo)/\W i n c H') ?_ m0 ⟨0,σ,H2,I2,G,λb hb=>(U b hb).1,w0⟩;rintro n Y ⟨i,j,F,Z,B,C,w3⟩;rcases turn i n j F w3 with⟨stop,qn⟩|⟨go,N,hN,step⟩
 .refine wpAny_passesOwn z (aM (T.done X rfl rfl rfl S i pins Y j F X.xe Z (stat C) B stop) λr s4 ⟨L,I4⟩=>?_);subst L;exact wpAny_execs_nil ⟨j,F,I4,qn⟩
 .refine wpAny_passesOwn z (aM (T.item X rfl rfl rfl S i pins Y j F X.xe Z (stat C) B go) λr s4 ⟨u,L,h4⟩=>?_);subst L;refine wpAny_passesOwn z (aM h4 λ_ s5 ⟨x,H5,I5,r5,y5,y,M⟩=>?_);have O:=I5.pinned (stat M) (T.obj _ _ y);refine wpAny_passesOwn z (aM (hg _ s5 j H5 x u _ O r5 (step x H5 y5)) λ_ s6 ⟨P,H6,I6,q6⟩=>?_);refine wpAny_passesOwn z (aM (hb _ s6 P H6 _ I6 q6) λf Q q=>?_);have again:∀{a:St} {l:Hp},Inv X (pins++ie fp s5.heap) a l Q->N a l->∃m,m<n/\∃i c H',Inv X pins c H' Q/\tn i Q.heap/\(∀b∈fp,H' b=Vo)/\W i m c H':=λ{a l} p E=>by obtain⟨m',hm,w7⟩:=hN a l E;refine⟨m',hm,i+1,a,l,p.unpinned,T.keep _ _ _ y λb hb o e=>(p.pin (b,o) (FR _ (FR _ (m8 hb e)))).1,λb hb=>?_,w7⟩;obtain⟨o,e,d⟩:=T.obj _ _ y b hb;exact(p.pin (b,o) (FR _ (FR _ (m8 hb e)))).2.1
  cases f with
  | next=>obtain⟨a,l,p,E⟩:=q;exact again p E
  | cont=>obtain⟨a,l,p,E⟩:=q;exact again p E
  | brk=>obtain⟨a,l,p,q⟩:=q;exact⟨a,l,p.unpinned,q⟩
  | ret v=>obtain⟨x7,a,l,p,r7,q⟩:=q;exact⟨x7,a,l,p.unpinned,r7,q⟩
end
theorem D1{K:E3}{a:Vb}{g:TG}{tb:TS}{D:Ends}(Pv:Nat->St->Hp->Prop)(h0:Pv 0 σ H)(f:∀i σ H,i<=xs.length->Pv i σ H->ag K H a xs)
  (hs:∀i x σ H,xs[i]?=Vn x->Pv i σ H->g x σ H λb H2=>tb { D with nx:=Pv (i+1),ct:=Pv (i+1),bk:=D.nx } b H2) (hd:∀σ H,Pv xs.length σ H->D.nx σ H) :
  ∃W:Nat->Nat->St->Hp->Prop,(∃m,W 0 m σ H)/\∀i m σ H,W i m σ H ->
   ((fG K a).stop i H/\D.nx σ H)\/((fG K a).go i H/\∃N,(∀c H',N c H'->∃d,d<m/\W (i+1) d c H')/\∀x H',(fG K a).yld i H x H'->g x σ H' λb H2=>tb { D with nx:=N,ct:=N,bk:=D.nx } b H2):=by
 refine⟨λi m σ H=>m=xs.length-i/\i<=xs.length/\Pv i σ H,⟨xs.length,by simp,GO _,h0⟩,?_⟩;rintro i m σ H ⟨rfl,hi,p⟩;have q:=f i σ H hi p;by_cases hlt:i<xs.length
 .refine .inr ⟨⟨xs,xs[i],q,by simp[hlt]⟩,Pv (i+1),λc H' h=>⟨xs.length-(i+1),by lia,rfl,hlt,h⟩,λx H' y=>?_⟩;obtain⟨e,y⟩:=y;subst e;exact hs i x σ _ (y xs q) p
 .have e:i=xs.length:=by lia
  subst e;exact .inl ⟨⟨xs,q,Fu _⟩,hd σ H p⟩
theorem A3{K:E3}{a:Vb}{g:TG}{tb:TS}{D:Ends}(Pv:Nat->St->Hp->Prop)(h0:Pv 0 σ H)(f:∀i σ H,i<=xs.length->Pv i σ H->ay K H a xs)
  (hs:∀i x σ H,xs[i]?=Vn x->Pv i σ H->g x σ H λb H2=>tb { D with nx:=Pv (i+1),ct:=Pv (i+1),bk:=D.nx } b H2) (hd:∀σ H,Pv xs.length σ H->D.nx σ H) :
  ∃W:Nat->Nat->St->Hp->Prop,(∃m,W 0 m σ H)/\∀i m σ H,W i m σ H ->
   ((fD K a).stop i H/\D.nx σ H)\/((fD K a).go i H/\∃N,(∀c H',N c H'->∃d,d<m/\W (i+1) d c H')/\∀x H',(fD K a).yld i H x H'->g x σ H' λb H2=>tb { D with nx:=N,ct:=N,bk:=D.nx } b H2):=by
 refine⟨λi m σ H=>m=xs.length-i/\i<=xs.length/\Pv i σ H,⟨xs.length,by simp,GO _,h0⟩,?_⟩;rintro i m σ H ⟨rfl,hi,p⟩;have q:=f i σ H hi p;by_cases hlt:i<xs.length
 .refine .inr ⟨⟨xs,xs[i],q,by simp[hlt]⟩,Pv (i+1),λc H' h=>⟨xs.length-(i+1),by lia,rfl,hlt,h⟩,λx H' y=>?_⟩;obtain⟨e,y⟩:=y;subst e;exact hs i x σ _ (y xs q) p
 .have e:i=xs.length:=by lia
  subst e;exact .inl ⟨⟨xs,q,Fu _⟩,hd σ H p⟩
theorem EE{lo:Int}{g:TG}{tb:TS}{D:Ends}(Pv:Nat->St->Hp->Prop)(h0:Pv 0 σ H)
  (hs:∀i σ H,i<n->Pv i σ H->g (.int (lo+i)) σ H λa H2=>tb { D with nx:=Pv (i+1),ct:=Pv (i+1),bk:=D.nx } a H2) (hd:∀σ H,Pv n σ H->D.nx σ H) :
  ∃W:Nat->Nat->St->Hp->Prop,(∃m,W 0 m σ H)/\∀i m σ H,W i m σ H ->
   ((fb lo n).stop i H/\D.nx σ H)\/((fb lo n).go i H/\∃N,(∀b H',N b H'->∃c,c<m/\W (i+1) c b H')/\∀x H',(fb lo n).yld i H x H'->g x σ H' λa H2=>tb { D with nx:=N,ct:=N,bk:=D.nx } a H2):=by
 refine⟨λi m σ H=>m=n-i/\i<=n/\Pv i σ H,⟨n,by simp,GO _,h0⟩,?_⟩;rintro i m σ H ⟨rfl,hi,p⟩;by_cases hlt:i<n
 .refine .inr ⟨hlt,Pv (i+1),λb H' d=>⟨n-(i+1),by lia,rfl,hlt,d⟩,λx H' y=>?_⟩;obtain⟨e,y⟩:=y;subst e y;exact hs i σ _ hlt p
 .have e:i=n:=by lia
  subst e;exact .inl ⟨Fu _,hd σ H p⟩
abbrev R2:=V->V->Hp->VK->Prop
def cb(X:Cx)(f:Va->Va->Sem Va)(r:R2):Prop:=
 ∀(pins:List (Vb×Obj)) (s:Vc) (σ:St) (H:Hp) (x y:V) (v u:Va) (Q:VK),Inv X pins σ H s->RelV x v->RelV y u->r x y H Q ->
  Vf (Vg X.prog X.w) X.A (f v u) (EP X pins σ Q) X.xe s
def om(X:Cx)(f:Va->Sem Va)(r:V->Hp->VK->Prop):Prop:=
 ∀(pins:List (Vb×Obj)) (s:Vc) (σ:St) (H:Hp) (x:V) (v:Va) (Q:VK),Inv X pins σ H s->RelV x v->r x H Q ->
  Vf (Vg X.prog X.w) X.A (f v) (EP X pins σ Q) X.xe s
def cS(X:Cx)(f:Va)(r:List V->Hp->VK->Prop):Prop:=
 ∀(pins:List (Vb×Obj)) (s:Vc) (σ:St) (H:Hp) (xs:List V) (us:List Va) (Q:VK),Inv X pins σ H s->Vals xs us->r xs H Q ->
  Vf (Vg X.prog X.w) X.A (call f us) (EP X pins σ Q) X.xe s
def Ca(X:Cx)(r:V->Hp->(Bool->Hp->Prop)->Prop):Prop:=
 ∀(pins:List (Vb×Obj)) (s:Vc) (σ:St) (H:Hp) (x:V) (v:Va) (Q:Bool->Hp->Prop),Inv X pins σ H s->RelV x v->r x H Q ->
  Vf (Vg X.prog X.w) X.A (truthy v) (TP X pins σ Q) X.xe s
def jk(r:R2)(ta tb:TE):TE:=λσ H Q=>ta σ H λx H1=>tb σ H1 λy H2=>r x y H2 Q
def tK(r:V->Hp->VK->Prop)(ta:TE):TE:=λσ H Q=>ta σ H λx H1=>r x H1 Q
def rI(C:Int->Int->Prop)(g:Int->Int->V):R2:=λx y H Q=>∃i j,x=.int i/\y=.int j/\C i j/\Q (g i j) H
def gX(g:Int->Int->V):R2:=λx y H Q=>∃i j,x=.int i/\y=.int j/\Q (g i j) H
def rU(g:Int->V):V->Hp->VK->Prop:=λx H Q=>∃i,x=.int i/\Q (g i) H
section
variable {X:Cx} {a b c:Vk} {ta tb tc:TE} {pos:Pos}
def pq(ha:PE X a ta)(hb:PE X b tb){σ:St}{R:V->V->Hp->Prop}(I:Inv X pins σ H s)
  (h:ta σ H λx H1=>tb σ H1 λy H2=>R x y H2)  {f:Va->Va->Sem Va}
  (e:∀v u s2 x y H2,Inv X pins σ H2 s2->RelV x v->RelV y u->R x y H2->Vf (Vg X.prog X.w) X.A (f v u) Q X.xe s2) :
  Vf (Vg X.prog X.w) X.A (eval a X.env) (λv c=>Vf (Vg X.prog X.w) X.A (eval b X.env) (λu d=>Vf (Vg X.prog X.w) X.A (f v u) Q X.xe d) X.xe c) X.xe s:=by
 refine aM (ha pins s σ H _ I h) λv s1 ⟨x,H1,g,r1,i⟩=>?_;refine aM (hb pins s1 σ H1 _ g i) λu s2 ⟨y,H2,j,l,m⟩=>?_;exact e v u s2 x y H2 j r1 l m
def aJ(ho:cb X (binaryOp op) r)(ha:PE X a ta)(hb:PE X b tb):PE X (.BinOp a op b pos) (jk r ta tb):=by intro pins s σ H Q I h;exact wpAny_BinOp (pq ha hb I h λv u s2 x y H2 c d e q=>ho pins s2 σ H2 x y v u Q c d e q)
def dQ(ho:om X (unaryOp op) r)(ha:PE X a ta):PE X (.UnaryOp op a pos) (tK r ta):=by intro pins s σ H Q I h;exact UnaryOp_ (aM (ha pins s σ H _ I h) λv s1 ⟨x,H1,b,r1,c⟩=>ho pins s1 σ H1 x v Q b r1 c)
def lF{g:Int->Int->Int}
  (rule:∀i j t u s Q E,C i j->Q (.int (g i j) s.toks) { s with toks:=s.toks+1 }->Vf (Vg X.prog X.w) X.A (f (.int i t) (.int j u)) Q E s) :
  cb X f (rI C λi j=>.int (g i j)):=by
 intro pins s σ H x y v u Q I a b h;obtain⟨i,j,rfl,rfl,c,q⟩:=h;obtain⟨t,rfl⟩:=a;obtain⟨d,rfl⟩:=b;exact rule i j t d s _ _ c ⟨.int (g i j),H,I.tok _,⟨_,rfl⟩,q⟩
def uN{g:Int->Int->Int}
  (rule:∀i j t u s Q E,Q (.int (g i j) s.toks) { s with toks:=s.toks+1 }->Vf (Vg X.prog X.w) X.A (f (.int i t) (.int j u)) Q E s) :
  cb X f (gX λi j=>.int (g i j)):=by
 intro pins s σ H x y v u Q I a b h;obtain⟨i,j,rfl,rfl,q⟩:=h;obtain⟨t,rfl⟩:=a;obtain⟨c,rfl⟩:=b;exact rule i j t c s _ _ ⟨.int (g i j),H,I.tok _,⟨_,rfl⟩,q⟩
def lL{g:Int->Int->Bool}
  (rule:∀i j t u s Q E,Q (.bool (g i j)) s->Vf (Vg X.prog X.w) X.A (f (.int i t) (.int j u)) Q E s) :
  cb X f (gX λi j=>.bl (g i j)):=by
 intro pins s σ H x y v u Q I a b h;obtain⟨i,j,rfl,rfl,q⟩:=h;obtain⟨t,rfl⟩:=a;obtain⟨c,rfl⟩:=b;exact rule i j t c s _ _ ⟨.bl (g i j),H,I,rfl,q⟩
def vw(i j:Int):Prop:=0<=j/\j<=1000000/\i.natAbs<2 ^ 64
def kR(i j:Int):Prop:=(-(2 ^ 64)<i/\i<2 ^ 64)\/(-(2 ^ 64)<j/\j<2 ^ 64)
def kR.ok(h:kR i j):IntMulOk i j:=by
 rcases h with⟨h1,h2⟩|⟨h1,h2⟩
 .exact .of_left (intBits_le_64 h1 h2)
 .exact .of_right (intBits_le_64 h1 h2)
def bx:cb X (binaryOp .Add) (gX λi j=>.int (i+j)):=uN λ_ _ _ _ _ _ _ q=>add_int q
def dR:cb X (binaryOp .Sub) (gX λi j=>.int (i-j)):=uN λ_ _ _ _ _ _ _ q=>sub_int q
def fW:cb X (binaryOp .Mult) (rI kR λi j=>.int (i*j)):=lF λ_ _ _ _ _ _ _ a q=>mul_int q a.ok
theorem c8:cb X (binaryOp .Mod) (rI (λ_ j=>0<j) λi j=>.int (i % j)):=lF λi j _ _ _ _ _ a q=>by exact mod_int' (by lia) (by rw[Int.fmod_eq_emod_of_nonneg i (by lia)];exact q)
def jR:cb X (binaryOp .Pow) (rI vw λi j=>.int (i ^ j.toNat)):=lF λ_ _ _ _ _ _ _ a q=>pow_int_small a.1 a.2.1 a.2.2 q
def Bq{g:Int->Int}
  (rule:∀i t s Q E,Q (.int (g i) s.toks) { s with toks:=s.toks+1 }->Vf (Vg X.prog X.w) X.A (f (.int i t)) Q E s) :
  om X f (rU λi=>.int (g i)):=by
 intro pins s σ H x v Q I a h;obtain⟨i,rfl,q⟩:=h;obtain⟨t,rfl⟩:=a;exact rule i t s _ _ ⟨.int (g i),H,I.tok _,⟨_,rfl⟩,q⟩
def dH:om X (unaryOp .USub) (rU λi=>.int (-i)):=Bq λ_ _ _ _ _ q=>neg_int q
end
def vq:V->V->Bool
 | .non,.non=>true|.non,.int _=>true|.int _,.non=>true|.non,.bl _=>true|.bl _,.non=>true|.non,.str _=>true|.str _,.non=>true
 | .int _,.int _=>true|.bl _,.bl _=>true|.str _,.str _=>true|.byt _,.byt _=>true
 | .int _,.str _=>true|.str _,.int _=>true|.bl _,.str _=>true|.str _,.bl _=>true
 | _,_=>false
def lD:R2:=λx y H Q=>vq x y=true/\Q (.bl (decide (x=y))) H
def mT:R2:=λx y H Q=>vq x y=true/\Q (.bl (!decide (x=y))) H
def tY:decide (V.int i=V.int j)=(i == j):=by rw[FN];simp
def oq:decide (V.bl i=V.bl j)=(i == j):=by rw[FN];simp
def kc:decide (V.str i=V.str j)=(i == j):=by rw[FN];simp
def vD:decide (V.byt i=V.byt j)=(i.toList == j.toList):=by rw[FN];cases i;cases j;simp
section
variable {X:Cx} {a b c:Vk} {ta tb tc:TE} {pos:Pos}
def b5{σ:St}{k a:Bool}(I:Inv X pins σ H s)(q:Q (.bl k) H)(e:k=a):EP X pins σ Q (.bool a) s:=by subst e;exact⟨.bl k,H,I,rfl,q⟩
def bG:cb X (compareOp .Eq) lD:=by
 intro pins s σ H x y v u Q I c a h;obtain⟨hs,q⟩:=h;cases x with
 | non=>
  cases c;cases y with
  | non=>cases a;exact PySem.EqNone.eq_none_none (b5 I q (by simp))
  | bl j=>cases a;exact PySem.EqNone.eq_none_bool (b5 I q (by simp))
  | int j=>obtain⟨b,rfl⟩:=a;exact PySem.EqNone.eq_none_int (b5 I q (by simp))
  | str j=>obtain⟨b,rfl⟩:=a;exact PySem.EqNone.eq_none_str (b5 I q (by simp))
  | _=>exact absurd (hs) Fp
 | bl i=>
  cases c;cases y with
  | non=>cases a;exact PySem.EqNone.eq_bool_none (b5 I q (by simp))
  | bl j=>cases a;exact eq_bool (b5 I q oq)
  | str j=>obtain⟨b,rfl⟩:=a;exact PySem.EqMixed.eq_bool_str (b5 I q (by simp))
  | _=>exact absurd (show false=true from hs) Fp
 | int i=>
  obtain⟨t,rfl⟩:=c;cases y with
  | non=>cases a;exact PySem.EqNone.eq_int_none (b5 I q (by simp))
  | int j=>obtain⟨b,rfl⟩:=a;exact eq_int (b5 I q tY)
  | str j=>obtain⟨b,rfl⟩:=a;exact PySem.EqMixed.eq_int_str (b5 I q (by simp))
  | _=>exact absurd (show false=true from hs) Fp
 | str i=>
  obtain⟨t,rfl⟩:=c;cases y with
  | non=>cases a;exact PySem.EqNone.eq_str_none (b5 I q (by simp))
  | bl j=>cases a;exact PySem.EqMixed.eq_str_bool (b5 I q (by simp))
  | int j=>obtain⟨b,rfl⟩:=a;exact PySem.EqMixed.eq_str_int (b5 I q (by simp))
  | str j=>obtain⟨b,rfl⟩:=a;exact eq_str (b5 I q kc)
  | _=>exact absurd (show false=true from hs) Fp
 | byt i=>
  obtain⟨t,rfl⟩:=c;cases y with
  | byt j=>obtain⟨b,rfl⟩:=a;exact PySem.W.eq_bytes (b5 I q vD)
  | _=>exact absurd (show false=true from hs) Fp
 | _=>cases y<;>exact absurd (show false=true from hs) Fp
def iR:cb X (compareOp .NotEq) mT:=by
 intro pins s σ H x y v u Q I c a h;obtain⟨hs,q⟩:=h;cases x with
 | non=>
  cases c;cases y with
  | non=>cases a;exact PySem.EqNone.ne_none_none (b5 I q (by simp))
  | bl j=>cases a;exact PySem.EqNone.ne_none_bool (b5 I q (by simp))
  | int j=>obtain⟨b,rfl⟩:=a;exact PySem.EqNone.ne_none_int (b5 I q (by simp))
  | str j=>obtain⟨b,rfl⟩:=a;exact PySem.EqNone.ne_none_str (b5 I q (by simp))
  | _=>exact absurd (hs) Fp
 | bl i=>
  cases c;cases y with
  | non=>cases a;exact PySem.EqNone.ne_bool_none (b5 I q (by simp))
  | bl j=>cases a;exact ne_bool (b5 I q (congrArg not oq))
  | str j=>obtain⟨b,rfl⟩:=a;exact PySem.EqMixed.ne_bool_str (b5 I q (by simp))
  | _=>exact absurd (show false=true from hs) Fp
 | int i=>
  obtain⟨t,rfl⟩:=c;cases y with
  | non=>cases a;exact PySem.EqNone.ne_int_none (b5 I q (by simp))
  | int j=>obtain⟨b,rfl⟩:=a;exact ne_int (b5 I q (congrArg not tY))
  | str j=>obtain⟨b,rfl⟩:=a;exact PySem.EqMixed.ne_int_str (b5 I q (by simp))
  | _=>exact absurd (show false=true from hs) Fp
 | str i=>
  obtain⟨t,rfl⟩:=c;cases y with
  | non=>cases a;exact PySem.EqNone.ne_str_none (b5 I q (by simp))
  | bl j=>cases a;exact PySem.EqMixed.ne_str_bool (b5 I q (by simp))
  | int j=>obtain⟨b,rfl⟩:=a;exact PySem.EqMixed.ne_str_int (b5 I q (by simp))
  | str j=>obtain⟨b,rfl⟩:=a;exact ne_str (b5 I q (congrArg not kc))
  | _=>exact absurd (show false=true from hs) Fp
 | byt i=>
  obtain⟨t,rfl⟩:=c;cases y with
  | byt j=>obtain⟨b,rfl⟩:=a;exact PySem.W.ne_bytes (b5 I q (congrArg not vD))
  | _=>exact absurd (show false=true from hs) Fp
 | _=>cases y<;>exact absurd (show false=true from hs) Fp
def fm:cb X (compareOp .Lt) (gX λi j=>.bl (decide (i<j))):=lL λ_ _ _ _ _ _ _ q=>lt_int q
def g8:cb X (compareOp .LtE) (gX λi j=>.bl (decide (i<=j))):=lL λ_ _ _ _ _ _ _ q=>le_int q
def fF:cb X (compareOp .Gt) (gX λi j=>.bl (decide (j<i))):=lL λ_ _ _ _ _ _ _ q=>gt_int q
def j6:cb X (compareOp .GtE) (gX λi j=>.bl (decide (j<=i))):=lL λ_ _ _ _ _ _ _ q=>ge_int q
def nZ:cb X (compareOp .Is) (λx y H Q=>y=.non/\Q (.bl (decide (x=.non))) H):=by
 intro pins s σ H x y v u Q I a b h;obtain⟨rfl,q⟩:=h;cases b;refine is_none_gen (b5 I q ?_);cases x<;>first
  | (cases a;rfl)
  | (obtain⟨t,rfl⟩:=a;rfl)
def ur:cb X (compareOp .IsNot) (λx y H Q=>y=.non/\Q (.bl (!decide (x=.non))) H):=by
 intro pins s σ H x y v u Q I a b h;obtain⟨rfl,q⟩:=h;cases b;refine isnot_none_gen (b5 I q ?_);cases x<;>first
  | (cases a;rfl)
  | (obtain⟨t,rfl⟩:=a;rfl)
def aR(b:Vk){op:CmpOp}(h:op≠.In:=by decide)(h2:op≠.NotIn:=by decide):behindInMarks op b=false:=by
 have a:(op == CmpOp.In)=false:=by cases op<;>first|rfl|exact absurd rfl h
 have c:(op == CmpOp.NotIn)=false:=by cases op<;>first|rfl|exact absurd rfl h2
 cases b<;>simp[behindInMarks,a,c]
def c6(ho:cb X (compareOp op) r)(ha:PE X a ta)(hb:PE X b tb)(c:behindInMarks op b=false):PE X (.Compare a [op] [b] pos) (jk r ta tb):=by intro pins s σ H Q I h;exact wpAny_Compare1 (pq ha hb I h λv u s2 x y H2 d e f q=>ho pins s2 σ H2 x y v u Q d e f q) c
def vO(t:TE):TT:=λσ H Q=>t σ H λx H'=>∃k,x=.bl k/\Q k H'
def aT(ho:cb X (compareOp op) r)(ha:PE X a ta)(hb:PE X b tb)(d:behindInMarks op b=false):PT X (.Compare a [op] [b] pos) (vO (jk r ta tb)):=by
 intro pins s σ H Q I h;refine wpAny_isTrue_Compare1 (aM (ha pins s σ H _ I h) λv s1 ⟨x,H1,f,r1,g⟩=>aM (hb pins s1 σ H1 _ f g) λu s2 ⟨y,H2,i,j,l⟩=>
  aM (ho pins s2 σ H2 x y v u _ i r1 j l) λc q ⟨z,m,n,o,k,e,p⟩=>?_) d
 subst e;cases o;exact wpAny_truthy_bool ⟨m,n,p⟩
def qb(r b:R2)(ta tb tc:TE):TE:=λσ H Q=>ta σ H λx H1=>tb σ H1 λy H2=>r x y H2 λz a=>∃k,z=.bl k ∧
 (if k=true then tc σ a λc d=>b y c d Q else Q (.bl false) a)
def lr{op f:CmpOp}{r i:R2}(ho:cb X (compareOp op) r)(g:cb X (compareOp f) i)(ha:PE X a ta)(hb:PE X b tb)(o:PE X c tc)
  (p:lastMarks [op,f] [b,c]=false:=by with_unfolding_all rfl):PE X (.Compare a [op,f] [b,c] pos) (qb r i ta tb tc):=by
 intro pins s σ H Q I h;refine Compare_chain (aM (ha pins s σ H _ I h) λv s1 ⟨x,H1,q,r1,w⟩=>chain_link (aM (hb pins s1 σ H1 _ q w) λu s2 ⟨y,H2,A,j,B⟩=>
  aM (ho pins s2 σ H2 x y v u _ A r1 j B) λd C ⟨z,l,m,E,k,e,n⟩=>?_)) p
 subst e;cases E;refine wpAny_truthy_bool ?_;cases k with
 | false=>exact ite_ff ⟨.bl false,l,m,rfl,n⟩
 | true=>exact ite_tt (chain_last (aM (o pins C σ l _ m n) λF G ⟨J,L,M,N,O⟩=>g pins G σ L y J u F Q M j N O))
def lx(K:E3)(x:V)(H:Hp)(k:Bool):Prop:=
 match x with
 | .non=>k=false
 | .bl b=>k=b
 | .int i=>k=(i != 0)
 | .str y=>y.length<=sizeLine/\k=((y.length:Int) != 0)
 | .byt y=>y.size<=sizeLine/\k=((y.size:Int) != 0)
 | .ref p=>(∃xs,ag K H p xs/\k = !xs.isEmpty)\/(∃xs,ay K H p xs/\k = !xs.isEmpty)\/∃kvs,H p=Vn (.dK kvs)/\k = !kvs.isEmpty
 | _=>False
def yw{kvs:List (κ×V)}{vs:List (κ×Va)}(r:KV kvs vs):(!vs.isEmpty) = !kvs.isEmpty:=by cases r<;>rfl
def rK{a:List Va}(r:Vals xs a):(!a.toArray.isEmpty) = !xs.isEmpty:=by cases r<;>simp
def iB:(sizeLine:Nat)<2 ^ 63:=by decide
theorem Cp:Ca X (λx H Q=>∃k,lx X.K x H k/\Q k H):=by
 intro pins s σ H x v Q I a h;obtain⟨k,e,q⟩:=h;have hs:sizeLine=16777216:=sizeLine_eq;cases x with
 | non=>
  cases a;have e':k=false:=e;subst e';exact truthy_none ⟨H,I,q⟩
 | bl b=>
  cases a;have e':k=b:=e;subst e';exact wpAny_truthy_bool ⟨H,I,q⟩
 | int i=>
  obtain⟨t,rfl⟩:=a;have e':k=(i != 0):=e;subst e';exact PySem.P.truthy_int ⟨H,I,q⟩
 | str y=>
  obtain⟨t,rfl⟩:=a;obtain⟨g,e'⟩:y.length<=sizeLine/\k=((y.length:Int) != 0):=e;subst e';exact PySem.P.truthy_str (by lia) ⟨H,I.tok _,q⟩
 | byt y=>
  obtain⟨t,rfl⟩:=a;obtain⟨g,e'⟩:y.size<=sizeLine/\k=((y.size:Int) != 0):=e;subst e';exact PySem.W.truthy_bytes (by lia) ⟨H,I.tok _,q⟩
 | ref p=>
  cases a;have e':(∃xs,ag X.K H p xs/\k = !xs.isEmpty)\/(∃xs,ay X.K H p xs/\k = !xs.isEmpty)\/∃kvs,H p=Vn (.dK kvs)/\k = !kvs.isEmpty:=e;rcases e' with⟨xs,c,e'⟩|⟨xs,c,e'⟩|⟨kvs,c,e'⟩
  .subst e';obtain⟨d,r,pl,f⟩:=I.list c;have hlen:=r.length;exact wpAny_truthy_list pl.isList (by simp only[Fd];lia) ⟨H,I.tok _,by rw[rK r];exact q⟩
  .subst e';obtain⟨d,r,pl,f⟩:=I.tuple c;have hlen:=r.length;exact truthy_tuple pl (by simp only[Fd];lia) ⟨H,I.tok _,by rw[rK r];exact q⟩
  .subst e';obtain⟨f,j,vs,r,m⟩:kvs.length<=sizeLine/\(p == sysModules)=false/\∃vs,KV kvs vs/\s.heap.DictOf (bS X.prog X.w) p vs:=I.hok p _ c;have hlen:kvs.length=vs.length:=F9 r;exact wpAny_truthy_dict j m (by lia) ⟨H,I.tok _,by rw[yw r];exact q⟩
 | _=>exact(show False from e).elim
def EU(ha:PE X a ta)(b:∀whole,isTrue a X.env whole=(do let v <-whole;standAt a.pos;holding [v] (truthy v))):
  PT X a (λσ H Q=>ta σ H λx H'=>∃k,lx X.K x H' k/\Q k H'):=by
 intro pins s σ H Q I h;exact isTrue_plain (aM (ha pins s σ H _ I h) λv s1 ⟨x,H1,c,r1,d⟩=>Cp pins s1 σ H1 x v Q c r1 d) (b _)
def vals1(r:Vals [x] us):∃u,us=[u]/\RelV x u:=by
 cases r with
 | cons r1 a=>cases a;exact⟨_,rfl,r1⟩
def vals2(r:Vals [x,y] us):∃u a,us=[u,a]/\RelV x u/\RelV y a:=by
 cases r with
 | cons r1 b=>
  cases b with
  | cons c d=>cases d;exact⟨_,_,rfl,r1,c⟩
def EG(b:X.calm=true):cS X (.builtin "max") (λxs H Q=>∃i j,xs=[.int i,.int j]/\Q (.int (if j>i then j else i)) H):=by
 intro pins s σ H xs us Q I r h;obtain⟨i,j,rfl,q⟩:=h;obtain⟨u,c,rfl,⟨t,rfl⟩,⟨d,rfl⟩⟩:=vals2 r;refine max_two_ints (I.ok.hd b) λh' tk k=>⟨_,H,I.kept k,?_,q⟩;by_cases a:j>i
 .rw[F6 a,F6 a];exact⟨_,rfl⟩
 .rw[F5 a,F5 a];exact⟨_,rfl⟩
end
structure ObjM(h:Vh)(x dx C:Vb)(mA:Vm->Option Va):Prop where
 obj:h.get? x=Vn (KS C dx)
 ns:h.Ns1 dx mA
 ne:dx≠x
def zl(n:h.Ns1 dx mA):∃od,h.get? dx=Vn od/\∀name,Kp name od=Vn (mA name):=by
 obtain⟨o,es,ep,ho,hd,c,_,d⟩:=n;refine⟨o,ho,λname=>?_⟩;have e:=d name;unfold nsFind findBy at e;rw[<-Array.find?_toList]at e;unfold Kp;rw[hd];dsimp only;split
 .rename_i y q;rw[q]at e;exact congrArg Vn e
 .rename_i q;rw[q]at e;have a:es.toList.any (·.refKey)=false:=by rw[List.any_eq_false];intro y f;obtain⟨z,t,b⟩:=c y (JK.mp f);simp[DictEntry.refKey,b]
  have g:¬es.toList.any (·.refKey)=true:=by rw[a];exact Fp
  rw[F5 g];exact congrArg Vn e
def ObjM.look(I:ObjM h x dx C mA):∃od,PySem.W.InstAt h x (KS C dx) C (Vn od)/\∀name,Kp name od=Vn (mA name):=
 let ⟨od,ho,hl⟩:=zl I.ns
 ⟨od,⟨I.obj,rfl,rfl,ho⟩,hl⟩
def fL.some_of(r:fL (Vn v) o):∃u,o=Vn u/\RelV v u:=by
 cases o with
 | none=>exact(r).elim
 | some u=>exact⟨u,rfl,r⟩
section
variable {P:Vd} {w:Ve} {H H':Hp} {h h':Vh} {a C dx:Vb} {fs fs':List (Vm×V)}
def Bc(hok:bK P w H h)(e:H a=Vn (.ins C dx fs)):∃mA,ObjM h a dx C mA/\(∀f,fL (fs.lookup f) (mA f))/\PySem.Within mA (fs.map (·.1))/\fs.length<=1000/\H dx=Vn (.own a):=by obtain⟨d,z,ne,b,mA,n,r,q⟩:=(show bN P w H h a (.ins C dx fs)from hok a _ e);exact⟨mA,⟨b,n,ne⟩,r,q,z,d⟩
end
structure Cls(K:E3)(C:Vb):Prop where
 pg:Le K C Str.empty=true
 hd:PySem.W.hasDictIn K C=true
 po:PySem.W.plainOver K C=true
 sa:PySem.W.findIn K (.ref C) "__setattr__" = Vn (Vn (.builtin "object.__setattr__"))
def Cls.get{K:E3}(c:Cls K C)(f):Le K C f=true:=c.pg
section
variable {X:Cx} {pins:List (Vb×Obj)} {σ:St} {H:Hp} {s:Vc} {A:Vi} {E:Va->Vc->Prop} {Q:Va->Vc->Prop} {c:Va} {b:Bool}
inductive TyOf(K:E3)(H:Hp):V->Va->Prop where
 | non:TyOf K H .non (.type "NoneType")
 | bl (x:Bool):TyOf K H (.bl x) (.type "bool")
 | int (i:Int):TyOf K H (.int i) (.type "int")
 | str (x:Vm):TyOf K H (.str x) (.type "str")
 | flt (x:UInt64):TyOf K H (.flt x) (.type "float")
 | lst {a:Vb} {xs:List V} (e:H a=Vn (.lst xs)):TyOf K H (.ref a) (.type "list")
 | frz {a:Vb} {o:Obj} {xs:List V} (e:H a=Vn (.frz o (.lst xs))):TyOf K H (.ref a) (.type "list")
 | tup {a:Vb} {xs:List V} (e:H a=Vn (.tup xs)):TyOf K H (.ref a) (.type "tuple")
 | dK {a:Vb} {kvs:List (Key×V)} (e:H a=Vn (.dK kvs)):TyOf K H (.ref a) (.type "dict")
 | dT {a:Vb} {kvs:List (List Key×V)} (e:H a=Vn (.dT kvs)):TyOf K H (.ref a) (.type "dict")
 | ins {a C dx:Vb} {fs:List (Vm×V)} (e:H a=Vn (.ins C dx fs)) (cl:Cls K C) (ha:PySem.W.findIn K (.ref C) "__class__" = Vn (Vn (.builtin "object.__class__")))
   (c:PySem.W.specialIn K (.builtin "object.__class__") "__get__" = Vn (Vn (.builtin "getset_descriptor.__get__"))) (b:PySem.W.takesIn K (.builtin "object.__class__")=Vn true)
   (d:PySem.W.mroIn K C (.type "object")=Vn true):TyOf K H (.ref a) (.ref C)
def yz(I:Inv X pins σ H s)(d:RelV x u)(ty:TyOf X.K H x t)(e:PySem.W.kitOne X.K t c=Vn b)(h:∀tk,Q (.bool b) { s with toks:=tk }):
  Vf (Vg X.prog X.w) A (call (.builtin "isinstance") [u,c]) Q E s:=by
 cases ty with
 | non=>cases(d);exact G8 PySem.W.kitx_none I.kIn True.intro e (λz=>nomatch z) h
 | bl y=>cases(d);exact G8 PySem.W.kitx_bool I.kIn True.intro e (λz=>nomatch z) h
 | int i=>obtain⟨t,q⟩:=(show ∃t,u=Value.int i t from d);cases q;exact G8 PySem.W.kitx_int I.kIn True.intro e (λz=>nomatch z) h
 | str y=>obtain⟨t,q⟩:=(show ∃t,u=Value.str y t from d);cases q;exact G8 PySem.W.kitx_str I.kIn True.intro e (λz=>nomatch z) h
 | flt y=>obtain⟨t,q⟩:=(show ∃t,u=Value.float y t from d);cases q;exact G8 PySem.W.kitx_float I.kIn True.intro e (λz=>nomatch z) h
 | @lst a xs f=>
  cases(d);obtain⟨_,_,n,_,h1⟩:=(show bN X.prog X.w H s.heap a (.lst xs)from I.hok a _ f);exact G8 LU I.kIn ⟨_,h1,rfl⟩ e (λz=>nomatch z) h
 | @frz a j xs f=>
  cases(d);obtain⟨_,_,_,n,_,h1⟩:=(show bN X.prog X.w H s.heap a (.frz j (.lst xs))from I.hok a _ f);exact G8 LU I.kIn ⟨_,h1,rfl⟩ e (λz=>nomatch z) h
 | @tup a xs f=>
  cases(d);obtain⟨_,_,_,p⟩:=(show bN X.prog X.w H s.heap a (.tup xs)from I.hok a _ f);obtain⟨o,h1,h2,_⟩:=p;exact G8 PySem.W.kitx_tuple I.kIn ⟨o,h1,h2⟩ e (λz=>nomatch z) h
 | @dK a kvs f=>
  cases(d);obtain⟨_,_,vs,_,p⟩:=(show bN X.prog X.w H s.heap a (.dK kvs)from I.hok a _ f);obtain⟨o,es,ep,h1,h2,_⟩:=p;exact G8 LV I.kIn ⟨o,h1,h2.1⟩ e (λz=>nomatch z) h
 | @dT a kvs f=>
  cases(d);obtain⟨_,_,xs,_,o,es,ep,h1,h2,_⟩:=(show bN X.prog X.w H s.heap a (.dT kvs)from I.hok a _ f);exact G8 LV I.kIn ⟨o,h1,h2.1⟩ e (λz=>nomatch z) h
 | @ins a C dx fs f cl ha l g m=>
  cases(d);obtain⟨mA,O,_⟩:=Bc I.hok f;obtain⟨od,J,_⟩:=O.look;exact G8 (PySem.W.kitx_own (cl.get _) cl.hd ha l g m) I.kIn J e (λz=>nomatch z) h
end
structure Room(k:Nat)(A:Vi):Prop where
 hd:A.handled=Vo
 dp:A.depth+3*k+5<recursionLimit
 un:A.units+16*k+200<cLine
theorem Room.mono(r:Room k A)(h:j<=k):Room j A:=⟨r.hd,by have:=r.dp;lia,by have:=r.un;lia⟩
theorem Room.deeper{k:Nat}{A:Vi}(r:Room (k+1) A)(env:Env):Room k (A.deeper env):=
 ⟨r.hd,by have:=r.dp;show A.depth+1+3*k+5<_;lia,by have:=r.un;show A.units+3+16*k+200<_;lia⟩
theorem Room.depth{k:Nat}{A:Vi}(r:Room k A):A.depth<recursionLimit:=by have:=r.dp;lia
theorem Room.units{k:Nat}{A:Vi}(r:Room k A):A.units+64<cLine:=by have:=r.un;lia
def mC:TA:=λ_ H Q=>Q [] H
def mh(ta:TE)(tr:TA):TA:=λσ H Q=>ta σ H λx H1=>tr σ H1 λxs H2=>Q (x::xs) H2
section
variable {X:Cx} {e:Vk} {es:List Vk} {te:TE} {t:TA} {pos:Pos}
def aa:PA X [] mC:=λ_ _ _ _ H Q I h=>Im ⟨[],H,I,.nil,h⟩
def aw(ha:PE X e te)(a:PA X es t)(hs:starEach (e::es) X.env=(false,eval e X.env)::starEach es X.env:=by rfl):PA X (e::es) (mh te t):=by intro pos pins s σ H Q I h;rw[hs];refine Ii (aM (ha pins s σ H _ I h) λu s1 ⟨x,H1,b,r1,c⟩=>?_);exact aM (a pos pins s1 σ H1 _ b c) λus s2 ⟨xs,H2,d,f,g⟩=>⟨x::xs,H2,d,.cons r1 f,g⟩
def mK(t:TA):TE:=λσ H Q=>t σ H λxs H1=>xs.length<=sizeLine/\∀p,H1 p=Vo->Q (.ref p) (upd H1 p (.tup xs))
def uO(t:TA):TE:=λσ H Q=>t σ H λxs H1=>xs.length<=sizeLine/\∀p,H1 p=Vo->Q (.ref p) (upd H1 p (.lst xs))
def bH{x1}(h:PA X es t):PE X (.Tuple es x1 pos) (mK t):=by intro pins s σ H Q I c;refine wpAny_Tuple_spliced (aM (h pos pins s σ H _ I c) λus s1 ⟨xs,H1,a,r,z,q⟩=>⟨by rw[<-r.length];exact z,?_⟩);have d:H1 s1.heap.objs.size=none:=a.hok.fresh (Fu _);refine⟨.ref s1.heap.objs.size,upd H1 s1.heap.objs.size (.tup xs),a.laid (λb u e=>E4 _ e) (Fu _) ?_,rfl,q _ d⟩;exact⟨z,us,r,⟨_,E5 _ rfl,rfl,_,rfl⟩⟩
def bI(h:PA X es t):PE X (.List es pos) (uO t):=by intro pins s σ H Q I c;refine wpAny_List_spliced (aM (h pos pins s σ H _ I c) λus s1 ⟨xs,H1,a,r,z,q⟩=>⟨by rw[<-r.length];exact z,?_⟩);have d:H1 s1.heap.objs.size=none:=a.hok.fresh (Fu _);refine⟨.ref s1.heap.objs.size,upd H1 s1.heap.objs.size (.lst xs),a.laid (λb u e=>E4 _ e) (Fu _) ?_,rfl,q _ d⟩;exact⟨z,us,0,r,E5 _ rfl⟩
end
abbrev Sp:=List V->Hp->VK->XK->Prop
abbrev gC:=List Env->Hp->Vc->XK->Va->Vc->Prop
structure Env0(P:Vd)(w:Ve)(K:E3)(mg:Vm->Option Va)(base:Vh)(A:Vi)(outer:List Env)(s:Vc)(H:Hp):Prop where
 frames:A.frames=Vn outer
 mod:Mod K mg base
 bs:∀b o,base.get? b=Vn o->s.heap.get? b=Vn o/\H b=Vo
 bsz:base.objs.size<=s.heap.objs.size
 funs:s.heap.FunFrames base outer
 frf:∀b∈dZ outer,H b=Vo
 hok:bK P w H s.heap
 bare:AllBare s.gens
def CE(outer:List Env)(P:Vd)(w:Ve)(H:Hp)(s:Vc)(Q:VK)(u:Va)(s':Vc):Prop:=
 ∃v H',s'.os=s.os/\AllBare s'.gens/\Un (dZ outer) [] H H' s.heap s'.heap/\bK P w H' s'.heap/\RelV v u/\Q v H'
def CR(CX:gC)(outer:List Env)(P:Vd)(w:Ve)(H:Hp)(s:Vc)(Q:VK)(E:XK)(r:Result)(s':Vc):Prop:=
 match r with
 | .ok (.ret u)=>CE outer P w H s Q u s'
 | .ok _=>False
 | .error e=>CX outer H s E e s'
structure FnOk(P:Vd)(w:Ve)(K:E3)(mg:Vm->Option Va)(base:Vh)(CX:gC)(k:Nat)(f:Vb)(fd:Vl)(ps:List Vm)(sp:Sp):Prop where
 len:∀vs H Q E,sp vs H Q E->vs.length=ps.length
 run:∀(A:Vi) (outer:List Env) (s:Vc) (H:Hp) (args:Args) (us:List Va) (vs:List V) (Q:VK) (E:XK),Room k A->Env0 P w K mg base A outer s H->BindsTo s fd args (ps.zip us)->Vals vs us->sp vs H Q E ->
  codeAny (Vg P w) A (.call (.ref f) args) (CR CX outer P w H s Q E) s
section
variable {X:Cx} {pins:List (Vb×Obj)} {σ:St} {H:Hp} {s s':Vc}
def Inv.env0(I:Inv X pins σ H s):Env0 X.prog X.w X.K X.mg X.base X.A X.stack s H:=
 ⟨I.ok.frames,I.ok.mod,I.bs,FI I.ok.bsz I.sz,I.stack,I.stkFree,I.hok,I.bare⟩
def Inv.after(I:Inv X pins σ H s)(h:CE X.stack X.prog X.w H s Q u s'):EP X pins σ Q u s':=by obtain⟨v,H',os,bare,un,hok,r,q⟩:=h;obtain⟨c,g,d,t,a⟩:=s';obtain rfl:a=s.os:=os;exact⟨v,H',I.call un hok bare (λb z=>absurd z (by simp)),r,q⟩
end
def k9(sp:Sp)(dvs:List V)(E:XK)(t:TA):TE:=λσ H Q=>t σ H λvs H1=>sp (vs++dvs) H1 Q E
def Binds(K:E3)(fd:Vl)(ps:List Vm)(ds:List Va):Prop:=
 ∀(s:Vc) (us:List Va),K.In s.heap->(us++ds).length=ps.length->BindsTo s fd ⟨us,[]⟩ (ps.zip (us++ds))
def Binds.all{K:E3}(h:∀us,us.length=ps.length->bindArgs fd ⟨us,[]⟩=pure (ps.zip us)):Binds K fd ps []:=λs us _ a=>by rw[GJ]at a ⊢;exact .of_eq (h us a)
def Passes(CX:gC)(X:Cx)(E:XK):Prop:=∀(pins:List (Vb×Obj)) (σ:St) (H:Hp) (s:Vc) (e:Va) (s':Vc),Inv X pins σ H s->CX X.stack H s E e s'->X.xe e s'
section
variable {X:Cx} {CX:gC} {k:Nat} {f C:Vb} {fd:Vl} {ps:List Vm} {sp:Sp} {dvs:List V} {ds:List Va} {E:XK} {x m:Vm} {p pos apos:Pos} {e o:Vk} {es:List Vk} {ta:TE} {t:TA}
def BW{σ:St}(F:FnOk X.prog X.w X.K X.mg X.base CX k f fd ps sp)(c:Room k X.A)(hb:Binds X.K fd ps ds)(hd:Vals dvs ds)(d:Passes CX X E)
  (I:Inv X pins σ H s) (r:Vals vs us) (h:sp (vs++dvs) H Q E):Vf (Vg X.prog X.w) X.A (call (.ref f) us) (EP X pins σ Q) X.xe s:=by
 have b:Vals (vs++dvs) (us++ds):=r.append hd;have g:(us++ds).length=ps.length:=by rw[<-b.length];exact F.len _ _ _ _ h
 refine wpAny_call (codeAny_mono (F.run X.A X.stack s H ⟨us,[]⟩ (us++ds) (vs++dvs) Q E c I.env0 (hb s us I.kIn g) b h) λr s' a=>?_);cases r with
 | error e=>exact d pins σ H s e s' I a
 | ok fl=>
  cases fl with
  | ret u=>exact I.after a
  | next=>exact GZ a
  | brk=>exact GZ a
  | cont=>exact GZ a
def BC(F:FnOk X.prog X.w X.K X.mg X.base CX k f fd ps sp)(d:Room k X.A)(g:Gl X x)(i:X.mg x=Vn (.ref f))(j:IS X.K (.ref f)=true)(hb:Binds X.K fd ps ds)(hd:Vals dvs ds)(l:Passes CX X E)
  (ha:PA X (e::es) t) (a:(x == ("__debug__":Vm))=false:=by decide) (m:starEach (e::es) X.env=(false,eval e X.env)::starEach es X.env:=by rfl) (b:(backTo pos (starEach es X.env)).any (·.1)=false:=by rfl) :
  PE X (.Call (.Name x p) (e::es) [] pos) (k9 sp dvs E t):=by
 intro pins s σ H Q I h;refine wpAny_Call_Name_kw (jv I g i ?_ a);refine LG I.ok.mod.kin j (aM (ha pos pins s σ H _ I h) λus s1 ⟨vs,H1,c,r,q⟩=>⟨c.kIn,?_⟩) m b;exact BW F d hb hd l c r q
end
structure FnScope(N P:List Vm)(sc:Scope):Prop where
 kind:sc.kind=.function
 co:sc.isCoroutine=false
 gen:sc.isGenerator=false
 nd:N.Nodup
 pre:N.take P.length=P
 par:∀x∈P,sc.names.lookup x=Vn .local\/sc.names.lookup x=Vn .cell
 nofree:∀y∈sc.names,y.2≠.free
theorem xp{kindOf:Vm->Option NameKind}{x:Vm}:∀{binds:List (Vm×Va)} {m:Vm->Option Va},(∀v,(x,v)∉binds)->bindL kindOf binds m x=m x
 | [],_,_=>rfl
 | (n,v)::r,m,h=>by
  unfold bindL;rw[xp λw a=>h w (Fb _ a)];split
  .have:x≠n:=by rintro rfl;exact h v Fe
   simp[this]
  .rfl
theorem vv{kindOf:Vm->Option NameKind}{x:Vm}:∀{binds:List (Vm×Va)} {m:Vm->Option Va},(∀v,(x,v)∉binds)->bindC kindOf binds m x=m x
 | [],_,_=>rfl
 | (n,v)::r,m,h=>by
  unfold bindC;rw[vv λw a=>h w (Fb _ a)];split
  .rfl
  .have:x≠n:=by rintro rfl;exact h v Fe
   simp[this]
theorem oH{kindOf:Vm->Option NameKind}{x:Vm}{v:Va}:∀{P:List Vm} {vs:List Va} {i:Nat} {m:Vm->Option Va},P.Nodup->P[i]?=Vn x->vs[i]?=Vn v->kindOf x=Vn .local ->
  bindL kindOf (P.zip vs) m x=Vn v
 | [],_,_,_,_,h,_,_=>by simp at h
 | _::_,[],_,_,_,_,h,_=>by simp at h
 | p::P,w::vs,0,m,nd,h1,h2,a=>by simp at h1 h2;subst h1;subst h2;show bindL kindOf ((p,w)::P.zip vs) m p=_;unfold bindL;rw[xp λv b=>(Gp.mp nd).1 (JS b).1,F6 a];simp
 | p::P,w::vs,i+1,m,nd,h1,h2,a=>by unfold bindL;exact oH (Gp.mp nd).2 (by simpa using h1) (by simpa using h2) a
theorem mx{kindOf:Vm->Option NameKind}{x:Vm}{v:Va}:∀{P:List Vm} {vs:List Va} {i:Nat} {m:Vm->Option Va},P.Nodup->P[i]?=Vn x->vs[i]?=Vn v->kindOf x≠Vn .local ->
  bindC kindOf (P.zip vs) m x=Vn v
 | [],_,_,_,_,h,_,_=>by simp at h
 | _::_,[],_,_,_,_,h,_=>by simp at h
 | p::P,w::vs,0,m,nd,h1,h2,a=>by simp at h1 h2;subst h1;subst h2;show bindC kindOf ((p,w)::P.zip vs) m p=_;unfold bindC;rw[vv λv b=>(Gp.mp nd).1 (JS b).1,F5 a];simp
 | p::P,w::vs,i+1,m,nd,h1,h2,a=>by unfold bindC;exact mx (Gp.mp nd).2 (by simpa using h1) (by simpa using h2) a
def start(N:List Vm)(vs:List V):St:=vs.map Vn++FU (N.length-vs.length) Vo
def fJ(CX:gC)(P:Vd)(w:Ve)(K:E3)(mg:Vm->Option Va)(base:Vh)(N:List Vm)(qual:Vm)(scope:Scope)(f:Vb)(cd:Va)(A:Vi)(outer:List Env)(s:Vc)(H:Hp)(E:XK):Cx where
 prog:=P
 w:=w
 K:=K
 mg:=mg
 base:=base
 A:=A.deeper (envOfC qual scope s.heap.objs.size f cd)
 N:=N
 s₀:=s
 H₀:=H
 env:=envOfC qual scope s.heap.objs.size f cd
 outer:=outer
 stack:=envOfC qual scope s.heap.objs.size f cd::outer
 ex:=[]
 calm:=true
 fn:=λ_=>true
 pn:=[]
 xe:=λe s'=>Vf (Vg P w) (A.deeper (envOfC qual scope s.heap.objs.size f cd)) (leaving (envOfC qual scope s.heap.objs.size f cd) e) (λ_ a=>CX outer H s E e a) (λe' a=>CX outer H s E e' a) s'
def tU{sc:Scope}(h:sc.names.lookup x=Vn .cell):∃c,(cellsFrom n sc.names []).lookup x=Vn c:=by have q:=Gu sc.names n [] (.inl h);exact GR.mp q
theorem A4{K:E3}{E:XK}
  (S:FnScope N ps scope) (hd:A.handled=Vo) (d:Env0 P w K mg base A outer s H) (F:vs.length=ps.length) (r:Vals vs us)
  (x:InCallC s s.heap.objs.size (bindL (envOfC qual scope s.heap.objs.size f cd).kindOf (ps.zip us) λ_=>Vo) (cellsFrom (s.heap.objs.size+1) scope.names []) (bindC (envOfC qual scope s.heap.objs.size f cd).kindOf (ps.zip us) λ_=>Vo) s1) :
  Inv (fJ CX P w K mg base N qual scope f cd A outer s H E) [] (start N vs) H s1:=by
 have B:ps.length<=N.length:=by have:=congrArg Ju S.pre;rw[FZ]at this;lia
 obtain⟨h1,tk,rfl,m⟩:=x.done;have noA:∀b:Vb,b∉(fJ CX P w K mg base N qual scope f cd A outer s H E).ex:=λb z=>absurd (show b∈([]:List Vb)from z) (by simp);refine⟨⟨d.mod,S.kind,rfl,rfl,Fu _,λy z c h1 h2=>?_,λy g=>?_,λy c _ h=>?_,λ_=>hd,Kq d.frames,.inr ⟨rfl,rfl⟩,λb z=>absurd z (noA b),d.bs,d.bsz,λb _ _=>noA b,λb z=>absurd z (noA b),d.funs,d.frf⟩,
  rfl,d.bare,Un.kept m,⟨_,x.toInCall.ns,λi y v h1 h2 G=>?_⟩,λy c h=>⟨_,x.cell y c h⟩,d.hok.fresh (Fu _),λy c h=>?_,λp j=>absurd (show p∈([]:List (Vb×Obj))from j) (by simp),d.hok.kept m,?_⟩
 .exact name_of_addr x.apart (Gg h1) (Gg h2)
 .rcases g with g|g
  .exact tU g
  .exact absurd rfl (S.nofree _ (Gg g))
 .exact HE (x.above y c (Gg h))
 .have hi:i<vs.length:=by
   unfold start at h2;by_cases hi:i<vs.length
   .exact hi
   .rw[Fy (by simpa using hi)]at h2;rw[J3]at h2;split at h2<;>cases h2
  have ha:vs[i]?=Vn v:=by
   unfold start at h2;rw[Fz (by simpa using hi),E9]at h2;cases e:vs[i]? with
   | none=>rw[e]at h2;cases h2
   | some a=>rw[e]at h2;cases h2;rfl
  obtain⟨u,o,C⟩:=r.get ha;have j:ps[i]?=some y:=by rw[<-S.pre,HR (by lia)];exact h1
  have l:ps.Nodup:=by rw[<-S.pre];exact S.nd.sublist (Jv _ _)
  refine⟨u,C,?_⟩;rcases S.par y (Fh j)with k|k
  .exact .inl ⟨k,oH l j o k⟩
  .obtain⟨c,e⟩:=tU (n:=s.heap.objs.size+1) k;refine .inr ⟨.inl k,c,e,?_⟩;have q:=x.cell y c e;rw[mx l j o (by show scope.names.lookup y≠_;rw[k];decide)]at q;exact q
 .exact d.hok.fresh (HE (x.above y c (Gg h)))
 .unfold start;show _=N.length;rw[Fs,E7,Kb];lia
def tM{K:E3}{j kV doc pm cdv ct oc:Va}
     (m:K.lookup f=Vn ⟨oc,od,.func (Hc name qual params body scope j kV doc pm an cdv ct),osl⟩) (g:Io K cdv qual=true) (S:FnScope N ps scope)
  (len:∀vs H Q E,sp vs H Q E->vs.length=ps.length)
  (c:∀A outer s H vs Q E,Room k (A.deeper (envOfC qual scope s.heap.objs.size f cdv))->sp vs H Q E ->
   ∃t,cW (fJ CX P w K mg base N qual scope f cdv A outer s H E) body t/\t { nx:=λ_ H'=>Q .non H',rt:=Q } (start N vs) H) :
  FnOk P w K mg base CX (k+1) f (Hc name qual params body scope j kV doc pm an cdv ct) ps sp:=by
 refine⟨len,λA outer s H args us vs Q E h d hb r hsp=>?_⟩;have p:=len _ _ _ _ hsp;have l:K.In s.heap:=d.mod.kin.keeps λb o e=>(d.bs b o e).1;have lim:=d.mod.nolimit.keeps λb o e=>(d.bs b o e).1;have hkind:∀y∈ps.zip us,scope.names.lookup y.1=Vn .local\/(scope.names.lookup y.1=Vn .cell/\((cellsFrom (s.heap.objs.size+1) scope.names []).lookup y.1).isSome=true):=λ⟨n,v⟩ z=>by
  rcases S.par n (JS z).1 with q|q
  .exact .inl q
  .exact .inr ⟨q,Gu _ _ _ (.inl q)⟩
 refine codeAny_call_function h.depth (l _ _ m) rfl S.co S.gen rfl (PySem.W.codeRec_of l g) (hb _ _ _ _ ?_);refine wpAny_newFunctionEnv_cells S.kind hkind λenv B s1 x=>?_;subst B;refine⟨lim.keeps x.toInCall.keep,codeAny_func ?_⟩;obtain⟨t,C,F⟩:=c A outer s H vs Q E (h.deeper _) hsp;have I:Inv (fJ CX P w K mg base N qual scope f cdv A outer s H E) [] (start N vs) H s1:=A4 S h.hd d p r x;refine wpAny_mono (C [] s1 (start N vs) H _ I F) (λfl s' hs=>?_) λe s' hs=>hs;have fin:∀{a:St} {H':Hp} {v:V} {u:Va},Inv (fJ CX P w K mg base N qual scope f cdv A outer s H E) [] a H' s'->RelV v u->Q v H'->CE outer P w H s Q u s':=
  λ{a H' v u} J i q=>⟨v,H',J.os,J.bare,J.base,J.hok,i,q⟩
 cases fl with
 | ret u=>
  obtain⟨v,a,H',J,i,q⟩:=hs;exact fin J i q
 | next=>
  obtain⟨a,H',J,q⟩:=hs;exact fin (v:=V.non) J rfl q
 | brk=>
  obtain⟨_,_,_,q⟩:=hs;exact GZ q
 | cont=>
  obtain⟨_,_,_,q⟩:=hs;exact GZ q
section
variable {X:Cx} {x:Vm} {p pos:Pos} {e:Vk} {es:List Vk} {t:TA} {id T:String} {r:List V->Hp->VK->Prop}
def kK(r:List V->Hp->VK->Prop)(t:TA):TE:=λσ H Q=>t σ H λvs H1=>r vs H1 Q
def bq(c:cS X (.builtin id) r)(d:Gl X x)(f:X.mg x=Vo)(g:bootBuiltins x=Vn (.builtin id))(ha:PA X (e::es) t)(i:x≠"__name__":=by decide)(a:(x == ("__debug__":Vm))=false:=by decide)
  (j:starEach (e::es) X.env=(false,eval e X.env)::starEach es X.env:=by rfl) (b:(backTo pos (starEach es X.env)).any (·.1)=false:=by rfl):PE X (.Call (.Name x p) (e::es) [] pos) (kK r t):=by
 intro pins s σ H Q I h;refine wpAny_Call_Name_kw (fQ I d f g ?_ i a);exact PyProof.Rows.callWith_builtin1 (aM (ha pos pins s σ H _ I h) λus s1 ⟨vs,H1,l,r1,m⟩=>c pins s1 σ H1 vs us Q l r1 m) j b
def jo(c:cS X (.type T) r)(d:Gl X x)(f:X.mg x=Vo)(g:bootBuiltins x=Vn (.type T))(ha:PA X (e::es) t)(i:x≠"__name__":=by decide)(a:(x == ("__debug__":Vm))=false:=by decide)
  (j:starEach (e::es) X.env=(false,eval e X.env)::starEach es X.env:=by rfl) (b:(backTo pos (starEach es X.env)).any (·.1)=false:=by rfl):PE X (.Call (.Name x p) (e::es) [] pos) (kK r t):=by
 intro pins s σ H Q I h;refine wpAny_Call_Name_kw (fQ I d f g ?_ i a);exact Gf (aM (ha pos pins s σ H _ I h) λus s1 ⟨vs,H1,l,r1,m⟩=>c pins s1 σ H1 vs us Q l r1 m) j b
end
end L2
variable {v:L2.V}{sl p a c d l:Vb}{lo hi:Option Int}{n t' B kk ep m L:Nat}{items ys:Array Va}{Q E:Va->Vc->Prop}{xs:List L2.V}{pins:List (Vb×Obj)}{σ:L2.St}{H H':L2.Hp}{s:Vc}{A:Vi}{u pm:Va}{T:String}{h h' base:Vh}{loose N ps own:List Vm}{X:L2.Cx}{qual:Vm}{f:Nat->Bool}{fd:Vl}{sp:L2.Sp}{env:Env}{sc out scope:Scope}{prog P:Vd}{w:Ve}{R:L2.It->L2.Hp->Prop}{elt iter tg body:Vk}{ifs elts:List Vk}{cells cl:List (Vm×Vb)}{js:List Nat}{fp:List Vb}{g:L2.TG}{tc:L2.TT}{tl to td tv:L2.TE}{r:L2.V->List L2.V->L2.Hp->L2.VK->Prop}{neg:Bool}{o od:Obj}{mg:Vm->Option Va}{kvs:List (List Key×L2.V)}{us:List Va}{params:Arguments}
namespace HT
open PySem PyProof.Rows
section
open PySem.SeqAt
open PySem.AutoSeq1 (wpAny_loadPart')
open PySem.MeetsSeq PySem.MeetsSeq2 PySem.MeetsSeq3
end
section
variable {prog:Vd} {w:Ve} {A:Vi} {E:Va->Vc->Prop} {s:Vc}
def aU(n d:Nat):Option Int->Nat
 | none=>d
 | some v=>if v<0 then(v+(n:Int)).toNat else min v.toNat n
def lJ(n d):aU n d Vo=d:=rfl
theorem pA(n d k:Nat):aU n d (Vn (k:Int))=min k n:=by show(if(k:Int)<0 then((k:Int)+(n:Int)).toNat else min (k:Int).toNat n)=min k n;rw[F5 (by lia),Fl]
theorem Cg(n d)(hd:d<=n)(o):aU n d o<=n:=by
 cases o with
 | none=>exact hd
 | some v=>
  show(if v<0 then(v+(n:Int)).toNat else min v.toNat n)<=n;by_cases a:v<0
  .rw[F6 a];lia
  .rw[F5 a];exact Nat.min_le_right _ _
theorem sT(v)(n d:Nat):(if v<0 then max (v+(n:Int)) 0 else min v (n:Int))=((aU n d (Vn v):Nat):Int):=by
 show(if v<0 then max (v+(n:Int)) 0 else min v (n:Int))=(((if v<0 then(v+(n:Int)).toNat else min v.toNat n):Nat):Int);by_cases a:v<0
 .simp only[F6 a];lia
 .simp only[F5 a];lia
def Dc(lo hi)(n:Nat):Jq lo hi 1 (n:Int)=(((aU n 0 lo:Nat):Int),((aU n n hi:Nat):Int)):=by
 refine HF ?_ ?_
 .cases lo with
  | none=>rfl
  | some v=>exact sT v n 0
 .cases hi with
  | none=>rfl
  | some v=>exact sT v n n
theorem Aw(i j:Nat):Hj (i:Int) (j:Int) 1=j-i:=by
 unfold Hj;have h1:1>0:=by lia
 split<;>lia
def sL{v:Va}{o:Option Int}{Q:Option Int->Vc->Prop}(p:IsPart v o)(h:Q o s):Vf (Vg prog w) A (Builtin.Slice.slicePartIndex v) Q E s:=by
 cases p with
 | none=>exact slicePart_none h
 | int i t=>exact slicePart_int h
def rD{b c:Va}{Q:Int×Int×Nat->Vc->Prop}(hs:s.heap.IsSliceOf sl b c .none)(pl:IsPart b lo)(pu:IsPart c hi)
  (h:Q (((aU n 0 lo:Nat):Int),1,aU n n hi-aU n 0 lo) s):Vf (Vg prog w) A (Builtin.Slice.sliceApplied (.ref sl) (pure (n:Int))) Q E s:=by
 obtain⟨os,a,d,hds⟩:=id hs;refine E1 (E1 (wpAny_field a hds rfl (E1 (wpAny_field a hds rfl (E1 (wpAny_field a hds rfl (E2 ?_)))))));refine E1 (slicePart_none ?_);refine E1 (sL pl (E1 (sL pu (E1 (E2 ?_)))));show Vf _ _ (match Jq lo hi 1 (n:Int)with|(lo,hi)=>pure (lo,(1:Int),Hj lo hi 1)) _ _ s;rw[Dc lo hi n];show Vf _ _ (pure (((aU n 0 lo:Nat):Int),(1:Int),Hj ((aU n 0 lo:Nat):Int) ((aU n n hi:Nat):Int) 1)) _ _ s;rw[Aw];exact E2 h
theorem zk(xs:Array Va)(i k:Nat):((F2 k).filterMap λ(m:Nat)=>xs[((i:Int)+(m:Int)*1).toNat]?).toArray=((xs.toList.drop i).take k).toArray:=by
 have e:(λ(m:Nat)=>xs[(i+(m:Int)*1).toNat]?)=λm=>xs[i+m]?:=by
  funext m;have:((i:Int)+(m:Int)*1).toNat=i+m:=by lia
  rw[this]
 rw[e];have:=pick_run xs i k;rw[Jf]at this;have a:((λx=>xs[x]?)∘λx=>i+x)=λm=>xs[i+m]?:=rfl;rw[a]at this;rw[this]
def Ag{f g:Va}(b:IsTup s.heap t items)(hs:s.heap.IsSliceOf sl f g .none)(pl:IsPart f lo)(pu:IsPart g hi)
  (i:¬(aU items.size 0 lo=0/\aU items.size items.size hi=items.size))
  (h:Q (.ref s.heap.objs.size) { s with heap:=s.heap.push { cls:=.type "tuple",data:=.seq ((items.toList.drop (aU items.size 0 lo)).take (aU items.size items.size hi-aU items.size 0 lo)).toArray } })
  (hsz:items.size<=sizeLine):Vf (Vg prog w) A (getItem (.ref t) (.ref sl)) Q E s:=by
 have a:sizeOk (.seq ((items.toList.drop (aU items.size 0 lo)).take (aU items.size items.size hi-aU items.size 0 lo)).toArray):=by show((items.toList.drop (aU items.size 0 lo)).take (aU items.size items.size hi-aU items.size 0 lo)).toArray.size<=sizeLine;rw[Fd,FZ,HP,Fc];omega
 obtain⟨os,c,d,hds⟩:=id hs;have e:s.TypeIs (.ref sl) "slice":=⟨os,c,d⟩;unfold getItem
 try with_reducible refine wpAny_holding ?_
 first|refine E1 (E2 ?_)|skip
 refine E1 (wpAny_sequenceKey b.typeIs (by decide) ?_);refine E1 (F1 b.typeIs Gn
  (wpAny_call_entry Gn b.typeIs entry_tuple_getitem ?_ (args_tuple_getitem _ _)))
 show Vf _ _ (Jg (.ref t) >>= _) _ _ s;refine E1 (tupleItemsOf_ b ?_);refine E1 (wpAny_typeOf e ?_);refine E1 (rD hs pl pu ?_);have hno:¬((((aU items.size 0 lo:Nat):Int) == 0 && (1:Int) == 1 && (aU items.size items.size hi-aU items.size 0 lo) == items.size)=true):=by intro q;rw[FO,FO]at q;have l:((aU items.size 0 lo:Nat):Int)=0:=eq_of_beq q.1.1;have n:aU items.size items.size hi-aU items.size 0 lo=items.size:=eq_of_beq q.2;exact i ⟨by omega,by omega⟩
 show Vf _ _ (if(((aU items.size 0 lo:Nat):Int) == 0 && (1:Int) == 1 && (aU items.size items.size hi-aU items.size 0 lo) == items.size)=true then _ else _) _ _ s;rw[F5 hno,zk]
 first
  | exact E1 (wpAny_newObj_type (E2 ⟨_,rfl,E2 h⟩) a)
  | exact E1 (wpAny_newObj_type (E1 (E2 (E2 ⟨_,rfl,E2 h⟩))) a)
  | exact E1 (E1 (wpAny_newObj_type (E2 (E2 ⟨_,rfl,E2 h⟩)) a))
  | exact E1 (E1 (wpAny_newObj_type (E2 ⟨_,rfl,E2 h⟩) a))
end
end HT
namespace L2
open PySem PySem.Spec PyProof.Rows
abbrev TO:=St->Hp->(Option Int->Hp->Prop)->Prop
def PO(X:Cx)(e:Option Vk)(t:TO):Prop:=
 ∀(pins:List (Vb×Obj)) (s:Vc) (σ:St) (H:Hp) (Q:Option Int->Hp->Prop),Inv X pins σ H s->t σ H Q ->
  Vf (Vg X.prog X.w) X.A (evalPart e X.env) (λu s'=>∃o H',Inv X pins σ H' s'/\IsPart u o/\Q o H') X.xe s
def vC:TO:=λ_ H Q=>Q Vo H
def qz(t:TE):TO:=λσ H Q=>t σ H λx H1=>∃i,x=.int i/\Q (Vn i) H1
def intsAre_of:∀{us},Vals (ns.map V.int) us->IntsAre us ns:=by
 induction ns with
 | nil=>intro us r;cases r;exact .nil
 | cons n ns a=>
  intro us r;cases r with
  | cons r1 b=>
   obtain⟨t,e⟩:=r1;subst e;exact .cons n t (a b)
section
variable {X:Cx} {e:Vk} {te:TE} {lo hi:Option Vk} {tl th:TO} {pos p2:Pos}
def gJ:PO X Vo vC:=by intro pins s σ H Q I h;exact E2 ⟨Vo,H,I,.none,h⟩
def eS(h:PE X e te):PO X (Vn e) (qz te):=by intro pins s σ H Q I a;refine aM (h pins s σ H _ I a) λu s1 ⟨x,H1,b,r1,c⟩=>?_;obtain⟨i,rfl,q⟩:=c;obtain⟨t,rfl⟩:=r1;exact⟨Vn i,H1,b,.int i t,q⟩
def jW(X:Cx)(r:V->Option Int->Option Int->Hp->VK->Prop):Prop:=
 ∀(pins:List (Vb×Obj)) (s:Vc) (σ:St) (H:Hp) (x:V) (v a b:Va) (lo hi:Option Int) (sl:Vb) (Q:VK),Inv X pins σ H s->RelV x v->s.heap.IsSliceOf sl a b .none->IsPart a lo->IsPart b hi->r x lo hi H Q ->
  ∃T id,typeLookup (.type T) "__getitem__" = pure (Vn (.builtin id))/\s.TypeIs v T/\Vf (Vg X.prog X.w) X.A (getItem v (.ref sl)) (EP X pins σ Q) X.xe s
def uX(r:V->Option Int->Option Int->Hp->VK->Prop)(te:TE)(tl th:TO):TE:=λσ H Q=>te σ H λx H1=>tl σ H1 λl H2=>th σ H2 λu a=>r x l u a Q
def fM{r:V->Option Int->Option Int->Hp->VK->Prop}(g:jW X r)(i:PE X e te)(j:PO X lo tl)(m:PO X hi th):PE X (.Subscript e (.Slice lo hi Vo p2) pos) (uX r te tl th):=by intro pins s σ H Q I h;refine Subscript_ (aM (i pins s σ H _ I h) λv s1 ⟨x,H1,n,r1,o⟩=>?_);refine wpAny_Slice (aM (j pins s1 σ H1 _ n o) λc s2 ⟨l,H2,p,pl,y⟩=>aM (m pins s2 σ H2 _ p y) λd a ⟨u,f,z,pu,B⟩=>?_);refine E2 ?_;have C:Inv X pins σ f { a with heap:=a.heap.push { cls:=.type "slice",data:=.fields #[c,d,.none] } }:=z.kept (t':=a.toks) λb J q=>E4 _ q;obtain⟨T,id,E,F,G⟩:=g pins { a with heap:=a.heap.push { cls:=.type "slice",data:=.fields #[c,d,.none] } } σ f x v c d l u a.heap.objs.size Q C r1 (LH ..) pl pu B;exact tail_any F E G (by with_unfolding_all rfl)
def bY(xs:List V)(lo hi:Option Int):List V:=(xs.drop (HT.aU xs.length 0 lo)).take (HT.aU xs.length xs.length hi-HT.aU xs.length 0 lo)
theorem qK(xs)(lo hi):(bY xs lo hi).length<=xs.length:=by unfold bY;rw[FZ,HP];lia
def Eb(K:E3):V->Option Int->Option Int->Hp->VK->Prop:=λx lo hi H Q=>∃a xs,x=.ref a/\ay K H a xs ∧
 ¬(HT.aU xs.length 0 lo=0/\HT.aU xs.length xs.length hi=xs.length)/\∀p,H p=Vo->Q (.ref p) (upd H p (.tup (bY xs lo hi)))
def C6:jW X (Eb X.K):=by
 intro pins s σ H x v j l lo hi sl Q I f hs pl pu h;obtain⟨a,xs,rfl,g,i,q⟩:=h;cases f;obtain⟨c,r,d,e⟩:=I.tuple g;have hlen:c.toArray.size=xs.length:=by rw[Fd];exact r.length.symm
 refine⟨"tuple",_,Gn.lookup,d.typeIs,?_⟩;refine HT.Ag d hs pl pu (by rw[hlen];exact i) ?_ (by rw[hlen];exact e);rw[hlen];refine⟨.ref s.heap.objs.size,_,I.laid (λb m q=>E4 _ q) (Fu _) ?_,rfl,q _ (I.hok.fresh (Fu _))⟩;exact⟨FI (qK xs lo hi) e,_,(r.drop (HT.aU xs.length 0 lo)).take (HT.aU xs.length xs.length hi-HT.aU xs.length 0 lo),IsTup.new _ _⟩
end
def eX(n:Nat)(i:Int):Option Nat:=if 0<=i then(if i<n then Vn i.toNat else Vo)else if -(n:Int)<=i then Vn (i+n).toNat else Vo
def b9{α:Type}(xs:List α)(i:Int):Option α:=(eX xs.length i).bind λj=>xs[j]?
theorem wQ(h:eX n i=Vn j):seqIndex? i n=Vn j/\j<n/\-(n:Int)<=i/\i<n:=by
 unfold eX at h;by_cases a:0<=i
 .rw[F6 a]at h;by_cases h1:i<n
  .rw[F6 h1]at h;have e:i.toNat=j:=FQ h;exact⟨by rw[seqIndex_of a h1,e],by lia,by lia,h1⟩
  .rw[F5 h1]at h;cases h
 .rw[F5 a]at h;by_cases h1:-n<=i
  .rw[F6 h1]at h;have e:(i+n).toNat=j:=FQ h;exact⟨by rw[seqIndex_neg (by lia) h1,e],by lia,h1,by lia⟩
  .rw[F5 h1]at h;cases h
def n4{xs:List α}{v:α}(h:b9 xs i=Vn v):∃j,seqIndex? i xs.length=Vn j/\xs[j]?=Vn v/\j<xs.length/\-(xs.length:Int)<=i/\i<xs.length:=by
 unfold b9 at h;cases e:eX xs.length i with
 | none=>rw[e]at h;cases h
 | some j=>
  rw[e]at h;obtain⟨h1,h2,a,b⟩:=wQ e;exact⟨j,h1,h,h2,a,b⟩
theorem cN{xs:List α}{j:Nat}{v:α}(h:xs[j]?=Vn v):b9 xs (j:Int)=Vn v:=by
 have a:j<xs.length:=(Fg.mp h).1;have e:eX xs.length (j:Int)=Vn j:=by unfold eX;rw[F6 (by lia),F6 (by lia)];simp
 unfold b9;rw[e];exact h
theorem fC(xs)(v:α):b9 (xs++[v]) (-1)=Vn v:=by
 have a:(xs++[v]).length=xs.length+1:=by simp
 have e:eX (xs++[v]).length (-1)=Vn xs.length:=by unfold eX;rw[a,F5 (by decide),F6 (by lia)];congr 1;lia
 unfold b9;rw[e];simp
def AJ(b:Vk):Prop:=∀o i,subscripted b false o i=operate [o,i] (getItem o i)
def jf(X:Cx)(r:R2):Prop:=
 ∀(value slice:Vk) (pins:List (Vb×Obj)) (s:Vc) (σ:St) (H:Hp) (x y:V) (v u:Va) (Q:VK),Inv X pins σ H s->RelV x v->RelV y u->r x y H Q ->
  subscripted slice false v u=operate [v,u] (getItem v u)->Vf (Vg X.prog X.w) X.A (subscriptTail value slice v u) (EP X pins σ Q) X.xe s
def ky(X:Cx)(id:String)(r:V->List V->Hp->VK->Prop):Prop:=
 ∀(pins:List (Vb×Obj)) (s:Vc) (σ:St) (H:Hp) (x:V) (xs:List V) (v:Va) (us:List Va) (Q:VK),Inv X pins σ H s->RelV x v->Vals xs us->r x xs H Q ->
  Vf (Vg X.prog X.w) X.A (call (.builtin id) (v::us)) (EP X pins σ Q) X.xe s
section
variable {X:Cx} {a b:Vk} {ta tb:TE} {pos:Pos}
def ax{r}(c:jf X r)(ha:PE X a ta)(hb:PE X b tb)(hs:AJ b):PE X (.Subscript a b pos) (jk r ta tb):=by intro pins s σ H Q I h;exact Subscript_ (pq ha hb I h λv u s2 x y H2 d e f q=>c a b pins s2 σ H2 x y v u Q d e f q (hs _ _))
def mG(K:E3):R2:=λx y H Q=>∃p xs i v,x=.ref p/\y=.int i/\ag K H p xs/\b9 xs i=Vn v/\Q v H
def ny(K:E3):R2:=λx y H Q=>∃p xs i v,x=.ref p/\y=.int i/\ay K H p xs/\b9 xs i=Vn v/\Q v H
def A9:R2:=λx y H Q=>∃z i c,x=.str z/\y=.int i/\z.length<=sizeLine/\b9 z.cps.toList i=Vn c/\Q (.str ⟨#[c]⟩) H
theorem Dx:jf X (mG X.K):=by
 intro value slice pins s σ H x y v u Q I f g h hs;obtain⟨p,xs,i,z,rfl,rfl,l,m,q⟩:=h;cases f;obtain⟨t,rfl⟩:=g;obtain⟨a,r,pl,B⟩:=I.list l;obtain⟨j,h1,h2,C,n,o⟩:=n4 m;obtain⟨w,d,b⟩:=r.get h2;have A:=r.length;have E:=iB;have fin:EP X pins σ Q w s:=⟨z,H,I,b,q⟩;by_cases e:0<=i
 .have c:i.toNat=j:=by rw[seqIndex_of e o]at h1;exact FQ h1
  exact item_listR pl.isList e (by lia) (by rw[c];simpa using d) fin hs
 .have c:(i+(a.toArray.size:Int)).toNat=j:=by rw[seqIndex_neg (by lia) n]at h1;rw[Fd,<-A];exact FQ h1
  exact subscriptTail_builtinR pl.isList.typeIs slot_list_getitem.lookup
   (wpAny_getItem_list_neg pl.isList (by lia) (by rw[Fd]<;>lia) (by lia) (by rw[c];simpa using d) ⟨rfl,fin⟩) hs
theorem yD:jf X (ny X.K):=by
 intro value slice pins s σ H x y v u Q I b c h hs;obtain⟨p,xs,i,z,rfl,rfl,d,e,q⟩:=h;cases b;obtain⟨t,rfl⟩:=c;obtain⟨f,r,pl,m⟩:=I.tuple d;obtain⟨j,h1,h2,n,o,A⟩:=n4 e;obtain⟨w,g,a⟩:=r.get h2;have l:=r.length;have B:=iB;have fin:EP X pins σ Q w s:=⟨z,H,I,a,q⟩;exact subscriptTail_builtinR pl.typeIs slot_tuple_getitem.lookup
  (getItem_tuple pl (by lia) (by lia) (by rw[Fd,<-l];exact h1) (by simpa using g) ⟨rfl,fin⟩) hs
theorem vd:jf X A9:=by
 intro value slice pins s σ H x y v u Q I a b h hs;obtain⟨z,i,c,rfl,rfl,n,d,q⟩:=h;obtain⟨t,rfl⟩:=a;obtain⟨o,rfl⟩:=b;obtain⟨j,h1,h2,p,e,f⟩:=n4 d;have g:z.cps.toList.length=z.length:=by simp[Str.length]
 rw[g]at h1 e f;have r:=iB;exact tail_any (typeIs_str s z t) slot_str_getitem.lookup (getItem_str (by have l:decide (i < -(2 ^ 63:Int))=false:=F3 (by lia);have m:decide (i ≥ 2 ^ 63)=false:=F3 (by lia);rw[l,m,Bool.or_false]) (by rw[h1];simpa using h2) ⟨.str ⟨#[c]⟩,H,I.tok _,⟨_,rfl⟩,q⟩) hs
def BV(a:List Va)(n j)(u):Hx (·.setIfInBounds j u) { cls:=.type "list",data:=.seq a.toArray n }={ cls:=.type "list",data:=.seq (a.set j u).toArray n }:=by simp[Hx]
theorem Inv.lst{pins:List (Vb×Obj)}{σ:St}{H:Hp}{s:Vc}{p:Vb}{xs:List V}(I:Inv X pins σ H s)(h:H p=Vn (.lst xs)):
  ∃(a:List Va) (n:Nat),Vals xs a/\s.heap.get? p=Vn { cls:=.type "list",data:=.seq a.toArray n }/\xs.length<=sizeLine:=by
 obtain⟨z,a,n,r,e⟩:=I.hok p _ h;exact⟨a,n,r,e,z⟩
def Inv.lstUpd{ys:List V}{a its':List Va}{n c:Nat}{f:Obj->Obj}(I:Inv X pins σ H s)(h:H p=Vn (.lst xs))
  (ho:s.heap.get? p=Vn { cls:=.type "list",data:=.seq a.toArray n }) (d:f { cls:=.type "list",data:=.seq a.toArray n }={ cls:=.type "list",data:=.seq its'.toArray c }) (r:Vals ys its') (g:ys.length<=sizeLine) (t) :
  Inv X pins σ (upd H p (.lst ys)) { s with heap:=s.heap.update p f,toks:=t }:=by
 have e:(s.heap.update p f).get? p=Vn { cls:=.type "list",data:=.seq its'.toArray c }:=by rw[G0 f ho (by rw[d]<;>rfl),d]
 refine I.write (by rw[h];trivial) (.inl rfl) (λb u hb q=>(Gk _ _ (Gi hb)).trans q) ⟨_,e⟩ ?_;exact⟨g,its',c,r,e⟩
def qv:V->V->V->Hp->(Hp->Prop)->Prop:=λo i v H Q=>∃p xs k j,o=.ref p/\i=.int k/\H p=Vn (.lst xs)/\eX xs.length k=Vn j/\Q (upd H p (.lst (xs.set j v)))
theorem set_list:xy X qv:=by
 intro pins s σ H o i v A B u Q I m w x h;obtain⟨p,xs,k,j,rfl,rfl,d,y,q⟩:=h;cases m;obtain⟨t,rfl⟩:=w;obtain⟨a,n,r,ho,z⟩:=I.lst d;obtain⟨h1,h2,e,f⟩:=wQ y;have b:=r.length;have C:=iB;have g:Inv X pins σ (upd H p (.lst (xs.set j v))) { s with heap:=s.heap.update p (Hx (·.setIfInBounds j u)) }:=
  I.lstUpd d ho (BV a n j u) (r.set x j) (by rw[KU];exact z) s.toks
 by_cases l:0<=k
 .have c:k.toNat=j:=by rw[seqIndex_of l f]at h1;exact FQ h1
  exact PySem.W.ki_setAt ho l (by lia) (by rw[Fd,<-b];exact f) (by rw[c];exact⟨_,g,q⟩)
 .have c:(k+(a.toArray.size:Int)).toNat=j:=by rw[seqIndex_neg (by lia) e]at h1;rw[Fd,<-b];exact FQ h1
  exact PySem.W.ki_setBack ho (by lia) (by rw[Fd,<-b];exact e) (by lia) (by rw[c];exact⟨_,g,q⟩)
theorem AW(lo hi)(n):(sliceBounds lo hi Vo n).1=((HT.aU n 0 lo:Nat):Int)/\(sliceBounds lo hi Vo n).2.1=((HT.aU n n hi:Nat):Int)/\(sliceBounds lo hi Vo n).2.2=1:=by
 refine⟨?_,?_,rfl⟩
 .cases lo with
  | none=>simp[sliceBounds,HT.aU]
  | some i=>
   simp only[sliceBounds,HT.aU,Lf,show (1:Int)>0 by decide,if_true];by_cases h:i<0
   .simp only[h,if_true]<;>lia
   .simp only[h,if_false]<;>lia
 .cases hi with
  | none=>simp[sliceBounds,HT.aU]
  | some i=>
   simp only[sliceBounds,HT.aU,Lf,show (1:Int)>0 by decide,if_true];by_cases h:i<0
   .simp only[h,if_true]<;>lia
   .simp only[h,if_false]<;>lia
def Em(a:List Va)(lo hi):slicePick a.toArray lo hi Vo=((a.drop (HT.aU a.length 0 lo)).take (HT.aU a.length a.length hi-HT.aU a.length 0 lo)).toArray:=by obtain⟨h1,h2,b⟩:=AW lo hi a.toArray.size;unfold slicePick;rw[h1,h2,b];simp only[sliceRange_one,pick_run,Fd]<;>rfl
def mU(K:E3):V->Option Int->Option Int->Hp->VK->Prop:=λx lo hi H Q=>∃a xs,x=.ref a/\ag K H a xs/\∀p,H p=Vo->Q (.ref p) (upd H p (.lst (bY xs lo hi)))
theorem DQ:jW X (mU X.K):=by intro pins s σ H x v i j lo hi sl Q I d hs pl pu h;obtain⟨a,xs,rfl,e,q⟩:=h;cases d;obtain⟨f,r,c,g⟩:=I.list e;have hlen:=r.length;refine⟨"list",_,slot_list_getitem.lookup,c.isList.typeIs,?_⟩;refine wpAny_getItem_list_slice c.isList hs pl pu .none (by simp) ?_ (by rw[Fd]<;>lia);rw[Em,<-hlen];refine⟨.ref s.heap.objs.size,_,I.laid (λb l q=>E4 _ q) (Fu _) ?_,rfl,q _ (I.hok.fresh (Fu _))⟩;exact⟨FI (qK xs lo hi) g,_,0,(r.drop (HT.aU xs.length 0 lo)).take (HT.aU xs.length xs.length hi-HT.aU xs.length 0 lo),E5 _ rfl⟩
def fI:V->Bool
 | .non=>true
 | .bl _=>true
 | .int _=>true
 | .str _=>true
 | _=>false
def iq:V->V->Bool
 | .non,.non=>true
 | .bl a,.bl b=>a == b
 | .bl a,.int b=>(if a then 1 else 0) == b
 | .int a,.bl b=>a == (if b then 1 else 0)
 | .int a,.int b=>a == b
 | .str a,.str b=>a == b
 | _,_=>false
def Ck{v:Va}(e:RelV y u)(c:RelV x v)(g:fI y=true)(f:fI x=true):SeqAt.EqAt A s u v (iq y x):=by
 cases y with
 | non=>
  cases e;cases x with
  | non=>cases c;exact SeqAt.EqAt.same _
  | bl b=>cases c;exact SeqAt.EqAt.none_bool b
  | int b=>obtain⟨t,rfl⟩:=c;exact SeqAt.EqAt.none_int b t
  | str b=>obtain⟨t,rfl⟩:=c;exact SeqAt.EqAt.none_str b t
  | _=>exact absurd (f) Fp
 | bl a=>
  cases e;cases x with
  | non=>cases c;exact SeqAt.EqAt.bool_none a
  | bl b=>cases c;exact SeqAt.EqAt.bool_bool a b
  | int b=>obtain⟨t,rfl⟩:=c;exact SeqAt.EqAt.bool_int a b t
  | str b=>obtain⟨t,rfl⟩:=c;exact SeqAt.EqAt.bool_str a b t
  | _=>exact absurd (f) Fp
 | int a=>
  obtain⟨d,rfl⟩:=e;cases x with
  | non=>cases c;exact SeqAt.EqAt.int_none a d
  | bl b=>cases c;exact SeqAt.EqAt.int_bool a d b
  | int b=>obtain⟨t,rfl⟩:=c;exact SeqAt.EqAt.int_int a d b t
  | str b=>obtain⟨t,rfl⟩:=c;exact LA a d b t
  | _=>exact absurd (show false=true from f) Fp
 | str a=>
  obtain⟨d,rfl⟩:=e;cases x with
  | non=>cases c;exact SeqAt.EqAt.str_none a d
  | bl b=>cases c;exact SeqAt.EqAt.str_bool a d b
  | int b=>obtain⟨t,rfl⟩:=c;exact LD a d b t
  | str b=>obtain⟨t,rfl⟩:=c;exact SeqAt.EqAt.str_str a d b t
  | _=>exact absurd (show false=true from f) Fp
 | _=>exact absurd (show false=true from g) Fp
def gW(x:V)(u:Va):Bool:=match u with
 | .none=>iq .non x
 | .bool b=>iq (.bl b) x
 | .int i _=>iq (.int i) x
 | .str z _=>iq (.str z) x
 | _=>false
def vk(r:RelV y u)(f:fI y=true):gW x u=iq y x:=by
 cases y with
 | non=>cases r;rfl
 | bl b=>cases r;rfl
 | int i=>obtain⟨t,rfl⟩:=r;rfl
 | str z=>obtain⟨t,rfl⟩:=r;rfl
 | _=>exact absurd (f) Fp
theorem mR{x:V}:∀{xs:List V} {us:List Va},Vals xs us->xs.all fI=true->us.any (gW x)=xs.any λy=>iq y x
 | _,_,.nil,_=>rfl
 | y::xs,u::us,.cons r t,f=>by rw[List.all_cons,FO]at f;rw[Ib,Ib,vk r f.1,mR t f.2]
theorem oU{A:Vi}{s:Vc}{x:V}{v:Va}(b:RelV x v)(c:fI x=true):∀{xs:List V} {us:List Va},Vals xs us->xs.all fI=true->∀u∈us,SeqAt.EqAt A s u v (gW x u)
 | _,_,.nil,_=>λu a=>by cases a
 | y::xs,u::us,.cons r t,f=>λu' a=>by
  rw[List.all_cons,FO]at f;rcases Fo.mp a with rfl|a
  .rw[vk r f.1];exact Ck r b f.1 c
  .exact oU b c t f.2 u' a
def hJ(x:V)(xs:List V):Bool:=xs.any λy=>iq y x
def pz(K:E3)(neg:Bool):R2:=λx y H Q=>∃p xs,y=.ref p/\(ag K H p xs\/ay K H p xs)/\fI x=true/\xs.all fI=true/\Q (.bl (if neg then !hJ x xs else hJ x xs)) H
def yH:cb X (compareOp .In) (pz X.K false):=by
 intro pins s σ H x y v u Q I d f h;obtain⟨p,xs,rfl,b,e,fs,q⟩:=h;cases f;rcases b with b|b
 .obtain⟨a,r,pl,g⟩:=I.list b;refine SeqAt.in_listAt (gW x) pl.isList (λw c=>oU d e r fs w (by simpa using c)) ⟨.bl _,H,I,rfl,?_⟩;rw[show a.toArray.any (gW x)=a.any (gW x) by simp,mR r fs];exact q
 .obtain⟨a,r,pl,g⟩:=I.tuple b;refine SeqAt.in_tupleAt (gW x) pl (λw c=>oU d e r fs w (by simpa using c)) ⟨.bl _,H,I,rfl,?_⟩;rw[show a.toArray.any (gW x)=a.any (gW x) by simp,mR r fs];exact q
theorem zr:cS X (.builtin "len") (λxs H Q=>∃p ys,xs=[.ref p]/\(ag X.K H p ys\/ay X.K H p ys)/\Q (.int ys.length) H):=by
 intro pins s σ H xs us Q I r h;obtain⟨p,ys,rfl,a,q⟩:=h;obtain⟨u,rfl,d⟩:=vals1 r;cases d;have f:=iB;rcases a with a|a
 .obtain⟨b,c,pl,e⟩:=I.list a;have hlen:=c.length;exact Calls.call_len_list pl.isList (by simp only[Fd]<;>lia) ⟨.int ys.length,H,I.tok _,⟨s.toks+1,by rw[Fd,hlen]⟩,q⟩
 .obtain⟨b,c,pl,e⟩:=I.tuple a;have hlen:=c.length;exact len_tuple pl (by simp only[Fd]<;>lia) ⟨.int ys.length,H,I.tok _,⟨s.toks+1,by rw[Fd,hlen]⟩,q⟩
theorem CI:cS X (.builtin "len") (λxs H Q=>∃z,xs=[.str z]/\z.length<=sizeLine/\Q (.int z.length) H):=by intro pins s σ H xs us Q I r h;obtain⟨z,rfl,a,q⟩:=h;obtain⟨u,rfl,t,rfl⟩:=vals1 r;have b:=iB;exact len_str (by lia) ⟨.int z.length,H,I.tok _,⟨_,rfl⟩,q⟩
theorem Dz:cS X (.type "tuple") (λxs H Q=>∃p ys,xs=[.ref p]/\((ag X.K H p ys/\∀l,H l=Vo->Q (.ref l) (upd H l (.tup ys)))\/(ay X.K H p ys/\Q (.ref p) H))):=by
 intro pins s σ H xs us Q I r h;obtain⟨p,ys,rfl,h⟩:=h;obtain⟨u,rfl,i⟩:=vals1 r;cases i;rcases h with⟨c,q⟩|⟨c,q⟩
 .obtain⟨a,d,pl,f⟩:=I.list c;have hlen:=d.length;refine call_tuple_list pl.isList (λh' kp=>?_) (by simp only[Fd]<;>lia);have g:=I.kept (t':=s.toks) kp;have j:Inv X pins σ (upd H h'.objs.size (.tup ys)) { s with heap:=h'.push { cls:=.type "tuple",data:=.seq a.toArray } }:=
   g.laid (λb o e=>E4 _ e) (Fu _) (show bN X.prog X.w _ _ _ (.tup ys)from⟨f,a,d,IsTup.new _ _⟩)
  exact⟨.ref h'.objs.size,_,j,rfl,q _ (g.hok.fresh (Fu _))⟩
 .obtain⟨a,d,pl,f⟩:=I.tuple c;exact call_tuple_same pl ⟨.ref p,H,I,rfl,q⟩
def ij(K:E3)(T:String)(x:V)(H:Hp):Prop:=match x with
 | .str _=>T = "str"
 | .int _=>T = "int"
 | .ref p=>(T = "list"/\∃xs,ag K H p xs)\/(T = "tuple"/\∃o,K.lookup p=Vn o/\o.cls=.type "tuple"/\o.dict=Vo) ∨
   (T = "dict"/\((∃kvs,H p=Vn (.dK kvs))\/∃kvs,H p=Vn (.dT kvs)))\/(T = "set"/\∃S n,H p=Vn (.set S n))
 | _=>False
def xf{v:Va}(I:Inv X pins σ H s)(r:RelV x v)(ty:ij X.K T x H):
  s.TypeIs v T/\∀a,v=.ref a->∃f,s.heap.get? a=Vn f/\f.dict=Vo:=by
 cases x with
 | str z=>
  obtain⟨t,rfl⟩:=r;cases(ty);exact⟨typeIs_str s z t,λ_ e=>nomatch e⟩
 | int i=>
  obtain⟨t,rfl⟩:=r;cases(ty);exact⟨typeIs_int s i t,λ_ e=>nomatch e⟩
 | ref p=>
  cases r;rcases ty with⟨rfl,xs,g⟩|⟨rfl,o,b,h,hd⟩|⟨rfl,b⟩|⟨rfl,S,n,b⟩
  .obtain⟨j,_,pl,_⟩:=I.list g;refine⟨pl.isList.typeIs,λa e=>?_⟩;cases e;obtain⟨o,n,e,c,hd,_⟩:=pl;exact⟨o,e,hd⟩
  .refine⟨⟨o,I.kIn p o b,h⟩,λa e=>?_⟩;cases e;exact⟨o,I.kIn _ o b,hd⟩
  .have z:∃o,s.heap.get? p=Vn o/\o.ExactDict:=by
    rcases b with⟨kvs,b⟩|⟨kvs,b⟩
    .obtain⟨_,_,_,_,o,_,_,e,ex,_⟩:=I.hok p _ b;exact⟨o,e,ex⟩
    .obtain⟨_,_,_,_,o,_,_,e,ex,_⟩:=I.hok p _ b;exact⟨o,e,ex⟩
   obtain⟨o,e,ex⟩:=z;refine⟨⟨o,e,ex.1⟩,λa d=>?_⟩;cases d;exact⟨o,e,ex.2.1⟩
  .obtain⟨o,_,_,_,e,ex,_⟩:=I.hok p _ b;refine⟨⟨o,e,ex.1⟩,λa d=>?_⟩;cases d;exact⟨o,e,ex.2.1⟩
 | _=>exact GZ ty
def oX(K:E3)(T:String)(r:V->List V->Hp->VK->Prop)(to:TE):TE:=λσ H Q=>to σ H λx H1=>ij K T x H1/\r x [] H1 Q
def o7(K:E3)(T:String)(r:V->List V->Hp->VK->Prop)(to:TE)(t:TA):TE:=λσ H Q=>to σ H λx H1=>ij K T x H1/\t σ H1 λxs H2=>r x xs H2 Q
variable {o e:Vk} {es:List Vk} {to:TE} {t:TA} {name:Vm} {apos cpos:Pos} {T id:String} {r:V->List V->Hp->VK->Prop}
def D6(e:PlainAttrs T)(slot:Slot T name id)(c:typeOf (.builtin id)=pure (.type "method_descriptor"))(f:ky X id r)(ho:PE X o to)
  (a:attributeBase o name X.env (eval o X.env)=eval o X.env:=by rfl) (b:(apos.endLine == cpos.line)=true:=by rfl):PE X (.Call (.Attribute o name apos) [] [] cpos) (oX X.K T r to):=by
 intro pins s σ H Q I h;refine wpAny_Call_method0_late a b (aM (ho pins s σ H _ I h) λv s1 ⟨x,H1,d,r1,ty,g⟩=>?_);obtain⟨h1,h2⟩:=xf d r1 ty;exact⟨T,id,e,slot,c,h1,h2,KG rfl (PySem.evalArgs_none (f pins s1 σ H1 x [] v [] Q d r1 .nil g))⟩
def D0(i:PlainAttrs T)(slot:Slot T name id)(f:typeOf (.builtin id)=pure (.type "method_descriptor"))(j:ky X id r)(ho:PE X o to)(ha:PA X (e::es) t)
  (b:attributeBase o name X.env (eval o X.env)=eval o X.env:=by rfl)
  (d:((backTo cpos (starEach (e::es) X.env)).all (λx=>!x.1) && (backToKw cpos (keywordEach [] X.env)).all (λx=>x.1.isSome)
   && decide ((e::es).length+([]:List Keyword).length+(if([]:List Keyword).isEmpty then 0 else 1)<30))=true:=by rfl)
  (c:(apos.endLine == cpos.line)=true:=by rfl) (hs:starEach (e::es) X.env=(false,eval e X.env)::starEach es X.env:=by rfl) (a:(backTo cpos (starEach es X.env)).any (·.1)=false:=by rfl) :
  PE X (.Call (.Attribute o name apos) (e::es) [] cpos) (o7 X.K T r to t):=by
 intro pins s σ H Q I h;refine wpAny_Call_method_late b d c rfl (aM (ho pins s σ H _ I h) λv s1 ⟨x,H1,g,r1,ty,l⟩=>?_);obtain⟨h1,h2⟩:=xf g r1 ty;refine⟨T,id,i,slot,f,h1,h2,?_⟩;have hA:=ha cpos pins s1 σ H1 _ g l;rw[hs]at hA ⊢;refine KG (by show(false || (backTo cpos (starEach es X.env)).any (·.1))=false;rw[a]<;>rfl) (Calls.evalArgs_plain ?_);exact aM hA λus s2 ⟨vs,H2,m,n,p⟩=>j pins s2 σ H2 x vs v us Q m r1 n p
end
def kS(X:Cx)(id:String)(r:V->List V->Hp->VK->Prop):Prop:=
 ∀(pins:List (Vb×Obj)) (s:Vc) (σ:St) (H:Hp) (x:V) (xs:List V) (v:Va) (us:List Va) (Q:VK),Inv X pins σ H s->RelV x v->Vals xs us->r x xs H Q ->
  Vf (Vg X.prog X.w) X.A (call (.builtin id) (v::us)) (EP X pins σ Q) X.xe s
def Vals.one:∀{x} {us},Vals [x] us->∃u,us=[u]/\RelV x u:=vals1
def Vals.zero:∀{us},Vals [] us->us=[]
 | _,.nil=>rfl
theorem Vals.dropLast{xs:List V}{us:List Va}(h:Vals xs us):Vals xs.dropLast us.dropLast:=by
 induction h with
 | nil=>exact .nil
 | cons r t a=>
  cases t with
  | nil=>exact .nil
  | cons q b=>exact .cons r a
theorem Vals.reverse{xs:List V}{us:List Va}(h:Vals xs us):Vals xs.reverse us.reverse:=by
 induction h with
 | nil=>exact .nil
 | cons r t a=>rw[Ip,Ip];exact Vals.append a (.cons r .nil)
theorem Vals.rep{xs:List V}{us:List Va}(h:Vals xs us):∀k:Nat,Vals (FU k xs).flatten (FU k us).flatten
 | 0=>.nil
 | k+1=>by exact Vals.append h (Vals.rep h k)
theorem EH{α:Type}(l:List α):l.eraseIdx (l.length-1)=l.dropLast:=by
 induction l with
 | nil=>rfl
 | cons a r c=>
  cases r with
  | nil=>rfl
  | cons b r=>
   have e:(a::b::r).length-1=((b::r).length-1)+1:=by have h1:(a::b::r).length=r.length+2:=rfl;have h2:(b::r).length=r.length+1:=rfl;lia
   rw[e,List.eraseIdx_cons_succ,c]
   all_goals rfl
theorem foldl_rep(a:List Va):∀(k:Nat) (acc:List Va),
  Lj (λb c=>b++c) acc.toArray (FU k a.toArray)=(acc++(FU k a).flatten).toArray
 | 0,acc=>by simp
 | k+1,acc=>by
  have e:acc.toArray++a.toArray=(acc++a).toArray:=by simp
  have d:(acc++a)++(FU k a).flatten=acc++(FU (k+1) a).flatten:=by rw[JX,List.flatten_cons,Gm]
  rw[<-d,<-foldl_rep a k (acc++a),<-e,JX,KW]
section
variable {X:Cx} {pins:List (Vb×Obj)} {σ:St} {H:Hp} {s:Vc} {l b:Vb} {xs ys zs:List V}
def Inv.lset{a its':List Va}{f:Array Va->Array Va}(I:Inv X pins σ H s)(b:H l=Vn (.lst xs))
  (e:s.heap.get? l=Vn { cls:=.type "list",data:=.seq a.toArray n }) (c:f a.toArray=its'.toArray) (d:Vals ys its') (g:ys.length<=sizeLine) :
  Inv X pins σ (upd H l (.lst ys)) { s with heap:=s.heap.update l (Hx f),toks:=t' }:=by
 have q:=Lg e f;rw[c]at q;refine I.write (by rw[b];exact trivial) (.inl rfl) (λi u hb h=>(Gk s.heap (Hx f) (Gi hb)).trans h) ⟨_,q⟩ ?_;exact⟨g,its',_,d,q⟩
def Inv.lnew{a:List Va}(I:Inv X pins σ H s)(b:Vals ys a)(c:ys.length<=sizeLine):
  Inv X pins σ (upd H s.heap.objs.size (.lst ys)) { s with heap:=s.heap.push { cls:=.type "list",data:=.seq a.toArray },toks:=t' }:=
 I.laid (λ_ _ q=>E4 _ q) (Fu _) ⟨c,a,0,b,E5 _ rfl⟩
theorem Inv.fresh(I:Inv X pins σ H s):H s.heap.objs.size=Vo:=I.hok.fresh (Fu _)
def Inv.lstM(I:Inv X pins σ H s)(b:H l=Vn (.lst xs)):xs.length<=sizeLine/\∃a n,Vals xs a/\xs.length=a.length/\s.heap.get? l=Vn { cls:=.type "list",data:=.seq a.toArray n }:=by obtain⟨z,a,n,r,e⟩:=I.hok l _ b;exact⟨z,a,n,r,r.length,e⟩
theorem rT(h:n<=sizeLine):Ic n=false:=by exact F3 (by lia)
end
section
variable {X:Cx}
def sR:V->List V->Hp->VK->Prop:=λx vs H Q=>∃l xs y,x=.ref l/\vs=[y]/\H l=Vn (.lst xs)/\xs.length<sizeLine/\Q .non (upd H l (.lst (xs++[y])))
theorem bV:kS X "list.append" sR:=by intro pins s σ H x vs v us Q I c d h;obtain⟨l,xs,y,rfl,rfl,b,g,q⟩:=h;cases c;obtain⟨u,rfl,f⟩:=d.one;obtain⟨z,a,n,r,i,e⟩:=I.lstM b;refine call_meets F.slot_list_append ⟨_,e,rfl⟩ F.entry_list_append (F.args_list_append_2 _ _) (LW l a.toArray n u (by rw[Fd];lia)) ⟨e,?_⟩;refine⟨.non,_,I.lset b e (by simp) (r.append (.cons f .nil)) ?_,rfl,q⟩;rw[Fs,GG];lia
def y8:V->List V->Hp->VK->Prop:=λx vs H Q=>∃l b xs zs,x=.ref l/\vs=[.ref b]/\H l=Vn (.lst xs)/\H b=Vn (.lst zs)/\xs.length+zs.length<=sizeLine/\Q .non (upd H l (.lst (xs++zs)))
theorem uz:kS X "list.extend" y8:=by
 intro pins s σ H x vs v us Q I i j h;obtain⟨l,b,xs,zs,rfl,rfl,g,m,B,q⟩:=h;cases i;obtain⟨u,rfl,o⟩:=j.one;cases o;obtain⟨z,c,n,r,C,e⟩:=I.lstM g;obtain⟨E,a,p,w,y,A⟩:=I.lstM m;have f:c.toArray.size+a.toArray.size<=sizeLine:=by rw[Fd,Fd];lia
 have d:¬(!c.toArray.isEmpty && Ic (c.toArray.size+a.toArray.size))=true:=by rw[rT f,Jh];exact Fp
 refine call_meets F.slot_list_extend ⟨_,e,rfl⟩ F.entry_list_extend (F.args_list_extend_2 _ _)
  (AutoSeq1.list_extend_list_list_0 l c.toArray n b a.toArray p d (by rw[Fd];lia) (by lia)) ⟨e,A,?_⟩
 refine⟨.non,_,I.lset g e (by simp) (r.append w) ?_,rfl,q⟩;rw[Fs];lia
def zI:V->List V->Hp->VK->Prop:=λx vs H Q=>∃l xs y,x=.ref l/\vs=[]/\H l=Vn (.lst xs)/\xs[xs.length-1]?=Vn y/\Q y (upd H l (.lst xs.dropLast))
theorem nI:kS X "list.pop" zI:=by
 intro pins s σ H x vs v us Q I f g h;obtain⟨l,xs,y,rfl,rfl,d,i,q⟩:=h;cases f;have b:=g.zero;subst b;obtain⟨z,a,n,r,j,e⟩:=I.lstM d;obtain⟨u,m,o⟩:=r.get i;have c:a.toArray[a.toArray.size-1]?=some u:=by show a.toArray[a.length-1]?=some u;rw[<-G5,<-j];exact m
 refine call_meets F.slot_list_pop ⟨_,e,rfl⟩ F.entry_list_pop (F.args_list_pop_1 _) (MeetsSeq.list_pop_last l a.toArray n u c (by rw[Fd];lia)) ⟨e,?_⟩;refine⟨y,_,I.lset d e ?_ r.dropLast ?_,o,q⟩
 .rw[Fd,List.eraseIdxIfInBounds_toArray,EH]
 .rw[List.length_dropLast];lia
def Bn:V->List V->Hp->VK->Prop:=λx vs H Q=>∃l xs,x=.ref l/\vs=[]/\H l=Vn (.lst xs)/\Q .non (upd H l (.lst xs.reverse))
theorem Cn:kS X "list.reverse" Bn:=by intro pins s σ H x vs v us Q I d f h;obtain⟨l,xs,rfl,rfl,c,q⟩:=h;cases d;have b:=f.zero;subst b;obtain⟨z,a,n,r,g,e⟩:=I.lstM c;refine call_meets F.slot_list_reverse ⟨_,e,rfl⟩ F.entry_list_reverse (F.args_list_reverse_1 _) (AutoSeq1.list_reverse_list_0 l a.toArray n (by rw[Fd];lia)) ⟨e,?_⟩;refine⟨.non,_,I.lset c e (by simp) r.reverse ?_,rfl,q⟩;rw[Gh];lia
def qN:R2:=λx y H Q=>∃l b xs zs,x=.ref l/\y=.ref b/\H l=Vn (.lst xs)/\H b=Vn (.lst zs)/\xs.length+zs.length<=sizeLine/\∀p,H p=Vo->Q (.ref p) (upd H p (.lst (xs++zs)))
theorem lE:cb X (binaryOp .Add) qN:=by
 intro pins s σ H x y v u Q I d f h;obtain⟨l,b,xs,zs,rfl,rfl,g,i,w,q⟩:=h;cases d;cases f;obtain⟨z,c,n,r,A,e⟩:=I.lstM g;obtain⟨B,a,C,j,m,o⟩:=I.lstM i;refine PySem.P.add_list e o ?_ (by rw[Fd,Fd];lia);have p:c.toArray++a.toArray=(c++a).toArray:=by simp
 rw[p];exact⟨.ref _,_,I.lnew (r.append j) (by rw[Fs];lia),rfl,q _ I.fresh⟩
def xW:R2:=λx y H Q=>∃l k xs,x=.ref l/\y=.int k/\H l=Vn (.lst xs)/\-(2 ^ 63)<=k/\k<2 ^ 63/\xs.length*k.toNat<=sizeLine ∧
 ∀p,H p=Vo->Q (.ref p) (upd H p (.lst (FU k.toNat xs).flatten))
def len_rep{α:Type}(xs:List α)(k):(FU k xs).flatten.length=k*xs.length:=by
 induction k with
 | zero=>simp
 | succ k a=>rw[JX,List.flatten_cons,Fs,a,Ho,Nat.add_comm]
theorem oY:cb X (binaryOp .Mult) xW:=by
 intro pins s σ H x y v u Q I o p h;obtain⟨l,k,xs,rfl,rfl,w,h1,h2,j,q⟩:=h;cases o;obtain⟨t,rfl⟩:=p;obtain⟨z,b,n,r,A,e⟩:=I.lstM w;have hlen:b.toArray.size*k.toNat<=sizeLine:=by rw[Fd,<-A];exact j
 have d:¬b.toArray.size*k.toNat>(2 ^ 63-1) / 8:=by
  have:(sizeLine:Nat)<=(2 ^ 63-1) / 8:=by decide
  lia
 have f:¬(!Builtin.List.listFitsIndex k)=true:=by rw[fitsIndex_both h1 h2];exact Fp
 have c:¬Ic (b.toArray.size*k.toNat)=true:=by rw[rT hlen];exact Fp
 have hnew:Lj (λg i=>g++i) #[] (FU (if b.toArray.isEmpty=true then 0 else k.toNat) b.toArray)=(FU k.toNat b).flatten.toArray:=by
  have B:∀m:Nat,Lj (λg i=>g++i) #[] (FU m b.toArray)=(FU m b).flatten.toArray:=λm=>by have:=foldl_rep b m [];exact this
  rw[B];cases b with
  | nil=>simp
  | cons a C=>rw[F5 (by simp)]
 refine wpAny_binaryOp_repeat_ref (by decide) ⟨_,e,rfl⟩ (λs'=>typeIs_int s' k t) noFill_list_mul F.fills_int_mul F.slot_int_rmul repeat_list F.slot_int_index.lookup
  (call_meets F.slot_int_rmul (typeIs_int s k t) F.entry_int_rmul (F.args_int_rmul_2 _ _) (int___rmul___int_list k t l b.toArray n)
   ⟨e,rfl,⟨_,e,rfl⟩,call_meets F.slot_list_mul ⟨_,e,rfl⟩ F.entry_list_mul (F.args_list_mul_2 _ _) (AutoListH.list___mul___list_int_3 l b.toArray n k t f d c) ⟨e,?_⟩⟩)
 rw[hnew];exact⟨.ref _,_,I.lnew (r.rep k.toNat) (by rw[len_rep,Hy];exact j),rfl,q _ I.fresh⟩
end
end L2
namespace Att
open PySem PySem.W PySem.Calls PyProof.Rows
def Ce{P:Params}:∀ns vs,WellAll P h vs (ns.map WData.int)->IntsAre vs ns:=by
 intro ns;induction ns with
 | nil=>
  intro vs w;cases w;exact .nil
 | cons n ns c=>
  intro vs w;cases w with
  | cons a b=>
   cases a;exact .cons _ _ (c _ b)
theorem D4{l:OpenLaw}(j:l.most=Vn n){P:Params}
  (b:l.row.toRowW.claim.pre args=true) (f:WellAll P h vals args) :
  ∃a vs ns,vals=[Value.ref a]/\args=[WData.list (ns.map WData.int)]/\h.get? a=Vn { cls:=.type "list",data:=.seq vs.toArray }/\IntsAre vs ns/\ns.length<=n:=by
 have g:WShape.hasAll [] args [.list .int]=true:=(pre_splitW b).1;have i:l.pre.holds [] { args:=args }=true:=(pre_splitW b).2;obtain⟨d,r,rfl,h1,h2⟩:=hasAllW_cons g;obtain rfl:=hasAllW_nil h2;obtain⟨xs,rfl,m⟩:=hasW_list h1;obtain⟨ns,rfl⟩:=items_int m;have hlen:ns.length<=n:=by
  have c:(WTm.not (.lt (.lit (.int (n:Int))) (.len (.arg 0)))).holds [] { args:=[.list (ns.map .int)] }=true:=by have c:=(holds_andW i).1;rw[j]at c;exact c
  have e:=condW_of c (w_not (w_lt w_lit (w_len_list (w_arg rfl))));refine JD λq=>?_
  first
   | (rw[F4 o]at e;exact absurd e (by decide))
   | (simp at e;lia)
 cases f with
 | cons p s=>
  cases s;cases p with
  | list ho hall=>exact⟨_,_,ns,rfl,rfl,ho,Ce ns _ hall,hlen⟩
def AL(l:OpenLaw)(args):l.row.toRowW.claim.post args (.bool true) args=true:=
 postW_of
  (by first|rfl|decide|simp [WShape.has,WShape.arms,WShape.armsAll])
  (show(WTm.eq .res (.lit (.bool true))).value [] { args:=args,res:=Vn (.bool true),after:=args }=Vn (.bool (true == true))from w_eq_bool (w_res rfl) w_lit) rfl
def yr{l:OpenLaw}{p:(Vm->Option Va)->Vh->Prop}{s:Ve->Vh->Prop}{d:DefRec}
  (x:l.most=Vn n) (h:d.params.defaults=[])
  (call:∀w s₀ b mg mb c o pm cd doc a vs ns,
   Ground q loose [] p w s₀ mg mb b.heap->s w b.heap ->
   b.heap.get? c=Vn o->o.data=.func (docDef d.name d.params d.body d.scope pm cd doc)->b.heap.CodeRec cd d.name->mg d.name=Vn (.ref c) ->
   b.heap.get? a=Vn { cls:=.type "list",data:=.seq vs.toArray }->IntsAre vs ns->ns.length<=n->b.gens = #[] ->
   codeAny (Vg l.prog w) callerA (.call (.ref c) ⟨[.ref a],[]⟩) (λr s'=>r=.ok (.ret (.bool true))/\OldK b.heap s'.heap/\s'.os=b.os/\AllBare s'.gens) b) :
  WalkO q loose p s l.row.toRowW d [] (λf vs=>Lk f vs):=by
 intro w s₀ b mg mb G Y c o pm cd doc y kV ho hd i u j z args vals as e v A m B;obtain rfl:y=.none:=Dflts.none u h;obtain rfl:kV=.none:=Dflts.noKw u;obtain⟨a,vs,ns,rfl,rfl,g,hints,hlen⟩:=D4 x e m;refine enter_call (codeAny_mono (call w s₀ b mg mb c o pm cd doc a vs ns G Y ho (fd_plain hd) i j g hints hlen z) λr s' C=>?_);obtain⟨rfl,h2,E,F⟩:=C;exact⟨.inl ⟨.bool true,.bool true,[],rfl,λ_=>rfl,.bool true,AL l _,λ_=>⟨List.Pairwise.nil,λ_ H=>(nomatch H)⟩⟩,h2,E,F⟩
end Att
namespace L2
open PySem PySem.Spec PyProof.Rows
theorem vP:∀{vs:List Va} {ns:List Int},IntsAre vs ns->Vals (ns.map V.int) vs
 | _,_,.nil=>.nil
 | _,_,.cons n t h=>.cons ⟨t,rfl⟩ (vP h)
def ip(s:Stmt):Arguments:=match s with
 | .FunctionDef _ a _ _ _ _ _ _ _ _=>a
 | _=>{ posonlyargs:=[],args:=[],vararg:=Vo,kwonlyargs:=[],kw_defaults:=[],kwarg:=Vo,defaults:=[] }
def eW(s:Stmt):List Stmt:=match s with
 | .FunctionDef _ _ b _ _ _ _ _ _ _=>b
 | _=>[]
def cM(s:Stmt):Scope:=match s with
 | .FunctionDef _ _ _ _ _ _ sc _ _ _=>sc
 | _=>{ kind:=.function,names:=[],isGenerator:=false,isCoroutine:=false }
abbrev dP:gC:=λ_ _ _ _ _ _=>False
abbrev E0:XK:=λ_ _ _=>False
def yI:Passes dP X E0:=λ_ _ _ _ _ _ _ h=>h.elim
structure Fun(K:E3)(x qual:Vm)(st:Stmt)(f:Vb)(fd:Vl):Prop where
 ex:∃(oc:Va) (od:Option Vb) (kV doc pm:Va) (an:Option Vb) (cdv ct:Va) (osl:Array (Option Va)),
  fd=Hc x qual (ip st) (eW st) (cM st) .none kV doc pm an cdv ct/\K.lookup f=Vn ⟨oc,od,.func fd,osl⟩/\Io K cdv qual=true
 kp:IS K (.ref f)=true
section
variable {P:Vd} {w:Ve} {K:E3} {mg:Vm->Option Va} {base:Vh}
def Fun.ok{st:Stmt}{f:Vb}(F:Fun K x qual st f fd)(S:FnScope N ps (cM st))(len:∀vs H Q E,sp vs H Q E->vs.length=ps.length)
  (a:∀cdv A outer s H vs Q E,Room k (A.deeper (envOfC qual (cM st) s.heap.objs.size f cdv))->sp vs H Q E ->
   ∃t,cW (fJ dP P w K mg base N qual (cM st) f cdv A outer s H E).nox (eW st) t/\t { nx:=λ_ H'=>Q .non H',rt:=Q } (start N vs) H):FnOk P w K mg base dP (k+1) f fd ps sp:=by
 obtain⟨oc,od,kV,doc,pm,an,cdv,ct,osl,rfl,c,b⟩:=F.ex;refine tM c b S len λA outer s H vs Q E d hsp=>?_;obtain⟨t,h,q⟩:=a cdv A outer s H vs Q E d hsp;exact⟨t,h.nox,q⟩
def Fun.binds{st:Stmt}{f:Vb}(F:Fun K x qual st f fd)
  (h:∀kV doc pm an cdv ct us,us.length=ps.length->bindArgs (Hc x qual (ip st) (eW st) (cM st) .none kV doc pm an cdv ct) ⟨us,[]⟩=pure (ps.zip us)):Binds K fd ps []:=by
 obtain⟨oc,od,kV,doc,pm,an,cdv,ct,osl,rfl,b,a⟩:=F.ex;exact .all (h kV doc pm an cdv ct)
def v7{st:Stmt}{f:Vb}{od an:Option Vb}{kV doc cdv ct:Va}(l:K.lookup f=Vn ⟨oc,od,.func (Hc x qual (ip st) (eW st) (cM st) .none kV doc pm an cdv ct),osl⟩)
  (c:Io K cdv qual=true) (k:IS K (.ref f)=true):Fun K x qual st f (Hc x qual (ip st) (eW st) (cM st) .none kV doc pm an cdv ct):=⟨⟨oc,od,kV,doc,pm,an,cdv,ct,osl,rfl,l,c⟩,k⟩
end
def bo(a:Room k A):A.units+1<cLine:=Gv (K1 (by decide:1<=64) _) a.units
section
variable {X:Cx}
def pv(i:Nat){x:Vm}{pos:Pos}(b:X.N[i]?=Vn x:=by rfl)(c:lz X.env.scope x:=by first|exact Or.inl rfl|exact Or.inr (Or.inl rfl)|exact Or.inr (Or.inr rfl))(hd:(x == ("__debug__":Vm))=false:=by decide)
  (a:(x == ("__classdict__":Vm))=false:=by decide):PE X (.Name x pos) (mW i):=BA b c hd a
end
def aC{A B:Prop}(h:B):if false=true then A else B:=by exact h
def aI{A B:Prop}(h:A):if true=true then A else B:=by exact h
def gH{c A B:Prop}[Decidable c](h1:c->A)(h2:¬c->B):if c then A else B:=by
 by_cases h:c
 .rw[F6 h];exact h1 h
 .rw[F5 h];exact h2 h
structure Blk where
 s:Vc
 H:Hp
 fp:List Vb
 C:Vb
def eh(names:List (Vm×NameKind))(cells:List (Vm×Vb)):List (Vm×Vb):=
 names.foldl (λacc p=>if p.2 == .free then(p.1,(cells.lookup p.1).getD 0)::acc else acc) []
def Ex(sc out:Scope):Bool:=sc.names.all λp=>p.2 != .cell && (p.2 != .local || sc.names.lookup p.1 == Vn .local) && (p.2 != .free || out.names.lookup p.1 == Vn .cell || out.names.lookup p.1 == Vn .free)
def kP(sc:Scope)(N:List Vm)(js:List Nat):Bool:=js.all λj=>decide (j<N.length) && (sc.names.lookup (N.getD j "") == Vn .free)
def dW(n:Nat)(js:List Nat)(σ:St):St:=FU n Vo++js.map λj=>(σ[j]?).join
theorem lN(cells:List (Vm×Vb)):∀(names:List (Vm×NameKind)) (acc:List (Vm×Vb)) (x:Vm) (c:Vb),
  (names.foldl (λacc p=>if p.2 == .free then(p.1,(cells.lookup p.1).getD 0)::acc else acc) acc).lookup x=Vn c ->
  ((x,NameKind.free)∈names/\c=(cells.lookup x).getD 0)\/acc.lookup x=Vn c
 | [],acc,x,c,h=>.inr h
 | (n,k)::r,acc,x,c,h=>by
  rcases lN cells r _ x c h with⟨h1,h2⟩|h1
  .exact .inl ⟨Fb _ h1,h2⟩
  .cases a:(k == NameKind.free)with
   | false=>
    simp only[a]at h1;exact .inr h1
   | true=>
    simp only[a,if_true]at h1;rw[FY]at h1;cases b:(x == n)with
    | false=>rw[b]at h1;exact .inr h1
    | true=>
     rw[b]at h1;have d:x=n:=by simpa using b
     have e:k=.free:=by simpa using a
     subst d e;exact .inl ⟨Fe,(FQ h1).symm⟩
theorem xu(cells:List (Vm×Vb)):∀(names:List (Vm×NameKind)) (acc:List (Vm×Vb)) (x:Vm),
  ((x,NameKind.free)∈names\/(acc.lookup x).isSome=true)->((names.foldl (λacc p=>if p.2 == .free then(p.1,(cells.lookup p.1).getD 0)::acc else acc) acc).lookup x).isSome=true
 | [],acc,x,h=>by
  rcases h with h|h
  .simp at h
  .exact h
 | (n,k)::r,acc,x,h=>by
  apply xu cells r;rcases h with h|h
  .rcases Fo.mp h with e|h
   .right;cases e;simp[FY]
   .exact .inl h
  .right;cases a:(k == NameKind.free)with
   | false=>simpa[a]using h
   | true=>
    simp only[a,if_true,FY];cases b:(x == n)with
    | true=>rfl
    | false=>exact h
def nG(h:∀p∈sc.names,p.2=.free->∃c,env.cells.lookup p.1=Vn c):closureFor sc env=pure (eh sc.names env.cells):=by
 have go:∀(names:List (Vm×NameKind)) acc,(∀p∈names,p.2=NameKind.free->∃c,env.cells.lookup p.1=Vn c) ->
   (forIn names acc λ p r=>(match p with|(name,kind)=>if(kind == NameKind.free)=true then do let c <-cellOf env name;pure (ForInStep.yield ((name,c)::r))else pure (ForInStep.yield r):Sem _)) =
   pure (names.foldl (λacc p=>if p.2 == .free then(p.1,(env.cells.lookup p.1).getD 0)::acc else acc) acc):=by
  intro names;induction names with
  | nil=>intro acc _;rfl
  | cons p r g=>
   intro acc a;obtain⟨n,k⟩:=p;rw[KY,KW];cases b:(k == NameKind.free)with
   | false=>
    simp only[b,FV,if_false];exact g acc λq d=>a q (Fb _ d)
   | true=>
    obtain⟨c,i⟩:=a (n,k) Fe (by simpa using b);have e:cellOf env n=pure c:=by unfold cellOf;rw[i]
    simp only[b,if_true,e];have f:env.cells.lookup n=Vn c:=i;rw[f];exact g _ λq d=>a q (Fb _ d)
 unfold closureFor eh;have:=go sc.names [] h;simp only[this];rfl
def j4(X:Cx)(ifs:List Vk)(t:TT):Prop:=
 ∀(pins:List (Vb×Obj)) (s:Vc) (σ:St) (H:Hp) (Q:Bool->Hp->Prop),Inv X pins σ H s->t σ H Q ->
  Vf (Vg X.prog X.w) X.A (forIn ifs true λc r=>if r=true then do let ok <-isTrue c X.env (eval c X.env);pure (ForInStep.yield ok)else pure (ForInStep.yield r)) (TP X pins σ Q) X.xe s
def uV:TT:=λ_ H Q=>Q true H
def dm:j4 X [] uV:=λ_ _ _ H _ I h=>wpAny_tests_nil ⟨H,I,h⟩
def dI{c:Vk}(h:PT X c t):j4 X [c] t:=λpins s σ H Q I a=>wpAny_tests_one (h pins s σ H Q I a)
def Bv{R:Result->Vc->Prop}{elt a iter:Vk}{ps:Pos}(d:Nat->Vc->Prop)
  (step:∀k t,d k t->Vf (Vg prog w) A (pyNext b) (λgot g=>
   match got with
   | none=>R (.ok .next) g
   | some u=>Vf (Vg prog w) A (letOwnedTupleGo a b u) (λ_ l=>Vf (Vg prog w) A (assign a ce u) (λ_ n=>
     Vf (Vg prog w) A (forIn ifs true λc r=>if r=true then do let ok <-isTrue c ce (eval c ce);pure (ForInStep.yield ok)else pure (ForInStep.yield r)) (λyes i=>
      if yes=true then Vf (Vg prog w) A (eval elt ce) (λval o=>Vf (Vg prog w) A (call (.builtin "list.append") [acc,val]) (λ_ p=>∃m,m<k/\d m p) (λ_ _=>False) o) (λ_ _=>False) i
      else ∃m,m<k/\d m i) (λ_ _=>False) n) (λ_ _=>False) l) (λ_ _=>False) g) (λ_ _=>False) t)
  (k0) (start:d k0 j):codeAny (Vg prog w) A (.compLoop (.ListComp elt [⟨a,iter,ifs,0⟩] sc ps) 0 b acc ce) R j:=by
 refine codeAny_loop rfl d (λk t s=>?turn) k0 start
 case turn=>
  have nox:∀{α:Type} {m:Sem α} {Q:α->Vc->Prop} {E:Va->Vc->Prop} {z:Vc},Vf (Vg prog w) A m Q (λ_ _=>False) z->Vf (Vg prog w) A m Q E z:=λh=>wpAny_mono h (λ_ _ q=>q) λ_ _ f=>f.elim;apply wpAny_noted;refine E1 (wpAny_standAt (E1 (nox (wpAny_mono (step k t s) (λgot g h1=>?_) λ_ _ f=>f))));cases got with
  | none=>exact E2 h1
  | some u=>
   refine E1 (nox (wpAny_mono h1 (λ_ l h2=>?_) λ_ _ f=>f));refine E1 (nox (wpAny_mono h2 (λ_ n v=>?_) λ_ _ f=>f));refine E1 (nox (wpAny_mono v (λyes i e=>?_) λ_ _ f=>f));cases yes with
   | false=>
    exact E2 ⟨rfl,e⟩
   | true=>
    refine E1 (E1 (nox (wpAny_mono e (λval o y=>?_) λ_ _ f=>f)));exact E1 (nox (wpAny_mono y (λ_ p B=>E2 (E2 ⟨rfl,B⟩)) λ_ _ f=>f))
section
variable {X:Cx} {pins:List (Vb×Obj)} {σ:St} {H:Hp} {s:Vc}
def fu(a:List Va)(n:Nat):Obj:={ cls:=.type "list",data:=.seq a.toArray n }
def EY(h:Ex sc out=true){p:Vm×NameKind}(a:p∈sc.names)(b:p.2=.free):out.names.lookup p.1=Vn .cell\/out.names.lookup p.1=Vn .free:=by have:=FK.mp h p a;simp only[b,FO,Bool.or_eq_true,beq_iff_eq,bne_iff_ne,ne_eq,not_true,false_or]at this;exact this.2
theorem lK{sc:Scope}{env:Env}{x:Vm}:∀{names:List (Vm×NameKind)} {k:NameKind},(names.map λ(p:Vm×NameKind)=>match p with|(n,k)=>if(k == NameKind.free && env.scope.kind == .function && env.kindOf n == Vn .cell)then(n,NameKind.cell)else(n,k)).lookup x=Vn k ->
  ∃c,names.lookup x=Vn c/\(c=k\/(c=.free/\k=.cell))
 | [],_,h=>by simp at h
 | (n,q)::r,k,h=>by
  rw[GY]at h;rw[FY];cases b:(x == n)with
  | true=>
   refine⟨q,rfl,?_⟩;by_cases a:(q == NameKind.free && env.scope.kind == .function && env.kindOf n == Vn .cell)=true
   .simp only[a,if_true,FY,b]at h;right;simp only[FO,beq_iff_eq]at a;exact⟨a.1.1,(FQ h).symm⟩
   .left;have h2:JL x ((n,q)::(r.map λ(p:Vm×NameKind)=>match p with|(n,k)=>if(k == NameKind.free && env.scope.kind == .function && env.kindOf n == Vn .cell)then(n,NameKind.cell)else(n,k)))=Vn k:=by have d:=h;dsimp only at d;rw[F5 a]at d;exact d
    rw[FY,b]at h2;exact FQ h2
  | false=>
   have:JL x (r.map λ p=>match p with|(n,k)=>if(k == NameKind.free && env.scope.kind == .function && env.kindOf n == Vn .cell)then(n,NameKind.cell)else(n,k))=Vn k:=by
    by_cases a:(q == NameKind.free && env.scope.kind == .function && env.kindOf n == Vn .cell)=true
    .simpa only[a,if_true,FY,b]using h
    .dsimp only at h;rw[F5 a,FY,b]at h;exact h
   exact lK (sc:=sc) this
def jm{names:List (Vm×NameKind)}(h:names.lookup x=Vn k):(x,k)∈names:=Gg h
def sC(h:(x,NameKind.free)∈sc.names):∃c,(eh sc.names cells).lookup x=Vn c:=
 GR.mp (xu cells sc.names [] x (.inl h))
def Inv.stk_lt(I:Inv X pins σ H s)(hb:b∈dZ X.stack):b<s.heap.objs.size:=by
 rcases Fo.mp (I.stkSub b hb)with e|h
 .rw[e];exact I.lt
 .obtain⟨_,o,ho,_⟩:=I.ok.funs.mem h;exact FH (E6 ho) I.sz
def Inv.cell_lt(I:Inv X pins σ H s)(h:X.env.cells.lookup x=Vn c):c<s.heap.objs.size:=by obtain⟨v,q⟩:=I.cell x c h;exact q.lt
def Inv.pin_lt(I:Inv X pins σ H s){p:Vb×Obj}(h:p∈X.pn++pins):p.1<s.heap.objs.size:=E6 (I.pin p h).1
theorem xJ(h:(dW n js σ)[i]?=Vn (Vn v)):∃k j,i=n+k/\js[k]?=Vn j/\σ[j]?=Vn (Vn v):=by
 unfold dW at h;by_cases hi:i<n
 .rw[Fz (by simpa using hi),J3]at h;split at h<;>cases h
 .rw[Fy (by simpa using JD hi),Kb,E9]at h;cases e:js[i-n]? with
  | none=>rw[e]at h;cases h
  | some j=>
   rw[e]at h;refine⟨i-n,j,by lia,e,?_⟩;have h':(σ[j]?).join=Vn v:=by simpa using h
   cases q:σ[j]? with
   | none=>rw[q]at h';cases h'
   | some o=>
    rw[q]at h';have:o=Vn v:=h';rw[this]
def iN(J:It)(n:Nat)(js:List Nat)(g:TG)(tc:TT)(te:TE)(σ:St)(H:Hp)(Q:VK):Prop:=
 ∃W:Nat->Nat->List V->Hp->Prop,(∃m,W 0 m [] H)/\∀i m ys H',W i m ys H' ->
  (J.stop i H'/\∀p,H' p=Vo->Q (.ref p) (upd H' p (.lst ys))) ∨
  (J.go i H'/\ys.length<sizeLine/\∃N:List V->Hp->Prop,(∀a H2,N a H2->∃d,d<m/\W (i+1) d a H2)/\∀x H2,J.yld i H' x H2->g x (dW n js σ) H2 λc f=>tc c f λb e=>
   if b=true then te c e λv h=>N (ys++[v]) h else N ys e)
def mS(n:Nat)(js:List Nat)(a:TI)(g:TG)(tc:TT)(te:TE):TE:=λσ H Q=>a σ H λJ H1=>iN J n js g tc te σ H1 Q
structure TurnAt(X:Cx)(tg:Vk)(J:It)(fp:List Vb)(it:Vb)(tn:Nat->Vh->Prop):Prop where
 obj:∀i h,tn i h->∀b∈fp,∃o,h.get? b=Vn o/\∀v,o.data≠.cell v
 keep:∀i h h',tn i h->(∀b∈fp,∀o,h.get? b=Vn o->h'.get? b=Vn o)->tn i h'
 item:∀(i:Nat) (pins:List (Vb×Obj)) (s:Vc) (σ:St) (H:Hp) (E:Va->Vc->Prop),Inv X pins σ H s->(∀b∈fp,dS X pins H b)->tn i s.heap->J.go i H ->
  Vf (Vg X.prog X.w) X.A (pyNext (.ref it)) (λr s1=>∃u,r=Vn u ∧
   Vf (Vg X.prog X.w) X.A (letOwnedTupleGo tg (.ref it) u) (λ_ s2=>∃x H',Inv X pins σ H' s2/\RelV x u/\J.yld i H x H'/\tn (i+1) s2.heap/\∀b∈fp,H' b=Vo) E s1) E s
 done:∀(i:Nat) (pins:List (Vb×Obj)) (s:Vc) (σ:St) (H:Hp) (E:Va->Vc->Prop),Inv X pins σ H s->(∀b∈fp,dS X pins H b)->tn i s.heap->J.stop i H ->
  Vf (Vg X.prog X.w) X.A (pyNext (.ref it)) (λr s1=>r=Vo/\Inv X pins σ H s1) E s
 self:∀(A:Vi) (i:Nat) (s:Vc) (Q:Va->Vc->Prop) (E:Va->Vc->Prop),tn i s.heap->Q (.ref it) s->Vf (Vg X.prog X.w) A (pyIter (.ref it)) Q E s
def Turn.at_(T:Turn Y.prog Y.w Y.K tg J fp it tn)(a:Y.calm=true):TurnAt Y tg J fp it tn:=⟨T.obj,T.keep,T.item Y rfl rfl rfl a,T.done Y rfl rfl rfl a,T.self⟩
end
theorem dJ{K:E3}{Q:VK}(Pv:Nat->List V->Hp->Prop)(s:xs.length<=sizeLine)(h0:Pv 0 [] H)(h:∀i ys H,i<=xs.length->Pv i ys H->ag K H a xs/\ys.length<=i)
  (hs:∀i x ys H,xs[i]?=Vn x->Pv i ys H->g x (dW n js σ) H λc j=>tc c j λb f=>if b=true then te c f λv l=>Pv (i+1) (ys++[v]) l else Pv (i+1) ys f)
  (hd:∀ys H p,Pv xs.length ys H->H p=Vo->Q (.ref p) (upd H p (.lst ys))):iN (fG K a) n js g tc te σ H Q:=by
 refine⟨λi m ys H=>m=xs.length-i/\i<=xs.length/\Pv i ys H,⟨xs.length,by simp,GO _,h0⟩,?_⟩;rintro i m ys H ⟨rfl,hi,p⟩;have q:=h i ys H hi p;by_cases hlt:i<xs.length
 .refine .inr ⟨⟨xs,xs[i],q.1,by simp[hlt]⟩,by have:=q.2;lia,Pv (i+1),λo H' d=>⟨xs.length-(i+1),by lia,rfl,hlt,d⟩,λx H' y=>?_⟩;obtain⟨e,y⟩:=y;subst e;exact hs i x ys _ (y xs q.1) p
 .have e:i=xs.length:=by lia
  subst e;exact .inl ⟨⟨xs,q.1,Fu _⟩,λd r=>hd ys H d p r⟩
theorem vS{K:E3}{Q:VK}(Pv:Nat->List V->Hp->Prop)(s:xs.length<=sizeLine)(h0:Pv 0 [] H)(h:∀i ys H,i<=xs.length->Pv i ys H->ay K H a xs/\ys.length<=i)
  (hs:∀i x ys H,xs[i]?=Vn x->Pv i ys H->g x (dW n js σ) H λc j=>tc c j λb f=>if b=true then te c f λv l=>Pv (i+1) (ys++[v]) l else Pv (i+1) ys f)
  (hd:∀ys H p,Pv xs.length ys H->H p=Vo->Q (.ref p) (upd H p (.lst ys))):iN (fD K a) n js g tc te σ H Q:=by
 refine⟨λi m ys H=>m=xs.length-i/\i<=xs.length/\Pv i ys H,⟨xs.length,by simp,GO _,h0⟩,?_⟩;rintro i m ys H ⟨rfl,hi,p⟩;have q:=h i ys H hi p;by_cases hlt:i<xs.length
 .refine .inr ⟨⟨xs,xs[i],q.1,by simp[hlt]⟩,by have:=q.2;lia,Pv (i+1),λo H' d=>⟨xs.length-(i+1),by lia,rfl,hlt,d⟩,λx H' y=>?_⟩;obtain⟨e,y⟩:=y;subst e;exact hs i x ys _ (y xs q.1) p
 .have e:i=xs.length:=by lia
  subst e;exact .inl ⟨⟨xs,q.1,Fu _⟩,λd r=>hd ys H d p r⟩
theorem gK{lo:Int}{N:Nat}{Q:VK}(Pv:Nat->List V->Hp->Prop)(r:N<=sizeLine)(h0:Pv 0 [] H)(f:∀i ys H,i<=N->Pv i ys H->ys.length<=i)
  (hs:∀i ys H,i<N->Pv i ys H->g (.int (lo+i)) (dW n js σ) H λa h=>tc a h λb d=>if b=true then te a d λv j=>Pv (i+1) (ys++[v]) j else Pv (i+1) ys d)
  (hd:∀ys H p,Pv N ys H->H p=Vo->Q (.ref p) (upd H p (.lst ys))):iN (fb lo N) n js g tc te σ H Q:=by
 refine⟨λi m ys H=>m=N-i/\i<=N/\Pv i ys H,⟨N,by simp,GO _,h0⟩,?_⟩;rintro i m ys H ⟨rfl,hi,p⟩;have q:=f i ys H hi p;by_cases hlt:i<N
 .refine .inr ⟨hlt,by lia,Pv (i+1),λl H' c=>⟨N-(i+1),by lia,rfl,hlt,c⟩,λx H' y=>?_⟩;obtain⟨e,y⟩:=y;subst e y;exact hs i ys _ hlt p
 .have e:i=N:=by lia
  subst e;exact .inl ⟨Fu _,λc o=>hd ys H c p o⟩
structure Cal(P:Vd)(w:Ve)(K:E3)(mg:Vm->Option Va)(base:Vh)(x:Vm)(k:Nat)(ps:List Vm)(sp:Sp):Prop where
 ex:∃(f:Vb) (fd:Vl),mg x=Vn (.ref f)/\IS K (.ref f)=true/\Binds K fd ps []/\FnOk P w K mg base dP k f fd ps sp
structure Dfn(K:E3)(mg:Vm->Option Va)(x:Vm)(st:Stmt)(ps:List Vm):Prop where
 ex:∃(f:Vb) (fd:Vl),mg x=Vn (.ref f)/\Fun K x x st f fd/\Binds K fd ps []
section
variable {P:Vd} {w:Ve} {K:E3} {mg:Vm->Option Va} {base:Vh}
theorem Dfn.ok{x:Vm}{st:Stmt}{N ps:List Vm}{k:Nat}{sp:Sp}(D:Dfn K mg x st ps)(S:FnScope N ps (cM st))(len:∀vs H Q E,sp vs H Q E->vs.length=ps.length)
  (a:∀(X:Cx) (d:∃f cdv A outer s H E,X=(fJ dP P w K mg base N x (cM st) f cdv A outer s H E).nox/\Room k X.A) (H:Hp) (vs:List V) (Q:VK) (E:XK),sp vs H Q E ->
   ∃t,cW X (eW st) t/\t { nx:=λ_ H'=>Q .non H',rt:=Q } (start N vs) H):Cal P w K mg base x (k+1) ps sp:=by
 obtain⟨f,fd,b,F,hb⟩:=D.ex;exact⟨f,fd,b,F.kp,hb,F.ok S len λcdv A outer s H vs Q E c h=>a _ ⟨f,cdv,A,outer,s,H,E,rfl,c⟩ H vs Q E h⟩
end
section
variable {X:Cx}
def aG{x:Vm}{k j:Nat}{e:Vk}{es:List Vk}{t:TA}{p pos:Pos}(C:Cal X.prog X.w X.K X.mg X.base x j ps sp)(d:Room k X.A)(ha:PA X (e::es) t)(a:j<=k:=by decide)(g:Gl X x:=by rfl)(b:(x == ("__debug__":Vm))=false:=by decide)
  (h:starEach (e::es) X.env=(false,eval e X.env)::starEach es X.env:=by rfl) (c:(backTo pos (starEach es X.env)).any (·.1)=false:=by rfl) :
  PE X (.Call (.Name x p) (e::es) [] pos) (k9 sp [] E0 t):=by
 obtain⟨f,fd,i,l,hb,F⟩:=C.ex;exact BC F (d.mono a) g i l hb .nil yI ha b h c
theorem yk:cb X (binaryOp .FloorDiv) (rI (λ_ j=>0<j/\j<2 ^ 64) λi j=>.int (i / j)):=lF λi j _ _ _ _ _ b q=>by
 refine floordiv_int (by omega) (by rw[Int.fdiv_eq_ediv_of_nonneg i (by omega)];exact q) (.inl (PyProof.noPylong_of_log2 ?_));have c:j.natAbs≠0:=by omega
 have a:j.natAbs<2 ^ 64:=by omega
 have:=(Nat.log2_lt c).mpr a;lia
def ia(H:Hp):V->String->Prop
 | .non,n=>n = "NoneType"
 | .bl _,n=>n = "bool"
 | .int _,n=>n = "int"
 | .str _,n=>n = "str"
 | .ref a,n=>(n = "list"/\∃xs,H a=Vn (.lst xs))\/(n = "tuple"/\∃xs,H a=Vn (.tup xs))
 | _,_=>False
def ia.ty{K:E3}{n:String}(h:ia H x n):TyOf K H x (.type n):=by
 cases x with
 | non=>cases(h);exact .non
 | bl b=>cases(h);exact .bl b
 | int i=>cases(h);exact .int i
 | str z=>cases(h);exact .str z
 | ref a=>
  rcases h with⟨rfl,xs,e⟩|⟨rfl,xs,e⟩
  .exact .lst e
  .exact .tup e
 | _=>exact GZ h
def iA(a b c d e:Bool):String->Option Bool
 | "tuple"=>Vn a|"int"=>Vn b|"bool"=>Vn c|"list"=>Vn d|"str"=>Vn e|_=>Vo
def i8:String->String->Option Bool
 | "NoneType"=>iA false false false false false
 | "bool"=>iA false true true false false
 | "int"=>iA false true false false false
 | "str"=>iA false false false false true
 | "list"=>iA false false false true false
 | "tuple"=>iA true false false false false
 | _=>λ_=>Vo
def zU{K:E3}{n:String}(h:i8 n T=Vn b):PySem.W.kitOne K (.type n) (.type T)=Vn b:=by
 unfold i8 at h;split at h<;>first
  | (unfold iA at h;split at h<;>first|(cases h;kernel_rfl)|cases h)
  | cases h
def pW:List V->Hp->VK->Prop:=λxs H Q=>∃x n T b,xs=[x,.ty T]/\ia H x n/\i8 n T=Vn b/\Q (.bl b) H
def eM:cS X (.builtin "isinstance") pW:=by intro pins s σ H xs us Q I r h;obtain⟨x,n,T,b,rfl,a,hb,q⟩:=h;obtain⟨u,c,rfl,r1,d⟩:=vals2 r;cases(d);exact yz I r1 a.ty (zU hb) λtk=>⟨.bl b,H,I.tok tk,rfl,q⟩
def xI(K:E3):List V->Hp->VK->Prop:=λxs H Q=>∃(p:Vb) (ns:List Int),xs=[.ref p]/\ag K H p (ns.map V.int)/\0<ns.length/\∀M,M∈ns->(∀a,a∈ns->a<=M)->Q (.int M) H
def zF(j:X.calm=true):cS X (.builtin "max") (xI X.K):=by
 intro pins s σ H xs us Q I r h;obtain⟨p,ns,rfl,l,y,q⟩:=h;obtain⟨u,rfl,m⟩:=vals1 r;cases m;obtain⟨c,n,pl,d⟩:=I.list l;have i1:IntsAre c ns:=intsAre_of n;obtain⟨a,g⟩:=i1.allInts.items;have e:ns=a.toList.map (·.1):=(i1.numsOf.symm.trans (by rw[<-g])).trans (nums_intItems a);have f:a.toList.length=a.size:=Fc;have ln:ns.length=a.size:=by rw[e,E7,f]
 have o:s.heap.IsList p (intItems a):=g ▸ pl.isList;refine max_intList (I.ok.hd j) o (by omega) λbest h' tk b kept=>?_;obtain⟨tok,v⟩:=intItems_at b;subst v;have am:=argBest_gt (numAt a) (a.size-1);refine⟨.int _,H,I.kept kept,⟨tok,rfl⟩,q _ ?_ λz d=>?_⟩
 .rw[e];rw[numAt_eq];exact getD_mem (by rw[E7,f];omega)
 .rw[e]at d;obtain⟨k,i,w⟩:=mem_getD d;subst w;have x:k<a.size:=by rw[E7,f]at i;exact i
  have:=am.2 k (by omega);rw[numAt_eq]at this;exact this
def lB(K:E3):List V->Hp->VK->Prop:=λxs H Q=>∃p ys,xs=[.ref p]/\(ag K H p ys\/ay K H p ys)/\Q (.int ys.length) H
def Bj:cS X (.builtin "len") (lB X.K):=zr
def m7(K:E3):List V->Hp->VK->Prop:=λxs H Q=>∃p ys,xs=[.ref p]/\((ag K H p ys/\∀l,H l=Vo->Q (.ref l) (upd H l (.tup ys)))\/(ay K H p ys/\Q (.ref p) H))
def zJ:cS X (.type "tuple") (m7 X.K):=Dz
def vV:List V->Hp->VK->Prop:=λxs H Q=>∃i j,xs=[.int i,.int j]/\Q (.int (if j>i then j else i)) H
def C1(a:X.calm=true):cS X (.builtin "max") vV:=EG a
end
def Ext(H H':Hp):Prop:=∀b o,H b=Vn o->H' b=Vn o
def Ext.rfl'(H):Ext H H:=λ_ _ h=>h
def Ext.trans(a:Ext H H1)(b:Ext H1 H2):Ext H H2:=λx o h=>b x o (a x o h)
theorem Ext.none{H H':Hp}(e:Ext H H'){l:Vb}(h:H' l=Option.none):H l=Option.none:=by
 cases q:H l with
 | none=>rfl
 | some o=>rw[e l o q]at h;cases h
section
variable {X:Cx} (K:E3)
def aQ(h:X.K=K:=by rfl):jf X (mG K):=by subst h;exact Dx
def aD(h:X.K=K:=by rfl):jf X (ny K):=by subst h;exact yD
def f7(h:X.K=K:=by rfl):jW X (mU K):=by subst h;exact DQ
def lZ(h:X.K=K:=by rfl):cb X (compareOp .In) (pz K false):=by subst h;exact yH
def cn(h:X.K=K:=by rfl):cS X (.builtin "len") (lB K):=by subst h;exact Bj
def mf(h:X.K=K:=by rfl):cS X (.type "tuple") (m7 K):=by subst h;exact zJ
def pB(a:X.calm=true)(h:X.K=K:=by rfl):cS X (.builtin "max") (xI K):=by subst h;exact zF a
def bP{l:Vk}(a:PE X l tl)(h:X.K=K:=by rfl):PI X tg l (nH K tl):=by subst h;exact De a
def jF{l:Vk}(a:PE X l tl)(h:X.K=K:=by rfl):PI X tg l (nM K tl):=by subst h;exact CD a
def dw{es:List Vk}{k:Nat}{t:fk}{pos:Pos}(b:X.calm=true)(c:jq X es t)(h:X.K=K:=by rfl)
  (d:(assignEach es X.env).length=n:=by rfl) (a:(assignEach es X.env).findIdx? (·.1)=Vo:=by rfl):PG X (.Tuple es k pos) (mL K n t):=by subst h;exact zH b c d a
def bO{o e:Vk}{es:List Vk}{t:TA}{name:Vm}{apos cpos:Pos}{id:String}(g:PlainAttrs T)(slot:Slot T name id)(f:typeOf (.builtin id)=pure (.type "method_descriptor"))(i:ky X id r)(ho:PE X o to)(ha:PA X (e::es) t)(h:X.K=K:=by rfl)
  (b:attributeBase o name X.env (eval o X.env)=eval o X.env:=by rfl)
  (d:((backTo cpos (starEach (e::es) X.env)).all (λx=>!x.1) && (backToKw cpos (keywordEach [] X.env)).all (λx=>x.1.isSome)
   && decide ((e::es).length+([]:List Keyword).length+(if([]:List Keyword).isEmpty then 0 else 1)<30))=true:=by rfl)
  (c:(apos.endLine == cpos.line)=true:=by rfl) (hs:starEach (e::es) X.env=(false,eval e X.env)::starEach es X.env:=by rfl) (a:(backTo cpos (starEach es X.env)).any (·.1)=false:=by rfl) :
  PE X (.Call (.Attribute o name apos) (e::es) [] cpos) (o7 K T r to t):=by subst h;exact D0 g slot f i ho ha b d c hs a
def xx(K:E3)(ta:TE):TT:=λσ H Q=>ta σ H λx H'=>∃k,lx K x H' k/\Q k H'
def lU{a:Vk}{ta:TE}(ha:PE X a ta)(b:∀whole,isTrue a X.env whole=(do let v <-whole;standAt a.pos;holding [v] (truthy v)))(h:X.K=K:=by rfl):PT X a (xx K ta):=by subst h;exact EU ha b
end
def vy(ns:List Int):TA:=λ_ H Q=>Q (ns.map V.int) H
inductive IntsE:List Vk->List Int->Prop
 | n:IntsE [] []
 | c {i j pos es ns}:IntsE es ns->IntsE (.Constant (.int i) j pos::es) (i::ns)
def jg(h:IntsE es ns):PA X es (vy ns):=by
 induction h with
 | n=>exact aa
 | @c i j pos es ns _ a=>
  intro p pins s σ H Q I b;exact aw ae a rfl p pins s σ H Q I b
def rd_ints{R:List V->Hp->Prop}(h:R (ns.map V.int) H):vy ns σ H R:=h
def mQ(c:TT)(t u:TS):TS:=λD σ H=>∃R:St->Hp->Prop,(c σ H λb H1=>if b=true then t { D with nx:=R } σ H1 else u { D with nx:=R } σ H1)/\∀a H',R a H'->D.nx a H'
def cL{c:Vk}{a b:List Stmt}{t u:TS}(e:PT X c tc)(ha:cW X a t)(hb:cW X b u):PS X (.If c a b pos) (mQ tc t u):=by
 intro pins s σ H D I h;obtain⟨R,h,g⟩:=h;refine aM (bB e ha hb pins s σ H { D with nx:=R } I h) λf s1 q=>?_;cases f with
 | next=>
  obtain⟨d,H',i,q⟩:=q;exact⟨d,H',i,g d H' q⟩
 | ret v=>exact q
 | brk=>exact q
 | cont=>exact q
def wM(K:E3):V->Hp->(It->Hp->Prop)->Prop:=λx H R=>∃a,x=.ref a/\(∃xs,ag K H a xs)/\R (fG K a) H
def tP(K:E3):V->Hp->(It->Hp->Prop)->Prop:=λx H R=>∃a,x=.ref a/\(∃xs,ay K H a xs)/\R (fD K a) H
def rf:List V->Hp->(It->Hp->Prop)->Prop:=λvs H R=>∃j:Int,vs=[.int j]/\-(2 ^ 62)<=j/\j<2 ^ 62/\R (fb 0 j.toNat) H
def qP:List V->Hp->(It->Hp->Prop)->Prop:=λvs H R=>∃i j:Int,vs=[.int i,.int j]/\(-(2 ^ 62)<=i/\i<2 ^ 62/\-(2 ^ 62)<=j/\j<2 ^ 62)/\R (fb i (j-i).toNat) H
def iH(J:It)(g:TG)(tb:TS)(D:Ends)(σ:St)(H:Hp):Prop:=∃W:Nat->Nat->St->Hp->Prop,(∃m,W 0 m σ H)/\∀i m σ H,W i m σ H ->
 (J.stop i H/\D.nx σ H)\/(J.go i H/\∃N:St->Hp->Prop,(∀a H',N a H'->∃c,c<m/\W (i+1) c a H')/\∀x H',J.yld i H x H'->g x σ H' λb H2=>tb { D with nx:=N,ct:=N,bk:=D.nx } b H2)
def forL{K:E3}(Pv:Nat->St->Hp->Prop)(h0:Pv 0 σ H)(c:∀i σ H,i<=xs.length->Pv i σ H->ag K H a xs)
  (hs:∀i x σ H,xs[i]?=Vn x->Pv i σ H->g x σ H λb H2=>tb ⟨Pv (i+1),D.rt,D.nx,Pv (i+1)⟩ b H2) (hd:∀σ H,Pv xs.length σ H->D.nx σ H):iH (fG K a) g tb D σ H:=D1 Pv h0 c hs hd
def mP{K:E3}(Pv:Nat->St->Hp->Prop)(h0:Pv 0 σ H)(c:∀i σ H,i<=xs.length->Pv i σ H->ay K H a xs)
  (hs:∀i x σ H,xs[i]?=Vn x->Pv i σ H->g x σ H λb H2=>tb ⟨Pv (i+1),D.rt,D.nx,Pv (i+1)⟩ b H2) (hd:∀σ H,Pv xs.length σ H->D.nx σ H):iH (fD K a) g tb D σ H:=A3 Pv h0 c hs hd
def forR{lo:Int}(Pv:Nat->St->Hp->Prop)(h0:Pv 0 σ H)
  (hs:∀i σ H,i<n->Pv i σ H->g (.int (lo+i)) σ H λa H2=>tb ⟨Pv (i+1),D.rt,D.nx,Pv (i+1)⟩ a H2) (hd:∀σ H,Pv n σ H->D.nx σ H):iH (fb lo n) g tb D σ H:=EE Pv h0 hs hd
def fB(H:Hp)(o:HO)(R:VK):Prop:=∀p,H p=Vo->R (.ref p) (upd H p o)
section
variable {K:E3} {D:Ends} {σ:St} {H:Hp} {Q:VK} {ta tb tc te:TE} {t u:TS} {c c':TT}
def rd_seq(h:t ⟨u D,D.rt,D.bk,D.ct⟩ σ H):vT t u D σ H:=h
def rd_next(h:D.nx σ H):uS D σ H:=h
def rd_ret(h:te σ H D.rt):sN te D σ H:=h
def rd_asg(h:te σ H λx H1=>g x σ H1 D.nx):me te g D σ H:=h
def rd_drop(h:te σ H λ_ H1=>D.nx σ H1):wU te D σ H:=h
def rd_ifS(h:c σ H λb H1=>if b=true then t D σ H1 else u D σ H1):qR c t u D σ H:=h
def iE(R)(h:c σ H λb H1=>if b=true then t ⟨R,D.rt,D.bk,D.ct⟩ σ H1 else u ⟨R,D.rt,D.bk,D.ct⟩ σ H1)(k:∀a H',R a H'->D.nx a H'):mQ c t u D σ H:=⟨R,h,k⟩
def cC(h:c σ H λb H1=>if b=true then t D σ H1 else u D σ H1):mQ c t u D σ H:=⟨D.nx,h,λ_ _ h=>h⟩
def rd_name{R:St->Hp->Prop}(h:R (σ.set i (Vn v)) H):jY i v σ H R:=h
def rd_var(e:σ[i]?=Vn (Vn v))(h:Q v H):mW i σ H Q:=⟨v,e,h⟩
def rd_c(h:Q v H):tC v σ H Q:=h
def rd_op{r:R2}(h:ta σ H λx H1=>tb σ H1 λy H2=>r x y H2 Q):jk r ta tb σ H Q:=h
def rd_un{r:V->Hp->VK->Prop}(h:ta σ H λx H1=>r x H1 Q):tK r ta σ H Q:=h
def rd_CB{r:List V->Hp->VK->Prop}{a:TA}(h:a σ H λvs H1=>r vs H1 Q):kK r a σ H Q:=h
def rd_cons{a:TA}{R:List V->Hp->Prop}(h:ta σ H λx H1=>a σ H1 λxs H2=>R (x::xs) H2):mh ta a σ H R:=h
def rd_nil{R:List V->Hp->Prop}(h:R [] H):mC σ H R:=h
def rd_wa{r:R2}{i:Nat}{v c:V}(e:σ[i]?=Vn (Vn v))(h:r v c H Q):jk r (mW i) (tC c) σ H Q:=⟨v,e,h⟩
def rd_wb{r:R2}{i:Nat}{v:V}(e:σ[i]?=Vn (Vn v))(h:tb σ H λy H2=>r v y H2 Q):jk r (mW i) tb σ H Q:=⟨v,e,h⟩
def rd_wc{i:Nat}{v:V}{R:List V->Hp->Prop}(e:σ[i]?=Vn (Vn v))(h:R [v] H):mh (mW i) mC σ H R:=⟨v,e,h⟩
def rd_wd{i:Nat}{v:V}{a:TA}{R:List V->Hp->Prop}(e:σ[i]?=Vn (Vn v))(h:a σ H λxs H2=>R (v::xs) H2):mh (mW i) a σ H R:=⟨v,e,h⟩
def rd_we{i:Nat}{v:V}(e:σ[i]?=Vn (Vn v))(h:D.rt v H):sN (mW i) D σ H:=⟨v,e,h⟩
def rd_xa{i:Nat}(h:te σ H λx H1=>u D (σ.set i (Vn x)) H1):vT (me te (jY i)) u D σ H:=h
def rd_xb{r:R2}{c:V}(h:tb σ H λy H2=>r c y H2 Q):jk r (tC c) tb σ H Q:=h
def rd_xc{c:V}{R:List V->Hp->Prop}(h:R [c] H):mh (tC c) mC σ H R:=h
def rd_xd{c:V}{a:TA}{R:List V->Hp->Prop}(h:a σ H λxs H2=>R (c::xs) H2):mh (tC c) a σ H R:=h
def rd_xe{c:V}(h:D.rt c H):sN (tC c) D σ H:=h
def rd_test{R:Bool->Hp->Prop}(h:te σ H λx H'=>∃k,x=.bl k/\R k H'):vO te σ H R:=h
def rd_B{R:Bool->Hp->Prop}(h:te σ H λx H'=>∃k,x=.bl k/\R k H'):tB te σ H R:=h
def rd_exb{R:Bool->Prop}(h:R b):∃k,V.bl b=V.bl k/\R k:=⟨b,rfl,h⟩
def rd_not{R:Bool->Hp->Prop}(h:c σ H λb H1=>R (!b) H1):yo c σ H R:=h
def rd_and{R:Bool->Hp->Prop}(h:c σ H λb H1=>if b=true then c' σ H1 R else R false H1):u4 c c' σ H R:=h
def rd_or{R:Bool->Hp->Prop}(h:c σ H λb H1=>if b=true then R true H1 else c' σ H1 R):sZ c c' σ H R:=h
def rd_andV(h:ta σ H λx H1=>∃k,x=.bl k/\if k=true then tb σ H1 Q else Q (.bl false) H1):xg ta tb σ H Q:=h
def rd_orV(h:ta σ H λx H1=>∃k,x=.bl k/\if k=true then Q (.bl true) H1 else tb σ H1 Q):wI ta tb σ H Q:=h
def rd_notV(h:ta σ H λx H1=>∃k,x=.bl k/\Q (.bl (!k)) H1):qA ta σ H Q:=h
def rd_yes{R:Bool->Hp->Prop}(h:R true H):uV σ H R:=h
def rd_I0{g:Int->Int->V}(h:Q (g i j) H):gX g (.int i) (.int j) H Q:=⟨i,j,rfl,rfl,h⟩
def rd_I{g:Int->Int->V}(a:C i j)(h:Q (g i j) H):rI C g (.int i) (.int j) H Q:=⟨i,j,rfl,rfl,a,h⟩
def rd_U{g:Int->V}(h:Q (g i) H):rU g (.int i) H Q:=⟨i,rfl,h⟩
def rd_EqI(h:Q (.bl (decide (i=j))) H):lD (.int i) (.int j) H Q:=⟨rfl,by
 simp
 exact h⟩
def rd_NeI(h:Q (.bl (!decide (i=j))) H):mT (.int i) (.int j) H Q:=⟨rfl,by
 simp
 exact h⟩
def rd_EqB(h:Q (.bl (i == j)) H):lD (.bl i) (.bl j) H Q:=⟨rfl,by rw[oq];exact h⟩
def aP(e:ag K H p xs)(a:b9 xs i=Vn v)(h:Q v H):mG K (.ref p) (.int i) H Q:=⟨p,xs,i,v,rfl,rfl,e,a,h⟩
def aE(e:ay K H p xs)(a:b9 xs i=Vn v)(h:Q v H):ny K (.ref p) (.int i) H Q:=⟨p,xs,i,v,rfl,rfl,e,a,h⟩
def dE(e:ag K H p xs)(h:Q (.int xs.length) H):lB K [.ref p] H Q:=⟨p,xs,rfl,.inl e,h⟩
def f9(e:ay K H p xs)(h:Q (.int xs.length) H):lB K [.ref p] H Q:=⟨p,xs,rfl,.inr e,h⟩
def lV(e:ag K H p xs)(h:fB H (.tup xs) Q):m7 K [.ref p] H Q:=⟨p,xs,rfl,.inl ⟨e,h⟩⟩
def eJ{n:String}(a:ia H x n)(hb:i8 n T=Vn b)(h:Q (.bl b) H):pW [x,.ty T] H Q:=⟨x,n,T,b,rfl,a,hb,h⟩
def rd_max2(h:Q (.int (if j>i then j else i)) H):vV [.int i,.int j] H Q:=⟨i,j,rfl,h⟩
def rd_call{a:TA}{E:XK}(h:a σ H λvs H1=>sp (vs++[]) H1 Q E):k9 sp [] E a σ H Q:=h
def rd_BM{a:TA}(h:te σ H λx H1=>ij K T x H1/\a σ H1 λxs H2=>r x xs H2 Q):o7 K T r te a σ H Q:=h
def rd_tup{a:TA}(h:a σ H λxs H1=>xs.length<=sizeLine/\fB H1 (.tup xs) Q):mK a σ H Q:=h
def rd_lst{a:TA}(h:a σ H λxs H1=>xs.length<=sizeLine/\fB H1 (.lst xs) Q):uO a σ H Q:=h
def rd_sl{r:V->Option Int->Option Int->Hp->VK->Prop}{tl th:TO}(h:te σ H λx H1=>tl σ H1 λl H2=>th σ H2 λv a=>r x l v a Q):uX r te tl th σ H Q:=h
def rd_noPart{R:Option Int->Hp->Prop}(h:R Vo H):vC σ H R:=h
def rd_part{R:Option Int->Hp->Prop}(h:te σ H λx H1=>∃i,x=.int i/\R (Vn i) H1):qz te σ H R:=h
def rd_exi{R:Int->Prop}(h:R i):∃k,V.int i=V.int k/\R k:=⟨i,rfl,h⟩
def rd_chain{r a:R2}(h:ta σ H λx H1=>tb σ H1 λy H2=>r x y H2 λz b=>∃k,z=.bl k/\(if k=true then tc σ b λc d=>a y c d Q else Q (.bl false) b)):qb r a ta tb tc σ H Q:=h
def rd_comp{a:TI}(h:a σ H λJ H1=>iN J n js g c te σ H1 Q):mS n js a g c te σ H Q:=h
def rd_iL(h:te σ H λx H1=>wM K x H1 R):nH K te σ H R:=h
def rd_iT(h:te σ H λx H1=>tP K x H1 R):nM K te σ H R:=h
def bQ(e:ag K H p xs)(h:R (fG K p) H):wM K (.ref p) H R:=⟨p,rfl,⟨xs,e⟩,h⟩
def jU(e:ay K H p xs)(h:R (fD K p) H):tP K (.ref p) H R:=⟨p,rfl,⟨xs,e⟩,h⟩
def rd_i1{a:TA}(h:a σ H λvs H1=>rf vs H1 R):vx a σ H R:=h
def dz(h1:-(2 ^ 62)<=j/\j<2 ^ 62)(h:R (fb 0 j.toNat) H):rf [.int j] H R:=⟨j,rfl,h1.1,h1.2,h⟩
def rd_i2{a:TA}(h:a σ H λvs H1=>qP vs H1 R):tQ a σ H R:=h
def Ea(h1:-(2 ^ 62)<=i/\i<2 ^ 62/\-(2 ^ 62)<=j/\j<2 ^ 62)(h:R (fb i (j-i).toNat) H):qP [.int i,.int j] H R:=⟨i,j,rfl,h1,h⟩
def rd_for{a:TI}(h:a σ H λJ H1=>iH J g t D σ H1):sO a g t D σ H:=h
def bR(e:H l=Vn (.lst xs))(a:xs.length<sizeLine)(h:Q .non (upd H l (.lst (xs++[y])))):sR (.ref l) [y] H Q:=⟨l,xs,y,rfl,rfl,e,a,h⟩
def cg(e:ag K H p xs):ij K "list" (.ref p) H:=.inl ⟨rfl,xs,e⟩
def rd_sub{a:TE}{w:lS}{R:St->Hp->Prop}(h:to σ H λo H1=>a σ H1 λi H2=>w o i v H2 λb=>R σ b):uj to a w v σ H R:=h
def ke{R:Hp->Prop}(e:H p=Vn (.lst xs))(a:eX xs.length k=Vn j)(h:R (upd H p (.lst (xs.set j v)))):qv (.ref p) (.int k) v H R:=⟨p,xs,k,j,rfl,rfl,e,a,h⟩
def dD{g:fk}{R:St->Hp->Prop}(e:ay K H a xs)(b:xs.length=n)(h:g xs σ H R):mL K n g (.ref a) σ H R:=⟨a,xs,rfl,e,b,h⟩
def rd_gcons{r:List V}{R:St->Hp->Prop}(h:g v σ H λa H'=>b r a H' R):qO g b (v::r) σ H R:=⟨v,r,rfl,h⟩
def rd_gnil{R:St->Hp->Prop}(h:R σ H):vi [] σ H R:=⟨rfl,h⟩
def l4(a:H l=Vn (.lst xs))(c:H b=Vn (.lst zs))(d:xs.length+zs.length<=sizeLine)(h:fB H (.lst (xs++zs)) Q):qN (.ref l) (.ref b) H Q:=⟨l,b,xs,zs,rfl,rfl,a,c,d,h⟩
theorem oV(e:H l=Vn (.lst xs))(b:0<=k/\k<10 ^ 6)(a:xs.length*k.toNat<=sizeLine)(h:fB H (.lst (FU k.toNat xs).flatten) Q):xW (.ref l) (.int k) H Q:=
 ⟨l,k,xs,rfl,rfl,e,by lia,by lia,a,h⟩
def gh(e:ag K H a xs)(h:fB H (.lst (bY xs lo hi)) Q):mU K (.ref a) lo hi H Q:=⟨a,xs,rfl,e,h⟩
def mi(e:ag K H p xs\/ay K H p xs)(f:fI x=true)(fs:xs.all fI=true)(h:Q (.bl (if neg then !hJ x xs else hJ x xs)) H):pz K neg x (.ref p) H Q:=⟨p,xs,rfl,e,f,fs,h⟩
def rd_tTru{R:Bool->Hp->Prop}(h:te σ H λx H'=>∃k,lx K x H' k/\R k H'):xx K te σ H R:=h
def cE{o:HO}{R:VK}(h:∀p H',Ext H H'->H' p=Vn o->H p=Vo->R (.ref p) H'):fB H o R:=λp a=>
 h p _ (λb u e=>by rw[aB (cG e a)];exact e) aF a
def aY{o:HO}(a:H p=Vo):Ext H (upd H p o):=λb u e=>by rw[aB (cG e a)];exact e
def ag.ext(e:Ext H H')(h:ag K H p xs):ag K H' p xs:=by
 rcases h with(h|⟨o,h⟩)|h
 .exact .inl (.inl (e _ _ h))
 .exact .inl (.inr ⟨o,e _ _ h⟩)
 .exact .inr h
end
def eQ{xs:List α}{v:α}(h0:0<=i)(h:xs[i.toNat]?=Vn v):b9 xs i=Vn v:=by
 have:=cN h
 rwa [Fm h0]at this
def jP{i:Int}(h0:0<=i)(h:i<n):eX n i=Vn i.toNat:=by unfold eX;rw[F6 h0,F6 h]
def fA:V->PyData->Prop
 | .non,.none=>True
 | .bl b,.bool c=>b=c
 | .int i,.int j=>i=j
 | .str x,.str y=>x=y/\(PyData.str y).canLay0=true
 | _,_=>False
def bD(H:Hp):Nat->V->PyData->Prop
 | 0,x,d=>fA x d
 | n+1,x,d=>fA x d\/∃a xs ds,x=.ref a/\((H a=Vn (.tup xs)/\d=.tuple ds)\/(H a=Vn (.lst xs)/\d=.list ds))/\Paired (bD H n) xs ds
section
variable {X:Cx} {pins:List (Vb×Obj)} {σ:St} {H:Hp} {s:Vc}
def fA.reads{d:PyData}(h:fA x d)(r:RelV x u):∃as,Reads s.heap u d as:=by
 cases x with
 | non=>cases d<;>first|exact GZ h|(cases r;exact⟨_,.none⟩)
 | bl b=>cases d<;>first|exact GZ h|(cases(h);cases r;exact⟨_,.bool _⟩)
 | int i=>cases d<;>first|exact GZ h|(cases(h);obtain⟨t,rfl⟩:=r;exact⟨_,.int _ t⟩)
 | str z=>cases d<;>first|exact GZ h|(cases(h).1;obtain⟨t,rfl⟩:=r;exact⟨_,.str _ t⟩)
 | _=>cases d<;>exact GZ h
def fA.lay{d:PyData}(h:fA x d):d.canLay0=true/\d.depth=0:=by cases x<;>cases d<;>first|exact GZ h|exact ⟨rfl,rfl⟩|exact ⟨h.2,rfl⟩
theorem o8{R:V->PyData->Prop}(a:∀{x:V} {d:PyData} {u:Va},R x d->RelV x u->∃as,Reads s.heap u d as):∀{xs:List V} {ds:List PyData} {us:List Va},Paired R xs ds->Vals xs us->∃as,ReadsAll s.heap us ds as
 | _,_,_,.nil,.nil=>⟨_,.nil⟩
 | _,_,_,.cons h t,.cons r rt=>by obtain⟨as,ha⟩:=a h r;obtain⟨bs,hb⟩:=o8 a t rt;exact⟨_,.cons ha hb⟩
theorem bD.reads(I:Inv X pins σ H s):∀(n:Nat) {x:V} {d:PyData} {u:Va},bD H n x d->RelV x u->∃as,Reads s.heap u d as
 | 0,_,_,_,h,r=>fA.reads h r
 | n+1,x,d,u,h,r=>by
  rcases h with h|⟨a,xs,ds,rfl,g,f⟩
  .exact fA.reads h r
  .cases r;rcases g with⟨e,rfl⟩|⟨e,rfl⟩
   .obtain⟨b,c,⟨o,ho,i,k,hd⟩,_⟩:=I.tuple (ay.of e);obtain⟨as,ha⟩:=o8 (λ{x d u}=>bD.reads I n) f c;exact⟨_,.tuple ho i hd (by simpa using ha)⟩
   .obtain⟨b,k,c,ho,_⟩:=I.lst e;obtain⟨as,ha⟩:=o8 (λ{x d u}=>bD.reads I n) f c;exact⟨_,.list ho rfl rfl (by simpa using ha)⟩
theorem jI{R:V->PyData->Prop}{m:Nat}(a:∀{x:V} {d:PyData},R x d->d.canLay0=true/\d.depth<=m):∀{xs:List V} {ds:List PyData},Paired R xs ds->LX ds=true/\PyData.depthAll ds<=m
 | _,_,.nil=>⟨rfl,GO _⟩
 | _,_,.cons h t=>by
  obtain⟨h1,h2⟩:=a h;obtain⟨b,c⟩:=jI a t;refine⟨?_,?_⟩
  .simp only[LX,h1,b,Bool.and_self]
  .exact Nat.max_le.mpr ⟨h2,c⟩
theorem bD.lay:∀(n:Nat) {x:V} {d:PyData},bD H n x d->d.canLay0=true/\d.depth<=n
 | 0,_,_,h=>⟨(fA.lay h).1,KI (fA.lay h).2⟩
 | n+1,x,d,h=>by
  rcases h with h|⟨a,xs,ds,rfl,b,c⟩
  .exact⟨(fA.lay h).1,by rw[(fA.lay h).2];exact GO _⟩
  .obtain⟨h1,h2⟩:=jI (λ{x d}=>bD.lay n) c;rcases b with⟨e,rfl⟩|⟨e,rfl⟩
   .exact⟨h1,IW h2⟩
   .exact⟨h1,IW h2⟩
def pV(neg:Bool):R2:=λx y H Q=>∃n m d e,bD H n x d/\bD H m y e/\n<=50/\Q (.bl (if neg then !Gw d e else Gw d e)) H
theorem Af(b:Room k X.A):cb X (compareOp .Eq) (pV false):=by intro pins s σ H x y v u Q I c f h;obtain⟨n,m,d,e,h1,h2,g,q⟩:=h;obtain⟨as,i⟩:=bD.reads I n h1 c;obtain⟨bs,j⟩:=bD.reads I m h2 f;have a:=bD.lay n h1;have l:=bD.lay m h2;have o:=b.units;exact SeqAt.compareEq_reads i j a.1 l.1 (by lia) ⟨.bl _,H,I,rfl,q⟩
theorem yM(b:Room k X.A):cb X (compareOp .NotEq) (pV true):=by intro pins s σ H x y v u Q I c f h;obtain⟨n,m,d,e,h1,h2,g,q⟩:=h;obtain⟨as,i⟩:=bD.reads I n h1 c;obtain⟨bs,j⟩:=bD.reads I m h2 f;have a:=bD.lay n h1;have l:=bD.lay m h2;have o:=b.units;exact SeqAt.compareNe_reads i j a.1 l.1 (by lia) ⟨.bl _,H,I,rfl,q⟩
end
def CM(K:E3):List V->Hp->VK->Prop:=λxs H Q=>∃(p:Vb) (bs:List Bool),xs=[.ref p]/\ag K H p (bs.map V.bl)/\Q (.bl (bs.all id)) H
theorem nS:∀{bs:List Bool} {us:List Va},Vals (bs.map V.bl) us->us=bs.map Value.bool
 | [],_,r=>by cases r;rfl
 | b::bs,_,r=>by
  cases r with
  | cons r t=>cases r;rw[nS t];rfl
def all_range(bs:List Bool):((F2 bs.length).all λi=>bs.getD i false)=bs.all id:=by
 rw[FN,FK,FK];constructor
 .intro h b hb;obtain⟨i,hi,e⟩:=JM.mp hb;have:=h i (GK.mpr hi);rw[GV,E8 hi]at this;rw[<-e];exact this
 .intro h i hi;have a:=GK.mp hi;rw[GV,E8 a];exact h _ (FA a)
def wJ(K:E3)(w:X.calm=true)(x:X.K=K:=by rfl):cS X (.builtin "all") (CM K):=by
 subst x;intro pins s σ H xs us Q I r h;obtain⟨p,bs,rfl,y,q⟩:=h;obtain⟨u,rfl,z⟩:=vals1 r;cases z;obtain⟨d,j,pl,R⟩:=I.list y;have B:=nS j;have hne:p≠s.heap.objs.size:=Ft (by obtain⟨o,n,e,_⟩:=pl;exact E6 e);refine call_all_walk (wpAny_pyIter_list pl.isList ?_);have C:Inv X pins σ H { s with heap:=s.heap.push { cls:=.type "list_iterator",data:=.fields #[.ref p,.int 0 0] } }:=I.kept (t':=s.toks) λb o e=>E4 _ e;have E:=I.fpOk (H':=H) (Fu s.heap.objs.size) I.fresh;refine⟨s.heap.objs.size,_,_,_,_,_,(λi=>bs.getD i false),rfl,LJ (A:=X.A.in1) (I.ok.hd w) _ p hne d.toArray,⟨⟨_,E5 _ rfl,rfl,rfl⟩,?_⟩,?_,λh' tk F=>?_⟩
 .exact pl.isList.push _
 .intro i v s' G S l J;rw[B]at l;have a:(bs.map Value.bool)[i]?=Vn v:=by simpa using l
  rw[E9]at a;cases f:bs[i]? with
  | none=>rw[f]at a;cases a
  | some b=>
   rw[f]at a;cases a;have g:bs.getD i false=b:=by rw[GV,f];rfl
   have c:G (bs.getD i false) s':=J;rw[g]at c;exact wpAny_truthy_bool c
 .obtain⟨L,M,T,N,O,P⟩:=E;have m:=j.length;rw[E7]at m;refine⟨.bl (bs.all id),H,C.turned (λb o hb e=>F b o (by simpa using hb) e) L M N O P,?_,q⟩;show Value.bool _=Value.bool _;rw[Fd,<-m,all_range]
def s9(c:TT)(tb:TS):TS:=λD σ H=>∃(W:Nat->St->Hp->Prop) (R:St->Hp->Prop),(∃m,W m σ H)/\(∀m σ H,W m σ H ->
 c σ H λb H1=>if b=true then ∃N:St->Hp->Prop,(∀a H',N a H'->∃d,d<m/\W d a H')/\tb ⟨N,D.rt,R,N⟩ σ H1 else R σ H1)/\∀σ H,R σ H->D.nx σ H
def fi{c:Vk}{body:List Stmt}(b:PassesOwn (Vg X.prog X.w) X.A X.env X.xe)(d:PT X c tc)(hb:cW X body tb):PS X (.While c body [] pos) (s9 tc tb):=by
 intro pins s σ H D I h;obtain⟨W,R,e,hs,g⟩:=h;refine aM (yE b d hb pins s σ H { D with nx:=R } I ⟨W,e,hs⟩) λf s1 q=>?_;cases f with
 | next=>
  obtain⟨a,H',i,q⟩:=q;exact⟨a,H',i,g a H' q⟩
 | ret v=>exact q
 | brk=>exact q
 | cont=>exact q
section
variable {D:Ends} {σ:St} {H:Hp} {Q:VK} {te:TE} {t:TS} {c:TT}
def eV(W:Nat->St->Hp->Prop)(R)(m)(h0:W m σ H)(hs:∀m σ H,W m σ H->c σ H λb H1=>if b=true then ∃N,(∀a H',N a H'->∃d,d<m/\W d a H')/\t ⟨N,D.rt,R,N⟩ σ H1 else R σ H1)(k:∀σ H,R σ H->D.nx σ H):s9 c t D σ H:=⟨W,R,⟨m,h0⟩,hs,k⟩
def rd_aug{a:jG}(e:σ[i]?=Vn (Vn x))(h:te σ H λy H1=>a x y H1 λz H2=>D.nx (σ.set i (Vn z)) H2):qE i te a D σ H:=⟨x,e,h⟩
def rd_ipI{f:Int->Int->Int}(h:Q (.int (f i j)) H):o5 f (.int i) (.int j) H Q:=⟨i,j,rfl,rfl,h⟩
end
section
variable {prog:Vd} {w:Ve} {A:Vi} {E:Va->Vc->Prop} {s:Vc}
def AR(b:s.heap.IsTupleIter it t i)(gt:s.heap.IsTuple t ys)(c:ys[i]?=Vn x)
  (q:∀h',h'.IsTupleIter it t (i+1)->Hn it s.heap h'->Q x { s with heap:=h' }):Vf (Vg prog w) A (Jr (.ref it)) Q E s:=by
 obtain⟨u,a,d,gd⟩:=id b;obtain⟨v,e,_,k,f⟩:=gt;refine E1 (F1 b.typeIs Hf (wpAny_call_entry Hf b.typeIs JY ?_ (JT _)));show Vf _ _ (field (Value.ref it) 0 >>= _) _ _ s;refine E1 (wpAny_field a gd rfl ?_);refine E1 (wpAny_field a gd rfl ?_);refine E1 (wpAny_seqItems e f ?_);simp only[Fl,c];refine E1 (wpAny_setField a gd (by simp) (E2 ⟨x,rfl,E2 (q _ ?_ (Hb ..))⟩));exact⟨_,G0 _ a (Kc (Ij gd _)),(Obj.cls_mapFields ..).trans d,by rw[Ij gd];simp[rawInt]⟩
def sv(hA:A.handled=Vo)(b:s.heap.IsTupleIter it t i)(gt:s.heap.IsTuple t ys)(d:ys[i]?=Vo)
  (q:∀h' e,JN it s.heap h'->(∃o,h'.get? e=Vn o/\o.cls=.type "StopIteration")->E (.ref e) { s with heap:=h' }):Vf (Vg prog w) A (Jr (.ref it)) Q E s:=by
 obtain⟨u,c,h,gd⟩:=id b;obtain⟨v,f,_,k,g⟩:=gt;refine E1 (F1 b.typeIs Hf (wpAny_call_entry Hf b.typeIs JY ?_ (JT _)));show Vf _ _ (field (Value.ref it) 0 >>= _) _ _ s;refine E1 (wpAny_field c gd rfl ?_);refine E1 (wpAny_field c gd rfl ?_);refine E1 (wpAny_seqItems f g ?_);simp only[Fl,d];refine E1 (wpAny_rule (E1 (wpAny_setField c gd (by simp) ?_)));refine E1 ?_;refine E1 (wpAny_newObj_type ?_);refine E1 (wpAny_of_eq (by first|rfl|(unfold firstArgMember;rfl)) ?_);refine wpAny_newObj_type ?_;refine E1 (wpAny_handled ?_)
 first|rw [hA]|rw [hA]
 refine E1 (E2 (wpAny_throw ?_));exact q _ _ (((Hb ..).extBut.push _).push _) ⟨_,E5 _ rfl,rfl⟩
end
section
variable {X:Cx} {pins:List (Vb×Obj)} {σ:St} {H:Hp} {s:Vc}
def Inv.same(I:Inv X pins σ H { s with heap:=k })(f:dS X pins H it)(b:JN it k h'):Inv X pins σ H { s with heap:=h' }:=by obtain⟨a,d,j,g,h,i⟩:=f;exact Inv.turned (s:={ s with heap:=k }) I (λc o hb e=>b c o hb e) a d g h i
end
def Dn{a b:Va}(gt:IsTup s.heap t ys)(c:s.heap.IsSliceOf sl a b .none)(pl:IsPart a lo)(pu:IsPart b hi)
  (d:HT.aU ys.size 0 lo=0/\HT.aU ys.size ys.size hi=ys.size) (q:Q (.ref t) s):Vf (Vg prog w) A (getItem (.ref t) (.ref sl)) Q E s:=by
 obtain⟨u,e,f,gd⟩:=id c;have g:s.TypeIs (.ref sl) "slice":=⟨u,e,f⟩;unfold getItem
 try with_reducible refine wpAny_holding ?_
 first|refine E1 (E2 ?_)|skip
 refine E1 (wpAny_sequenceKey gt.typeIs (by decide) ?_);refine E1 (F1 gt.typeIs Gn (wpAny_call_entry Gn gt.typeIs entry_tuple_getitem ?_ (args_tuple_getitem _ _)));show Vf _ _ (Jg (Value.ref t) >>= _) _ _ s;refine E1 (tupleItemsOf_ gt ?_);refine E1 (wpAny_typeOf g ?_);refine E1 (HT.rD c pl pu ?_);show Vf _ _ (if(((HT.aU ys.size 0 lo:Nat):Int) == 0 && (1:Int) == 1 && (HT.aU ys.size ys.size hi-HT.aU ys.size 0 lo) == ys.size)=true then _ else _) _ _ s;rw[F6 (by rw[d.1,d.2];simp)];refine E1 (E1 (wpAny_typeOf gt.typeIs (E2 ?_)));refine E1 (wpAny_rule ?_);exact E2 ⟨_,rfl,E2 q⟩
def vQ:V->Option Int->Option Int->Hp->VK->Prop:=λx lo hi H Q=>∃a xs,x=.ref a/\H a=Vn (.tup xs)/\∀p H',Ext H H'->H' p=Vn (.tup (bY xs lo hi))->Q (.ref p) H'
def Ct:jW X vQ:=by
 intro pins s σ H x v g i lo hi sl Q I e hs pl pu h;obtain⟨a,xs,rfl,c,q⟩:=h;by_cases b:HT.aU xs.length 0 lo=0/\HT.aU xs.length xs.length hi=xs.length
 .cases e;obtain⟨d,r,f,l⟩:=I.tuple (ay.of c);have hlen:d.toArray.size=xs.length:=by rw[Fd];exact r.length.symm
  refine⟨"tuple",_,Gn.lookup,f.typeIs,?_⟩;refine Dn f hs pl pu (by rw[hlen];exact b) ⟨.ref a,H,I,rfl,q a H (Ext.rfl' H) ?_⟩;have:bY xs lo hi=xs:=by unfold bY;rw[b.1,b.2,Ji,LY,FD]
  rw[this];exact c
 .exact C6 pins s σ H (.ref a) v g i lo hi sl Q I e hs pl pu ⟨a,xs,rfl,ay.of c,b,λp j=>q p _ (aY j) aF⟩
def Cb{Q:VK}(e:H a=Vn (.tup xs))(h:∀p H',Ext H H'->H' p=Vn (.tup (bY xs lo hi))->Q (.ref p) H'):vQ (.ref a) lo hi H Q:=⟨a,xs,rfl,e,h⟩
mutual
inductive LitE:Vk->TE->Prop
 | non {j pos}:LitE (.Constant .none j pos) (tC .non)
 | bl {b j pos}:LitE (.Constant (.bool b) j pos) (tC (.bl b))
 | int {i j pos}:LitE (.Constant (.int i) j pos) (tC (.int i))
 | str {x j pos}:LitE (.Constant (.str x) j pos) (tC (.str x))
 | tup {es ta k pos}:LitsE es ta->LitE (.Tuple es k pos) (mK ta)
inductive LitsE:List Vk->TA->Prop
 | nil:LitsE [] mC
 | cons {e te es ta}:LitE e te->LitsE es ta->LitsE (e::es) (mh te ta)
end
def gO(c:Vb)(q:Vm):HO:=.ext λh=>h.CodeRec (.ref c) q
def zC(r:h.CodeRec (.ref c) q):bN P w H h c (gO c q):=by
 refine⟨r,?_,λh1 h2 r1 k=>?_⟩
 .obtain⟨c',o,vs,t,e,g,_⟩:=r;cases e;exact⟨o,g⟩
 .obtain⟨c',o,vs,t,e,g,d⟩:=r1;cases e;exact⟨c,o,vs,t,rfl,k o g,d⟩
structure Tab(K:E3)(mg:Vm->Option Va)(base:Vh)(x:Vm)(c T:Vb):Prop where
 tin:Gr K x=Vn (c,T)
 hd:Iq base c T
 blt:base.BuiltinsAt mg T
 gl:Vj≠T
 kin:K.In base
 ns:base.Ns Vj mg
section
variable {P:Vd} {w:Ve} {K:E3} {mg:Vm->Option Va} {base:Vh}
def Cq{T f:Vb}(a:Gr K x=Vn (c,T))(e:K.In base)(G:base.Ns Vj mg)(g:mg x=Vn (.ref f))(h:K.lookup f=Vn o)(hd:o.data=.func fd):fd.code=.ref c:=by
 unfold Gr at a;split at a
 .rename_i f' hf;have d:=HS e G hf;rw[g]at d;cases d;split at a
  .rename_i b;rw[h]at b;cases b;cases hd;split at a
   .rename_i c2 hc;split at a
    .split at a
     .cases a;exact hc
     .cases a
    .cases a
   .cases a
  .cases a
 .cases a
def Dfn.okL{st:Stmt}{T:Vb}(D:Dfn K mg x st ps)(B:Tab K mg base x c T)(S:FnScope N ps (cM st))(len:∀vs H Q E,sp vs H Q E->vs.length=ps.length)
  (a:∀X (j:∃f A outer s H E,X=(fJ dP P w K mg base N x (cM st) f (.ref c) A outer s H E).nox/\Room k X.A) H vs Q E,sp vs H Q E ->
   ∃t,cW X (eW st) t/\t { nx:=λ_ H'=>Q .non H',rt:=Q } (start N vs) H):Cal P w K mg base x (k+1) ps sp:=by
 obtain⟨f,fd,d,F,hb⟩:=D.ex;refine⟨f,fd,d,F.kp,hb,?_⟩;obtain⟨oc,od,kV,doc,pm,an,cdv,ct,osl,rfl,g,b⟩:=F.ex;have e:cdv=.ref c:=Cq B.tin B.kin B.ns d g rfl;subst e;refine tM g b S len λA outer s H vs Q E i hsp=>?_;obtain⟨t,h,q⟩:=a _ ⟨f,A,outer,s,H,E,rfl,i⟩ H vs Q E hsp;exact⟨t,h.nox,q⟩
end
def vf(tabs:List (Vb×Vb))(H:Hp):Prop:=∀q∈tabs,H q.2=Vn (.tbl #[])
def y9{K:E3}{R:Vb}{c:Vc}
  (S:K.In c.heap) (hK:Kr K=true) (l:PySem.W.TabsAt tabs c.heap) (p:c.heap.Ns Vj mg) (hb:c.heap.Ns builtinsNs mb) (T:∀x:Vm,x≠"__name__"->mb x=bootBuiltins x) (J:c.heap.NoLimit)
  (U:∃bm y,mg "__builtins__" = Vn (.ref bm)/\bm≠builtinsNs/\c.heap.get? bm=Vn y/\y.cls=.type "module"/\y.dict=Vn builtinsNs/\y.data=.plain) (hg:c.gens = #[])
  (ha:c.heap.get? a=Vn { cls:=.type "list",data:=.seq vs.toArray }) (hi:IntsAre vs ns) (Z:ns.length<=sizeLine) (hr:Room k callerA)
  (F:∀base,K.In base->base.Ns Vj mg->(∀q∈tabs,Iq base q.1 q.2/\base.BuiltinsAt mg q.2/\Vj≠q.2)->FnOk P w K mg base dP k R fd [x] sp) (hbind:∀s u,BindsTo s fd ⟨[u],[]⟩ [(x,u)])
  (hsp:∀H,vf tabs H->ag K H a (ns.map V.int)->sp [.ref a] H (λv _=>v=.bl true) λ_ _ _=>False) :
  codeAny (Vg P w) callerA (.call (.ref R) ⟨[.ref a],[]⟩) (λr s'=>r=.ok (.ret (.bool true))/\OldK c.heap s'.heap/\s'.os=c.os/\AllBare s'.gens) c:=by
 have rv:=vP hi;have L:=hi.length;have na:∀q∈tabs,a≠q.2:=λq f z=>by have:=(l q f).2;rw[<-z,ha]at this;cases this
 have noT:∀{b:Vb} {o:Obj},c.heap.get? b=Vn o->o≠Ir #[]->b∉tabs.map (·.2):=λ{b o} e n i=>by obtain⟨q,f,rfl⟩:=F7.mp i;have:=(l q f).2;rw[e]at this;exact n (FQ this)
 have core:∀H,vf tabs H->ag K H a (ns.map V.int)->bK P w H c.heap->(∀b,H b≠Vo->b=a\/b∈tabs.map (·.2))->(H a≠Vo->K.lookup a=Vo/\∃o xs,H a=Vn (.frz o (.lst xs))) ->
   codeAny (Vg P w) callerA (.call (.ref R) ⟨[.ref a],[]⟩) (λr s'=>r=.ok (.ret (.bool true))/\OldK c.heap s'.heap/\s'.os=c.os/\AllBare s'.gens) c:=by
  intro H hO hS hok hA hKa;have free:∀{b:Vb} {o:Obj},c.heap.get? b=Vn o->o≠Ir #[]->b≠a->H b=Vo:=λ{b o} e n nb=>by
   cases q:H b with
   | none=>rfl
   | some u=>
    rcases hA b (by rw[q];simp)with z|z
    .exact absurd z nb
    .exact absurd z (noT e n)
  have nsK:∀{b:Vb} {m:Vm->Option Va},c.heap.Ns b m->(gq c.heap H).Ns b m:=λ{b m} ⟨o,es,ep,e,d,r⟩=>⟨o,es,ep,l6 e (free e (λz=>by rw[z]at d;cases d) λz=>by rw[z,ha]at e;cases e;cases(show Data.seq vs.toArray _=Data.dict es ep from d)),d,r⟩;have M:K.In (gq c.heap H):=λb o e=>l6 (S b o e) (by
   by_cases z:b=a
   .subst z;cases q:H b with
    | none=>rfl
    | some u=>
     have:=(hKa (by rw[q];simp)).1;rw[this]at e;cases e
   .refine free (S b o e) (λE=>?_) z;have h2:=FK.mp hK (b,o) (PySem.W.mem_of_lookupK e);subst E;exact absurd (h2) Fp)
  have hM:Mod K mg (gq c.heap H):=⟨M,nsK p,⟨mb,nsK hb,T⟩,let ⟨mc,h1,h2⟩:=J;⟨mc,nsK h1,h2⟩⟩;have e0:Env0 P w K mg (gq c.heap H) callerA [] c H:=⟨rfl,hM,λb o e=>B2 e,KI (y6 _ _),trivial,λb hb=>absurd (show b∈([]:List Vb)from hb) (by simp),hok,.of_eq hg⟩;have G:∀q∈tabs,Iq (gq c.heap H) q.1 q.2/\(gq c.heap H).BuiltinsAt mg q.2/\Vj≠q.2:=λq f=>by
   refine⟨?_,?_,?_⟩
   .obtain⟨o,us,file,tf,flags,tg,X,text,tt,e,O,r⟩:=(l q f).1;exact⟨o,us,file,tf,flags,tg,X,text,tt,l6 e (free e (λz=>by rw[z]at O;cases O) λz=>by rw[z,ha]at e;cases e;simp at O),O,r⟩
   .obtain⟨bm,y,a1,a2,I,N,a5⟩:=U;refine⟨bm,y,a1,a2,λz=>?_,λz=>?_,l6 I (free I (λz=>by rw[z]at N;cases N) λz=>by rw[z,ha]at I;cases I;simp at N),N,a5⟩
    .obtain⟨o,es,ep,e,d,_⟩:=p;rw[<-z,I]at e;cases e;rw[a5.2]at d;cases d
    .have:=(l q f).2;rw[<-z,I]at this;cases this;cases N
   .intro z;obtain⟨o,es,ep,e,d,_⟩:=p;have:=(l q f).2;rw[<-z,e]at this;cases this;cases d
  refine codeAny_mono ((F _ M (nsK p) G).run callerA [] c H ⟨[.ref a],[]⟩ [.ref a] [.ref a] _ _ hr e0 (hbind c (.ref a)) (.cons rfl .nil) (hsp H hO hS)) λr s' h=>?_;cases r with
  | error e=>exact GZ h
  | ok fl=>
   cases fl with
   | next=>exact GZ h
   | brk=>exact GZ h
   | cont=>exact GZ h
   | ret u=>
    obtain⟨v,H',os,bare,un,hok',r',q⟩:=h;have q':v=.bl true:=q;subst q';obtain rfl:u=Value.bool true:=r';have keep:∀b o,c.heap.get? b=Vn o->b∉tabs.map (·.2)->s'.heap.get? b=Vn o:=λb o e nt=>by
     cases q:H b with
     | none=>exact un.keep b o e q (by intro z;exact absurd (show b∈([]:List Vb)from z) (by simp)) (by simp)
     | some u=>
      rcases hA b (by rw[q];simp)with z|z
      .subst z;obtain⟨_,y,xs,z⟩:=hKa (by rw[q];simp);have E:=un.frzs b y _ z;obtain⟨e1,_⟩:=hok b _ z;obtain⟨Q,_⟩:=hok' b _ E;rw[e]at e1;cases e1;exact Q
      .exact absurd z nt
    have grown:∀q∈tabs,∃more,s'.heap.get? q.2=Vn (Ir (#[]++more)):=λq f=>by obtain⟨more,e⟩:=un.tbls q.2 _ (hO q f);exact⟨more,hok' q.2 _ e⟩
    refine⟨rfl,⟨λb o e=>?_,λb o e=>?_⟩,os,bare⟩
    .by_cases i:b∈tabs.map (·.2)
     .obtain⟨q,f,rfl⟩:=F7.mp i;obtain⟨more,g⟩:=grown q f;have Q:=(l q f).2;rw[e]at Q;cases Q;exact .inr (.inl ⟨((l q f).1.tab (l q f).2).isCodeTable,rfl,#[],more,rfl,g⟩)
     .exact .inl (keep b o e i)
    .by_cases i:b∈tabs.map (·.2)
     .obtain⟨q,f,rfl⟩:=F7.mp i;obtain⟨more,g⟩:=grown q f;exact⟨_,g⟩
     .exact⟨o,keep b o e i⟩
 have A:∀(H:Hp) b,b∈tabs.map (·.2)->bN P w H c.heap b (.tbl #[]):=λH b i=>by obtain⟨q,f,rfl⟩:=F7.mp i;exact(l q f).2
 cases Y:K.lookup a with
 | some o=>
  have e:=S a o Y;rw[ha]at e;cases e;have at_:∀b,(if b∈tabs.map (·.2)then Vn (HO.tbl #[])else Vo)=(Vo:Option HO)\/b∈tabs.map (·.2):=λb=>by
   by_cases hb:b∈tabs.map (·.2)
   .exact .inr hb
   .exact .inl (F5 hb)
  have B:a∉tabs.map (·.2):=λi=>by obtain⟨q,f,e⟩:=F7.mp i;exact na q f e.symm
  refine core (λb=>if b∈tabs.map (·.2)then Vn (.tbl #[])else Vo) (λq f=>F6 (F7.mpr ⟨q,f,rfl⟩)) (.inr ⟨_,vs.toArray,_,Y,rfl,rfl,rfl,by rw[Fd,L];exact Z,by simpa using rv⟩) (λb u z=>?_) (λb z=>?_) λz=>absurd (F5 B) z
  .by_cases hb:b∈tabs.map (·.2)
   .have C:=(F6 hb).symm.trans z;cases C;exact A _ b hb
   .have C:=(F5 hb).symm.trans z;cases C
  .rcases at_ b with h|h
   .exact absurd h z
   .exact .inr h
 | none=>
  have B:a∉tabs.map (·.2):=λi=>by obtain⟨q,f,e⟩:=F7.mp i;exact na q f e.symm
  refine core (λb=>if b=a then Vn (.frz { cls:=.type "list",data:=.seq vs.toArray } (.lst (ns.map V.int)))else if b∈tabs.map (·.2)then Vn (.tbl #[])else Vo) (λq f=>?_) (.inl (.inr ⟨{ cls:=.type "list",data:=.seq vs.toArray },F6 rfl⟩)) (λb u z=>?_) (λb z=>?_) λ_=>⟨Y,_,_,F6 rfl⟩
  .show(if q.2=a then _ else _)=_;rw[F5 (Gi (na q f)),F6 (F7.mpr ⟨q,f,rfl⟩)]
  .by_cases hb:b=a
   .have C:=(F6 hb).symm.trans z;cases C;subst hb;exact⟨ha,by rw[E7];exact Z,vs,_,rv,ha⟩
   .have C:=(F5 hb).symm.trans z;by_cases j:b∈tabs.map (·.2)
    .have E:=(F6 j).symm.trans C;cases E;exact A _ b j
    .have E:=(F5 j).symm.trans C;cases E
  .by_cases hb:b=a
   .exact .inl hb
   .by_cases j:b∈tabs.map (·.2)
    .exact .inr j
    .exact absurd ((F5 hb).trans (F5 j)) z
section
variable {prog:Vd} {w:Ve} {A:Vi} {E:Va->Vc->Prop}
theorem uY{it l:Vb}{ys:Array Va}(ne:l≠it):∀(n i:Nat) (s:Vc) (Q:List Va->Vc->Prop),s.heap.IsListIter it l i->s.heap.IsList l ys->i+n<=ys.size ->
  (∀h',h'.IsListIter it l (i+n)->Hn it s.heap h'->Q ((ys.toList.drop i).take n) { s with heap:=h' })->Vf (Vg prog w) A (draw (.ref it) n) Q E s
 | 0,i,s,Q,a,_,_,q=>by exact E2 (by simpa using q s.heap a (Heap.SameBut.refl ..))
 | n+1,i,s,Q,a,gl,le,q=>by
  have lt:i<ys.size:=by lia
  refine E1 (wpAny_pyNext_list_item a gl (x:=ys[i]) (by simp[lt]) λk1 c b=>?_);refine E1 (wpAny_holding (uY ne n (i+1) _ _ c (gl.extBut b.extBut ne) (by lia) λk2 d f=>E2 ?_));have e:ys.toList.drop i=ys[i]::ys.toList.drop (i+1):=by simp[Gj,lt]
  have:=q k2 (by rw[show i+(n+1)=i+1+n by lia];exact d) (b.trans f);rw[e,List.take_succ_cons]at this;exact this
theorem AA{Q:List Va->Vc->Prop}(hA:A.handled=Vo)(gl:s.heap.IsList l ys)
  (q:∀h',JN s.heap.objs.size s.heap h'->Q ys.toList { s with heap:=h' }):Vf (Vg prog w) A (unpackItems (.ref l) ys.size Vo) Q E s:=by
 have lt:l≠s.heap.objs.size:=by obtain⟨o,e,_⟩:=gl;exact Ft (E6 e)
 refine E1 ?_;refine E1 (wpAny_specialOf gl.typeIs slot_list_iter.lookup ?_);refine E2 ?_;refine E1 (wpAny_holding (wpAny_pyIter_list gl ?_));refine E1 (wpAny_holding (uY lt ys.size 0 _ _ ⟨_,E5 _ rfl,rfl,rfl⟩ (gl.push _) (by lia) λk1 c a=>?_));rw[show List.take ys.size (List.drop 0 ys.toList)=ys.toList by rw[Ji];exact Hz (by simp),F5 (by simp)];refine E1 (wpAny_holding (wpAny_pyNext_list_end hA c ((gl.push _).extBut a.extBut lt) (by simp) λk2 d=>?_));exact E2 (q k2 λb o nb e=>d b o nb (a.extBut b o nb (E4 _ e)))
def DW{Q:Unit->Vc->Prop}(hA:A.handled=Vo)(gl:s.heap.IsList l ys)(b:(assignEach es env).length=ys.size)(a:(assignEach es env).findIdx? (·.1)=Vo)
  (h:∀h',JN s.heap.objs.size s.heap h'->Vf (Vg prog w) A (assignInOrder ((assignEach es env).map (·.2)) ys.toList) Q E { s with heap:=h' }):Vf (Vg prog w) A (assign (.Tuple es k pos) env (.ref l)) Q E s:=by
 refine E1 (wpAny_standAt ?_);unfold unpack;rw[b,a];exact E1 (wpAny_holding (AA hA gl h))
end
section
variable {X:Cx} {pos:Pos}
def qm(K:E3)(n:Nat)(t:fk):TG:=λv σ H Q=>∃a xs,v=.ref a/\ag K H a xs/\xs.length=n/\t xs σ H Q
def zP{es:List Vk}{k:Nat}{t:fk}(K:E3)(g:X.calm=true)(h:jq X es t)(i:X.K=K:=by rfl)
  (j:(assignEach es X.env).length=n:=by rfl) (c:(assignEach es X.env).findIdx? (·.1)=Vo:=by rfl):PG X (.Tuple es k pos) (qm K n t):=by
 subst i;intro pins s σ H v u Q I r d;obtain⟨a,xs,l,m,p,d⟩:=d;subst l;cases r;obtain⟨q,f,w,z⟩:=I.list m;refine DW (I.ok.hd g) w.isList (by simp[j,<-p,f.length]) c λh' x=>?_;have y:Inv X pins σ H { s with heap:=h' }:=I.kept (t':=s.toks) λb o e=>x b o (Ft (E6 e)) e;exact h pins _ σ H xs _ Q y (by simpa using f) d
end
def A7{K:E3}{g:fk}{R:St->Hp->Prop}(e:ag K H a xs)(b:xs.length=n)(h:g xs σ H R):qm K n g (.ref a) σ H R:=⟨a,xs,rfl,e,b,h⟩
def rd_par(h:ta σ H λvs H1=>∃v w,vs=[v,w]/\D.nx ((σ.set i (Vn v)).set j (Vn w)) H1):xw i j ta D σ H:=h
def rd_par2{w:V}{R:V->V->Prop}(h:R v w):∃a b,[v,w]=[a,b]/\R a b:=⟨v,w,rfl,h⟩
def Et(H H':Hp):Prop:=∀b o,H b=Vn o->(∀ps,o≠.tbl ps)->H' b=Vn o
def Ext.et(e:Ext H H'):Et H H':=λb o h _=>e b o h
def Et.rfl'(H):Et H H:=λ_ _ h _=>h
def Et.trans(a:Et H H1)(b:Et H1 H2):Et H H2:=λx o h n=>b x o (a x o h n) n
def de(K:E3)(x q:Vm)(line col:Nat)(H:Hp):Prop:=∀c T,Gr K x=Vn (c,T) ->
 H T=Vn (.tbl #[])\/∃c',H T=Vn (.tbl #[rawInt line,rawInt col,.ref c'])/\H c'=Vn (gO c' q)
def de.ext{K:E3}(e:Ext H H')(h:de K x q line col H):de K x q line col H':=λc T a=>by
 rcases h c T a with h|⟨c',h1,h2⟩
 .exact .inl (e _ _ h)
 .exact .inr ⟨c',e _ _ h1,e _ _ h2⟩
section
variable {κ:Type} [DecidableEq κ]
def a7(kvs:List (κ×V))(k:κ):Option V:=(kvs.find? λkv=>decide (kv.1=k)).map (·.2)
def putK(kvs:List (κ×V))(k:κ)(v:V):List (κ×V):=
 if(kvs.any λkv=>decide (kv.1=k))=true then kvs.map (λkv=>if kv.1=k then(kv.1,v)else kv)else kvs++[(k,v)]
def eU{p:κ×V}{r:List (κ×V)}{k:κ}(e:p.1=k):a7 (p::r) k=Vn p.2:=by simp[a7,IF,e]
def eF{p:κ×V}{r:List (κ×V)}{k:κ}(e:¬p.1=k):a7 (p::r) k=a7 r k:=by simp[a7,IF,e]
theorem i5(k:κ):∀kvs:List (κ×V),(kvs.any λkv=>decide (kv.1=k))=(a7 kvs k).isSome
 | []=>rfl
 | p::r=>by
  rw[Ib];by_cases e:p.1=k
  .simp only[eU e,F4 e,Bool.true_or,LK]
  .rw[eF e,F3 e,Bool.false_or];exact i5 k r
theorem uM(k j:κ)(y:V):∀kvs:List (κ×V),a7 (kvs.map λkv=>if kv.1=k then(kv.1,y)else kv) j=(a7 kvs j).map λx=>if j=k then y else x
 | []=>rfl
 | p::r=>by
  have a:=uM k j y r;rw[GY];by_cases h:p.1=k
  .rw[F6 h];by_cases e:p.1=j
   .rw[eU (p:=(p.1,y)) e,eU e,JU,F6 (e.symm.trans h)]
   .rw[eF (p:=(p.1,y)) e,eF e,a]
  .rw[F5 h];by_cases e:p.1=j
   .rw[eU e,eU e,JU,F5 (λz=>h (e.trans z))]
   .rw[eF e,eF e,a]
theorem u9(k j:κ)(y:V):∀kvs:List (κ×V),a7 kvs k=Vo->a7 (kvs++[(k,y)]) j=if j=k then Vn y else a7 kvs j
 | [],_=>by
  by_cases e:k=j
  .rw[F6 e.symm];exact eU e
  .rw[F5 (λz=>e z.symm)];exact eF e
 | p::r,a=>by
  rw[List.cons_append];have b:¬p.1=k:=λz=>by rw[eU z]at a;cases a
  rw[eF b]at a;have c:=u9 k j y r a;by_cases e:p.1=j
  .rw[eU e,eU e,F5 (λz=>b (e.trans z))]
  .rw[eF e,eF e,c]
def fX(kvs:List (κ×V))(k j:κ)(y:V):a7 (putK kvs k y) j=if j=k then Vn y else a7 kvs j:=by
 unfold putK;by_cases a:(kvs.any λkv=>decide (kv.1=k))=true
 .rw[F6 a,uM];rw[i5]at a;by_cases e:j=k
  .obtain⟨x,b⟩:=GR.mp a;rw[F6 e,e,b,JU,F6 rfl]
  .rw[F5 e];cases a7 kvs j with
   | none=>rfl
   | some x=>rw[JU,F5 e]
 .rw[F5 a];refine u9 k j y kvs ?_;rw[i5]at a;cases q:a7 kvs k with
  | none=>rfl
  | some x=>rw[q]at a;exact(a rfl).elim
theorem jX(kvs:List (κ×V))(k:κ)(v:V):(putK kvs k v).length<=kvs.length+1:=by
 unfold putK;split
 .rw[E7];lia
 .rw[Fs,FC,List.length_nil];lia
def iw{kvs:List (κ×V)}{k:κ}(v:V)(h:a7 kvs k=Vo):putK kvs k v=kvs++[(k,v)]:=by unfold putK;rw[i5,h];exact F5 (by decide)
def fL.isSome_eq{o:Option V}{u:Option Va}(r:fL o u):o.isSome=u.isSome:=by
 cases o with
 | none=>cases u with
  | none=>rfl
  | some _=>exact(r).elim
 | some _=>cases u with
  | none=>exact(r).elim
  | some _=>rfl
def KV.val{kvs:List (κ×V)}{vs:List (κ×Va)}(r:KV kvs vs)(k:κ):fL (a7 kvs k) (valueAt vs k):=by
 induction r with
 | nil=>exact True.intro
 | @cons p q ps qs h t a=>
  obtain⟨h1,h2⟩:=h;by_cases e:p.1=k
  .have e':=h1.symm.trans e;have b:valueAt (q::qs) k=Vn q.2:=by simp[valueAt,IF,e']
   rw[eU e,b];exact h2
  .have e':¬q.1=k:=λz=>e (h1.trans z);have b:valueAt (q::qs) k=valueAt qs k:=by simp[valueAt,IF,e']
   rw[eF e,b];exact a
theorem KV.any{kvs:List (κ×V)}{vs:List (κ×Va)}(r:KV kvs vs)(k:κ):(kvs.any λkv=>decide (kv.1=k))=vs.any λkv=>decide (kv.1=k):=by
 induction r with
 | nil=>rfl
 | cons h t a=>rw[Ib,Ib,a,h.1]
def KV.repl{kvs:List (κ×V)}{vs:List (κ×Va)}(r:KV kvs vs)(k:κ){y:V}(a:RelV y u):
  KV (kvs.map λkv=>if kv.1=k then(kv.1,y)else kv) (vs.map λkv=>if kv.1=k then(kv.1,u)else kv):=by
 induction r with
 | nil=>exact .nil
 | @cons p q ps qs h t b=>
  rw[GY,GY];refine .cons ?_ b;obtain⟨h1,h2⟩:=h;by_cases e:p.1=k
  .rw[F6 e,F6 (h1.symm.trans e)];exact⟨h1,a⟩
  .rw[F5 e,F5 (λz=>e (h1.trans z))];exact⟨h1,h2⟩
def KV.put{kvs:List (κ×V)}{vs:List (κ×Va)}(r:KV kvs vs)(k:κ){y:V}(a:RelV y u):KV (putK kvs k y) (stored vs k u):=by
 unfold putK stored;rw[r.any k];by_cases e:(vs.any λkv=>decide (kv.1=k))=true
 .rw[F6 e,F6 e];exact r.repl k a
 .rw[F5 e,F5 e];exact Gz r ⟨rfl,a⟩
def KV.keys{kvs:List (κ×V)}{vs:List (κ×Va)}(r:KV kvs vs):kvs.map (·.1)=vs.map (·.1):=by
 induction r with
 | nil=>rfl
 | cons h t a=>rw[GY,GY,a,h.1]
theorem KV.length{kvs:List (κ×V)}{vs:List (κ×Va)}(r:KV kvs vs):kvs.length=vs.length:=F9 r
end
def iK(r:RelV (kV k) u):(bS P w).is k u=true:=by
 cases k with
 | inl i=>obtain⟨t,e⟩:=(show ∃t,u=Value.int i t from r);subst e;exact Cy P w i t
 | inr x=>obtain⟨t,e⟩:=(show ∃t,u=Value.str x t from r);subst e;exact og P w x t
theorem oD{P:Vd}{w:Ve}:∀{ks:List Key} {us:List Va},Vals (ks.map kV) us->ItemsAre (bS P w) ks us
 | [],_,r=>by cases r;exact .nil
 | k::ks,_,r=>by
  cases r with
  | cons h t=>exact .cons (iK h) (oD t)
abbrev KT(H:Hp):List (List Key×V)->List (List Key×Vb×Va)->Prop:=Paired λp q=>p.1=q.1/\H q.2.1=Vn (.tup (p.1.map kV))/\RelV p.2 q.2.2
def KT.val{xs:List (List Key×Vb×Va)}(r:KT H kvs xs)(k):fL (a7 kvs k) ((atKey xs k).map (·.2)):=by
 induction r with
 | nil=>exact True.intro
 | @cons p q ps qs h t a=>
  obtain⟨h1,_,h2⟩:=h;by_cases e:p.1=k
  .have e':=h1.symm.trans e;have b:atKey (q::qs) k=Vn q.2:=by simp[atKey,IF,e']
   rw[eU e,b];exact h2
  .have e':¬q.1=k:=λz=>e (h1.trans z);have b:atKey (q::qs) k=atKey qs k:=by simp[atKey,IF,e']
   rw[eF e,b];exact a
def KT.repl{xs:List (List Key×Vb×Va)}(r:KT H kvs xs)(k)(a:RelV y u):
  KT H (kvs.map λkv=>if kv.1=k then(kv.1,y)else kv) (xs.map (putAt k u)):=by
 induction r with
 | nil=>exact .nil
 | @cons p q ps qs h t b=>
  rw[GY,GY];refine .cons ?_ b;obtain⟨h1,h2,c⟩:=h;unfold putAt;by_cases e:p.1=k
  .rw[F6 e,F6 (h1.symm.trans e)];exact⟨h1,h2,a⟩
  .rw[F5 e,F5 (λz=>e (h1.trans z))];exact⟨h1,h2,c⟩
def KT.put{xs:List (List Key×Vb×Va)}(r:KT H kvs xs)(k)(hb:H b=Vn (.tup (k.map kV)))(a:RelV y u):
  KT H (putK kvs k y) (storedH xs k b u):=by
 have e:(kvs.any λkv=>decide (kv.1=k))=(atKey xs k).isSome:=by rw[i5,(r.val k).isSome_eq,Jw]
 unfold putK storedH;rw[e];by_cases q:(atKey xs k).isSome=true
 .rw[F6 q,F6 q];exact r.repl k a
 .rw[F5 q,F5 q];exact Gz r ⟨rfl,hb,a⟩
def KT.keeps{xs:List (List Key×Vb×Va)}(r:KT H kvs xs)(a:∀b ys,H b=Vn (.tup ys)->H' b=Vn (.tup ys)):KT H' kvs xs:=
 Paired.mapP r λ_ _ z=>⟨z.1,a _ _ z.2.1,z.2.2⟩
section
variable {P:Vd} {w:Ve} {H:Hp} {h:Vh} {a:Vb}
def lG{u:HO}(ok:bK P w H h)(e:Rd H a u):bN P w H h a u:=e.ok ok
def jO{kvs:List (Key×V)}(ok:bK P w H h)(e:Rd H a (.dK kvs)):kvs.length<=sizeLine/\(a == sysModules)=false/\∃vs,KV kvs vs/\h.DictOf (bS P w) a vs:=
 show bN P w H h a (.dK kvs)from lG ok e
def yQ{kvs:List (Key×V)}(ok:bK P w H h)(e:H a=Vn (.dK kvs)):kvs.length<=sizeLine/\(a == sysModules)=false/\∃vs,KV kvs vs/\h.DictOf (bS P w) a vs:=jO ok (.inl e)
def iM(ok:bK P w H h)(e:H a=Vn (.tup (ks.map kV))):(tupleKind (bS P w)).is h ks a:=by obtain⟨_,b,r,o,h1,h2,n,c⟩:=(show bN P w H h a (.tup (ks.map kV))from ok a _ e);exact⟨o,b.toArray,n,h1,h2,c,by simpa using oD r⟩
def jL(ok:bK P w H h)(e:Rd H a (.dT kvs)):kvs.length<=sizeLine/\(a == sysModules)=false ∧
  ∃xs,KT H kvs xs/\h.DictOfH (tupleKind (bS P w)) a xs:=by
 obtain⟨z,y,xs,r,o,es,ep,h1,h2,d,f,g⟩:=(show bN P w H h a (.dT kvs)from lG ok e);refine⟨z,y,xs,r,o,es,ep,h1,h2,d,f,λx b=>?_,g⟩;have all:∀{l:List (List Key×V)} {m:List (List Key×Vb×Va)},KT H l m->∀x∈m,(tupleKind (bS P w)).is h x.1 x.2.1:=by
  intro l m q;induction q with
  | nil=>intro x b;exact nomatch b
  | @cons p q ps qs c t i=>
   intro x b;rcases Fo.mp b with e|b
   .subst e;exact iM ok (by rw[<-c.1];exact c.2.1)
   .exact i x b
 exact all r x b
def rL(ok:bK P w H h)(e:H a=Vn (.dT kvs)):kvs.length<=sizeLine/\(a == sysModules)=false ∧
  ∃xs,KT H kvs xs/\h.DictOfH (tupleKind (bS P w)) a xs:=jL ok (.inl e)
end
def bw(H:Hp)(a:Vb)(y:V)(r:Option V):Prop:=
 (∃kvs k,Rd H a (.dK kvs)/\y=kV k/\r=a7 kvs k)\/∃kvs k b,Rd H a (.dT kvs)/\y=.ref b/\H b=Vn (.tup (k.map kV))/\r=a7 kvs k
def cX(H:Hp)(a:Vb)(y v:V)(H':Hp):Prop:=
 (∃kvs k,H a=Vn (.dK kvs)/\y=kV k/\kvs.length<sizeLine/\H'=upd H a (.dK (putK kvs k v))) ∨
 ∃kvs k b,H a=Vn (.dT kvs)/\y=.ref b/\H b=Vn (.tup (k.map kV))/\kvs.length<sizeLine/\H'=upd H a (.dT (putK kvs k v))
theorem bw.k{H:Hp}{a:Vb}{kvs:List (Key×V)}{k:Key}(e:H a=Vn (.dK kvs)):bw H a (kV k) (a7 kvs k):=.inl ⟨kvs,k,.inl e,rfl,rfl⟩
def bw.t{k:List Key}(e:H a=Vn (.dT kvs))(c:H b=Vn (.tup (k.map kV))):bw H a (.ref b) (a7 kvs k):=.inr ⟨kvs,k,b,.inl e,rfl,c,rfl⟩
theorem cX.k{H:Hp}{a:Vb}{kvs:List (Key×V)}{k:Key}{v:V}(e:H a=Vn (.dK kvs))(b:kvs.length<sizeLine):cX H a (kV k) v (upd H a (.dK (putK kvs k v))):=.inl ⟨kvs,k,e,rfl,b,rfl⟩
def cX.t{k:List Key}(e:H a=Vn (.dT kvs))(c:H b=Vn (.tup (k.map kV)))(d:kvs.length<sizeLine):
  cX H a (.ref b) v (upd H a (.dT (putK kvs k v))):=.inr ⟨kvs,k,b,e,rfl,c,d,rfl⟩
section
variable {X:Cx} {pins:List (Vb×Obj)} {σ:St} {H:Hp} {s:Vc} {a:Vb} {y v:V} {u r:Va} {o:Option V} {A:Vi} {E:Va->Vc->Prop}
def Inv.big(I:Inv X pins σ H s):sysModules<s.heap.objs.size:=by have h:Vj<s.heap.objs.size:=(I.mod.glob.keeps I.bk).lt;exact LZ (by decide) h
def Cj(n:A.units+1<cLine)(I:Inv X pins σ H s)(g:bw H a y (Vn v))(m:RelV y u)(h:∀d s',Inv X pins σ H s'->RelV v d->Q d s'):
  Vf (Vg X.prog X.w) A (getItem (.ref a) u) Q E s:=by
 rcases g with⟨kvs,k,e,f,l⟩|⟨kvs,k,b,e,f,q,l⟩
 .subst f;obtain⟨z,hd,vs,rel,dd⟩:=jO I.hok e;obtain⟨d,i,c⟩:=fL.some_of (v:=v) (o:=valueAt vs k) (by rw[l];exact rel.val k);exact wpAny_getItem_of (iK m) dd.mapOf i (h d _ (I.tok _) c)
 .subst f;cases(m);obtain⟨z,hd,xs,rel,dd⟩:=jL I.hok e;obtain⟨d,i,c⟩:=fL.some_of (v:=v) (o:=(atKey xs k).map (·.2)) (by rw[l];exact rel.val k);obtain⟨p,r,j⟩:=Fj.mp i;refine wpAny_getItem_heap (tupleKind_room_in1 n) (iM I.hok q) dd r ?_;rw[j];exact h d _ (I.tok _) c
def A5(f:A.units+1<cLine)(I:Inv X pins σ H s)(g:bw H a y o)(d:RelV y u)(h:∀s',Inv X pins σ H s'->Q (.bool o.isSome) s'):
  Vf (Vg X.prog X.w) A (compareOp .In u (.ref a)) Q E s:=by
 rcases g with⟨kvs,k,e,c,l⟩|⟨kvs,k,b,e,c,i,l⟩
 .subst c;obtain⟨z,hd,vs,rel,dd⟩:=jO I.hok e;refine wpAny_in_of (iK d) hd dd.mapOf ?_;rw[<-(rel.val k).isSome_eq,<-l];exact h _ (I.tok _)
 .subst c;cases(d);obtain⟨z,hd,xs,rel,dd⟩:=jL I.hok e;refine wpAny_in_heap (tupleKind_room_in1 f) (iM I.hok i) hd dd ?_;have q:=(rel.val k).isSome_eq;rw[Jw]at q;rw[<-q,<-l];exact h _ (I.tok _)
def B6(f:A.units+1<cLine)(I:Inv X pins σ H s)(g:bw H a y o)(d:RelV y u)(h:∀s',Inv X pins σ H s'->Q (.bool (!o.isSome)) s'):
  Vf (Vg X.prog X.w) A (compareOp .NotIn u (.ref a)) Q E s:=by
 rcases g with⟨kvs,k,e,c,l⟩|⟨kvs,k,b,e,c,i,l⟩
 .subst c;obtain⟨z,hd,vs,rel,dd⟩:=jO I.hok e;refine wpAny_notIn_of (iK d) hd dd.mapOf ?_;rw[<-(rel.val k).isSome_eq,<-l];exact h _ (I.tok _)
 .subst c;cases(d);obtain⟨z,hd,xs,rel,dd⟩:=jL I.hok e;refine wpAny_notIn_heap (tupleKind_room_in1 f) (iM I.hok i) hd dd ?_;have q:=(rel.val k).isSome_eq;rw[Jw]at q;rw[<-q,<-l];exact h _ (I.tok _)
def lH{c:HO}(I:Inv X pins σ H s)(d:ju (H a))(hs:Hn a s.heap h')(f:∃q,h'.get? a=Vn q)(new:bN X.prog X.w (upd H a c) h' a c):
  Inv X pins σ (upd H a c) { s with heap:=h',toks:=t' }:=
 I.write d (.inl rfl) (λb q hb z=>(hs.2 b hb).trans z) f new
def Ae{kvs:List (Key×V)}(z:kvs.length<=sizeLine)(hd:(a == sysModules)=false)(rel:KV kvs vs)(dd:h'.DictOf (bS P w) a vs):
  bN P w H' h' a (.dK kvs):=⟨z,hd,vs,rel,dd⟩
theorem Es{Q:Unit->Vc->Prop}(C:A.units+1<cLine)(I:Inv X pins σ H s)(g:cX H a y v H')(o:RelV y u)(p:RelV v r)(h:∀s',Inv X pins σ H' s'->Q () s'):
  Vf (Vg X.prog X.w) A (setItem (.ref a) u r) Q E s:=by
 rcases g with⟨kvs,k,e,i,l,j⟩|⟨kvs,k,b,e,i,x,l,j⟩
 .subst i j;obtain⟨z,hd,vs,rel,dd⟩:=yQ I.hok e;have m:vs.length<=sizeLine:=by rw[<-rel.length];exact z
  have n:(putK kvs k v).length<=sizeLine:=by have:=jX kvs k v;lia
  refine wpAny_setItem_pairs (hsz:=m) (iK o) dd λh' d hs=>h _ ?_;have F:∃q,h'.get? a=Vn q:=let ⟨q,_,_,f,_⟩:=d;⟨q,f⟩;exact lH I (by rw[e];exact True.intro) hs F (Ae n hd (rel.put k p) d)
 .subst i j;cases(o);obtain⟨z,hd,xs,rel,dd⟩:=rL I.hok e;have m:xs.length<=sizeLine:=by rw[<-F9 rel];exact z
  have n:(putK kvs k v).length<=sizeLine:=by have:=jX kvs k v;lia
  refine wpAny_setItem_heap (hsz:=m) (tupleKind_room_in1 C) (iM I.hok x) dd λh' d hs=>h _ ?_;obtain⟨q,es,ep,f,h2,G,J,_,L⟩:=d;refine lH I (by rw[e];exact True.intro) hs ⟨q,f⟩ ⟨n,hd,_,(rel.put k x p).keeps λc ys B=>?_,q,es,ep,f,h2,G,J,L⟩;rw[aB (bp B e (λz=>nomatch z))];exact B
end
def nA(i:Vk):Prop:=∀a b,subscripted i false a b=operate [a,b] (getItem a b)
def wY{id:String}
  (j:typeLookup (.type T) "__getitem__" = pure (Vn (.builtin id))) (hs:nA slice)
  (h:Vf (Vg prog w) A (eval value env) (λo c=>Vf (Vg prog w) A (eval slice env) (λi a=>a.TypeIs o T/\Vf (Vg prog w) A (getItem o i) Q E a) E c) E s) :
  Vf (Vg prog w) A (eval (.Subscript value slice pos) env) Q E s:=by
 refine Subscript_ (wpAny_mono h (λo c e=>wpAny_mono e (λi a b=>?_) λ_ _ x=>x) λ_ _ x=>x);obtain⟨g,b⟩:=b;refine E1 ?_;refine E1 (wpAny_specialOf g j ?_);have fin:Vf (Vg prog w) A (subscripted slice false o i) (λr d=>Vf (Vg prog w) A (letTemporaryGo value o r >>= λ_=>pure r) Q E d) E a:=by rw[hs o i];exact wpAny_operating (wpAny_mono b (λr d f=>E1 (wpAny_letTemporaryGo (E2 f))) λ_ _ x=>x)
 first
  | exact E2 (E1 fin)
  | exact E1 (E2 (E1 fin))
  | exact E1 fin
def AK{o:Option V}(I:Inv X pins σ H s)(g:bw H a y o):s.TypeIs (.ref a) "dict":=by
 rcases g with⟨kvs,k,e,_,_⟩|⟨kvs,k,b,e,_,_,_⟩
 .obtain⟨_,_,vs,_,dd⟩:=jO I.hok e;exact dd.typeIs
 .obtain⟨_,_,xs,_,dd⟩:=jL I.hok e;exact dd.typeIs
def sk(td ty:TE):TE:=λσ H Q=>td σ H λx H1=>ty σ H1 λy H2=>∃a v,x=.ref a/\bw H2 a y (Vn v)/\Q v H2
def uG(ty td:TE):TE:=λσ H Q=>ty σ H λy H1=>td σ H1 λx H2=>∃a o,x=.ref a/\bw H2 a y o/\Q (.bl o.isSome) H2
def xC(ty td:TE):TE:=λσ H Q=>ty σ H λy H1=>td σ H1 λx H2=>∃a o,x=.ref a/\bw H2 a y o/\Q (.bl (!o.isSome)) H2
def qh(td ty tv:TE):TS:=λD σ H=>tv σ H λv H1=>td σ H1 λx H2=>ty σ H2 λy c=>∃a b,x=.ref a/\cX c a y v b/\D.nx σ b
section
variable {X:Cx} {o i e value:Vk} {pos pos' tpos:Pos} {td ty tv:TE}
def cz(d:X.A.units+1<cLine)(ho:PE X o td)(hi:PE X i ty)(hs:nA i):PE X (.Subscript o i pos) (sk td ty):=by intro pins s σ H Q I h;refine wY Js.lookup hs (aM (ho pins s σ H _ I h) λu s1 ⟨x,H1,e,f,j⟩=>aM (hi pins s1 σ H1 _ e j) λp s2 ⟨y,H2,c,l,a,v,ex,g,m⟩=>?_);subst ex;obtain rfl:u=Value.ref a:=f;exact⟨AK c g,Cj d c g l λq r n b=>⟨v,H2,n,b,m⟩⟩
def xN(b:X.A.units+1<cLine)(hi:PE X i ty)(ho:PE X o td):PC X .In i o (uG ty td):=by intro pins s σ H Q I h;refine aM (hi pins s σ H _ I h) λp s1 ⟨y,H1,c,d,e⟩=>aM (ho pins s1 σ H1 _ c e) λu s2 ⟨x,H2,f,j,a,l,ex,g,m⟩=>?_;subst ex;obtain rfl:u=Value.ref a:=j;exact A5 b f g d λq n=>⟨.bl l.isSome,H2,n,rfl,m⟩
def gN(b:X.A.units+1<cLine)(hi:PE X i ty)(ho:PE X o td):PC X .NotIn i o (xC ty td):=by intro pins s σ H Q I h;refine aM (hi pins s σ H _ I h) λp s1 ⟨y,H1,c,d,e⟩=>aM (ho pins s1 σ H1 _ c e) λu s2 ⟨x,H2,f,j,a,l,ex,g,m⟩=>?_;subst ex;obtain rfl:u=Value.ref a:=j;exact B6 b f g d λq n=>⟨.bl (!l.isSome),H2,n,rfl,m⟩
def fg(b:X.A.units+1<cLine)(ho:PE X o td)(hi:PE X i ty)(c:PE X value tv)(hs:swapsWith value (Vn (.Subscript o i pos')) pos.line X.env=pure false):
  PS X (.Assign [.Subscript o i pos'] value pos) (qh td ty tv):=by
 intro pins s σ H D I h;refine wpAny_Assign_Subscript (aM (c pins s σ H _ I h) λr s1 ⟨v,H1,d,e,f⟩=>aM (ho pins s1 σ H1 _ d f) λu s2 ⟨x,H2,j,l,m⟩=>aM (hi pins s2 σ H2 _ j m) λB C ⟨y,E,n,p,a,q,ex,g,w⟩=>?_) hs;subst ex;obtain rfl:u=Value.ref a:=l;exact Es b n g p e λF z=>⟨σ,q,z,w⟩
end
def Cd(h:Vh)(hb:sysModules<h.objs.size):bN P w H (h.push { cls:=.type "dict",data:=.dict #[] }) h.objs.size (.dK []):=
 ⟨GO _,beq_eq_false_iff_ne.mpr (Gi (Ft hb)),[],.nil,Heap.DictOf.new h⟩
def sW(h:Vh)(hb:sysModules<h.objs.size):bN P w H (h.push { cls:=.type "dict",data:=.dict #[] }) h.objs.size (.dT []):=
 ⟨GO _,beq_eq_false_iff_ne.mpr (Gi (Ft hb)),[],.nil,_,#[],0,E5 _ rfl,⟨rfl,rfl,rfl⟩,rfl,rfl,Gq⟩
def zL:TE:=λ_ H Q=>∀p,H p=Vo->Q (.ref p) (upd H p (.dK []))
def B0:TE:=λ_ H Q=>∀p,H p=Vo->Q (.ref p) (upd H p (.dT []))
section
variable {X:Cx} {pos:Pos}
def xG:PE X (.Dict [] [] pos) zL:=λpins s σ H Q I h=>
 wpAny_Dict_empty ⟨.ref s.heap.objs.size,_,I.laid (λ_ _ q=>E4 _ q) (Fu _) (Cd s.heap I.big),rfl,h _ (I.hok.fresh (Fu _))⟩
def jz:PE X (.Dict [] [] pos) B0:=λpins s σ H Q I h=>
 wpAny_Dict_empty ⟨.ref s.heap.objs.size,_,I.laid (λ_ _ q=>E4 _ q) (Fu _) (sW s.heap I.big),rfl,h _ (I.hok.fresh (Fu _))⟩
end
end L2
namespace Tb
open PySem
end Tb
namespace Tb
open PySem
end Tb
namespace L2
open PySem PySem.Spec PyProof.Rows
namespace SF
end SF
end L2
namespace PyProof.Rows
open PySem
end PyProof.Rows
namespace L2
open PySem PySem.Spec PyProof.Rows
section
variable {X:Cx} {pins:List (Vb×Obj)} {σ:St} {H:Hp} {s:Vc}
def Inv.turnedNew{L:List Vb}{o:HO}(I:Inv X pins σ H s)(k:∀b u,b∉L->s.heap.get? b=Vn u->h'.get? b=Vn u)(f:∀b∈L,dS X pins H b)
  (new:bN X.prog X.w (upd H s.heap.objs.size o) h' s.heap.objs.size o):Inv X pins σ (upd H s.heap.objs.size o) { s with heap:=h',toks:=t' }:=by
 have d:H s.heap.objs.size=Vo:=I.hok.fresh (Fu _);have nin:∀b u,H b=Vn u->b∉L:=λb u e z=>by rw[(f b z).1]at e;cases e
 have up:∀b u,H b=Vn u->upd H s.heap.objs.size o b=Vn u:=λb u e=>by rw[aB (cG e d)];exact e
 refine I.step (λb hb=>?_) (λb u _ _ a e _=>k b u a e) (λb u _ _ a e _=>⟨u.slots,k b u a e⟩) (λb u _ e n=>?_) (λb u a e=>⟨u,k b u a e⟩) (λb xs e=>up b _ e) (λb u v e=>up b _ e) (λb ps e=>⟨#[],by rw[up b _ e];simp⟩) (λm g=>?_) (λb u e=>?_) I.bare
 .obtain⟨x,h,y,i,j,l⟩:=f b hb;exact⟨i,h,j,l⟩
 .rw[aB (Ft (E6 e))];exact n
 .obtain⟨u,es,ep,p,r⟩:=g;exact⟨u,es,ep,k _ u (λz=>(f _ z).2.1 rfl) p,r⟩
 .by_cases hb:b=s.heap.objs.size
  .subst hb;rw[aF]at e;cases e;exact new
  .rw[aB hb]at e;refine(I.hok b u e).stay (λc v a q=>k c v ?_ q) (λc q=>up c _ q) λc xs q=>up c _ q;rcases a with z|z
   .rw[z];exact nin b u e
   .exact nin c _ z
end
def EA(hA:A.handled=Vo)(it t)(ne:t≠it)(ys):Draws P w A it [it,t] ys.size (λi v=>ys[i]?=Vn v) (λi h=>h.IsTupleIter it t i/\h.IsTuple t ys) where
 live:=λi h st=>by obtain⟨⟨o,ho,_⟩,_⟩:=st;exact⟨o,ho⟩
 frame:=λi h h' st k=>by obtain⟨⟨o,ho,r⟩,⟨u,a,q⟩⟩:=st;exact⟨⟨o,k it (by simp) o ho,r⟩,⟨u,k t (by simp) u a,q⟩⟩
 item:=λi s Q E hi st c=>AR st.1 st.2 (x:=ys[i]) (by simp[hi]) λh' d b=>c _ h' s.toks (by simp[hi]) ⟨d,by obtain⟨u,a,q⟩:=st.2;exact⟨u,(b.2 t ne).trans a,q⟩⟩ b
 done:=λs Q E st e=>sv hA st.1 st.2 (by simp) e
abbrev kO(h:Vh)(a:Vb):Vh:=h.push { cls:=.type "tuple_iterator",data:=.fields #[.ref a,.int 0 0] }
abbrev mY(h:Vh)(a:Vb):Vh:=(kO h a).push { cls:=.type "enumerate",data:=.fields #[.none,.bool false,.ref h.objs.size,rawInt 0,.none,.none] }
open AutoSeq1 (wpAny_loadPart')in
def AE(a:Vb)(ys:Array Va)(h:Obj):Meets (Builtin.«enumerate.__new__» ⟨[.type "enumerate",.ref a],[]⟩) (λ_ R s=>s.heap.get? a=Vn h/\s.heap.IsTuple a ys/\R (.ok (.ret (.ref (kO s.heap a).objs.size))) { s with heap:=mY s.heap a }):=
 .of_wp λprog w A R s q=>by
  obtain⟨i,g,d,tk,os⟩:=s;obtain⟨ga,gt,q⟩:=q;have b:=sub_enumerate;obtain⟨o,go,e,n,gd⟩:=id gt;obtain⟨j,l,m,sl⟩:=o;simp only at e gd;subst e gd;have f:Heap.IsTuple (Shared.heap ⟨i,g,d,tk,os⟩) a ys:=gt
  wp_walk using wpAny_loadPart' go
  refine wpAny_stack_any λst=>E2 ?_;split
  .rename_i c _ _ _ _ _;cases(c == Value.type "enumerate")<;>(wp_walk using wpAny_loadPart' go,wpAny_pyIter_tuple f;exact⟨_,rfl,q⟩)
  .wp_walk using wpAny_loadPart' go,wpAny_pyIter_tuple f
   exact⟨_,rfl,q⟩
def DM(gt:s.heap.IsTuple a ys)
  (q:∀h',IsEnum h' (s.heap.objs.size+1) s.heap.objs.size 0 .none->h'.IsTupleIter s.heap.objs.size a 0->(∀c o,s.heap.get? c=Vn o->h'.get? c=Vn o)->Q (.ref (s.heap.objs.size+1)) { s with heap:=h' }) :
  Vf (Vg prog w) A (call (.type "enumerate") [.ref a]) Q E s:=by
 obtain⟨o,go,r⟩:=id gt;refine callType_new F.called_enumerate (by decide) (KL _) (Kd _) (λb=>F.args_object_init_2 b _) Ke (AE a ys o) ⟨go,gt,?_⟩;have d:(kO s.heap a).objs.size=s.heap.objs.size+1:=Gx ..;have k2:(mY s.heap a).get? (kO s.heap a).objs.size=Vn _:=E5 _ rfl;have k1:(mY s.heap a).get? s.heap.objs.size=Vn _:=E4 _ (E5 _ rfl);rw[d]at k2 ⊢;exact⟨⟨_,k2,rfl⟩,q _ k2 ⟨_,k1,rfl,rfl⟩ λc o x=>E4 _ (E4 _ x)⟩
def iP(K:E3)(a:Vb):It:=⟨(fD K a).go,λi H x H'=>∃p v,x=.ref p/\H p=Vo/\H'=upd H p (.tup [.int i,v])/\(fD K a).yld i H v H,(fD K a).stop⟩
theorem yG{K:E3}{ps:Pos}(a e it)(ne:e≠it):Turn P w K (.Tuple elts kk ps) (iP K a) [e,it] e (λi h=>(∃old,IsEnum h e it i old)/\h.IsTupleIter it a i) where
 mem:=by simp
 obj:=λi h st b hb=>by
  obtain⟨⟨old,ge⟩,o,go,gc,gd⟩:=st;rcases Fo.mp hb with rfl|hb
  .exact⟨_,ge,λv z=>by cases(z)⟩
  .cases Fi.mp hb;exact⟨o,go,λv z=>by rw[gd]at z;cases z⟩
 keep:=λi h h' st k=>by obtain⟨⟨old,ge⟩,f⟩:=st;exact⟨⟨old,k e (by simp) _ ge⟩,f.at λo z=>k it (by simp) o z⟩
 item:=by
  intro X m n r B i pins s σ H E I g st C;subst m n r;obtain⟨⟨old,ge⟩,f⟩:=st;obtain⟨xs,x,j,G⟩:=C;obtain⟨c,J,p,Z⟩:=I.tuple j;obtain⟨u,Y,ru⟩:=J.get G;have hi:i<c.toArray.size:=by have:=(Fg.mp Y).1;simpa using this
  have hA:X.A.in1.handled=Vo:=I.ok.hd B;have M:a≠it:=λz=>by obtain⟨o,ho,hcl,_⟩:=p;obtain⟨o',N,d,_⟩:=f;rw[z,N]at ho;cases ho;rw[hcl]at d;exact absurd (Jj d) (by decide)
  have O:e∉[it,a]:=λz=>by
   rcases Fo.mp z with z|z
   .exact ne z
   .cases Fi.mp z;obtain⟨o,ho,hcl,_⟩:=p;rw[ge]at ho;cases ho;exact absurd (Jj hcl) (by decide)
  refine wpAny_pyNext_enum_itemD (EA hA it a M c.toArray) ge ⟨f,show s.heap.IsTuple a c.toArray from p⟩ hi ne O λy h' tk hy Q gs l gz gk=>⟨_,rfl,?_⟩;have ey:y=u:=by
   have:c[i]?=Vn y:=by simpa using hy
   rw[Y]at this;exact(FQ this).symm
  subst ey;have lt:∀b∈[e,it],b≠s.heap.objs.size:=λb hb=>by
   rcases Fo.mp hb with rfl|hb
   .exact Ft (E6 ge)
   .cases Fi.mp hb;obtain⟨o,ho,_⟩:=f;exact Ft (E6 ho)
  have I1:Inv X pins σ (upd H s.heap.objs.size (.tup [.int i,x])) { s with heap:=h',toks:=tk+1 }:=
   Inv.turnedNew (L:=[e,it]) I (λb o hb z=>gk b o (λq=>hb (by simp[q])) (λq=>hb (by simp[q])) z) g ⟨by show 2<=sizeLine;decide,[.int i tk,y],.cons ⟨tk,rfl⟩ (.cons ru .nil),⟨_,l,rfl,_,rfl⟩⟩
  have fe:dS X pins (upd H s.heap.objs.size (.tup [.int i,x])) e:=by obtain⟨c0,c1,c2,c3,c4,c5⟩:=g e (by simp);exact⟨by rw[aB (lt e (by simp))];exact c0,c1,c2,c3,c4,c5⟩
  refine wpAny_letOwnedTupleGo_enum (s:={ s with heap:=h',toks:=tk+1 }) Q λk R bk=>?_;refine⟨.ref s.heap.objs.size,upd H s.heap.objs.size (.tup [.int i,x]),Inv.same (s:={ s with heap:=h',toks:=tk+1 }) (k:=h') I1 fe bk.extBut,rfl,⟨_,x,rfl,I.hok.fresh (Fu _),rfl,rfl,λzs S=>by rw[I.tuple_inj S j];exact G⟩,⟨⟨y,by simpa using R⟩,gs.1.at λo z=>bk.extBut it o (Gi ne) z⟩,λb hb=>?_⟩;rw[aB (lt b hb)];exact(g b hb).1
 done:=by intro X m n r B i pins s σ H E I g st C;subst m n r;obtain⟨⟨old,ge⟩,f⟩:=st;obtain⟨xs,j,G⟩:=C;obtain⟨c,J,p,Z⟩:=I.tuple j;have hA:X.A.in1.handled=Vo:=I.ok.hd B;have l:s.TypeIs (.ref e) "enumerate":=⟨_,ge,rfl⟩;have hl:=J.length;unfold pyNext;refine E1 (wpAny_attempt (F1 (name:=FP "__next__") l IJ (wpAny_call_entry IJ l KN ?_ (J4 _))));show Vf _ _ (field (Value.ref e) 2 >>= _) _ _ _;refine E1 (wpAny_field ge rfl (x:=Value.ref it) rfl ?_);refine E1 (sv hA f (show s.heap.IsTuple a c.toArray from p) (by simp;lia) λh' x he U=>?_);obtain⟨o,ho,W⟩:=U;refine E1 (wpAny_isInstance (s:={ s with heap:=h' }) (T:="StopIteration") (b:=true) ⟨o,ho,W⟩ isSubtype_stop ?_);exact E2 ⟨rfl,Inv.same (k:=s.heap) I (g it (by simp)) he⟩
 self:=λ_ _ _ _ _ st h=>by obtain⟨⟨old,ge⟩,_⟩:=st;exact wpAny_pyIter_enum ge h
section
variable {K:E3} {σ:St} {H:Hp} {Q:VK}
def nV(K:E3):List V->Hp->(It->Hp->Prop)->Prop:=λvs H R=>∃a xs,vs=[.ref a]/\ay K H a xs/\R (iP K a) H
def uD(K:E3)(ta:TA):TI:=λσ H R=>ta σ H λvs H1=>nV K vs H1 R
theorem tX{ps:Pos}(K:E3){a:Vk}{ta:TA}{p pos:Pos}(f:Gl X "enumerate")(g:X.mg "enumerate" = Vo)(ha:PA X [a] ta)(i:X.K=K:=by rfl)(hs:starEach [a] X.env=[(false,eval a X.env)]:=by rfl):
  PI X (.Tuple elts kk ps) (.Call (.Name "enumerate" p) [a] [] pos) (uD K ta):=by
 subst i;intro pins s σ H R I h;refine Call_ (fQ I f g JZ (Gf (aM (ha pos pins s σ H _ I h) λus s1 ⟨vs,H1,c,r1,j⟩=>?_) (by rw[hs];rfl) rfl));obtain⟨l,xs,e,m,q⟩:=j;subst e;obtain⟨u,rfl,n⟩:=vals1 r1;cases n;obtain⟨d,_,o,_⟩:=c.tuple m;refine DM (o) λh' ge r k=>?_;refine wpAny_pyIter_enum ge ?_;refine⟨s1.heap.objs.size+1,[s1.heap.objs.size+1,s1.heap.objs.size],_,_,H1,rfl,c.kept k,yG l (s1.heap.objs.size+1) s1.heap.objs.size (λz=>by have v:@Eq Nat _ _:=z;lia),⟨⟨_,ge⟩,r⟩,λb hb=>?_,q⟩;have le:@LE.le Nat _ s1.heap.objs.size b:=by
  rcases Fo.mp hb with rfl|hb
  .exact Hs _ _
  .cases Fi.mp hb;exact Fu _
 exact c.fpOk le (c.hok.fresh le)
def rd_enum{a:TA}(h:a σ H λvs H1=>nV K vs H1 R):uD K a σ H R:=h
def rN(ha:ay K H a xs)(h:R (iP K a) H):nV K [.ref a] H R:=⟨a,xs,rfl,ha,h⟩
theorem C9{tb:TS}{D:Ends}(Pv:Nat->St->Hp->Prop)(h0:Pv 0 σ H)(j:∀i σ H,i<=xs.length->Pv i σ H->ay K H a xs)
  (hs:∀i u σ H p H',xs[i]?=Vn u->Pv i σ H->Ext H H'->H' p=Vn (.tup [.int i,u])->H p=Vo->g (.ref p) σ H' λb H2=>tb { D with nx:=Pv (i+1),ct:=Pv (i+1),bk:=D.nx } b H2) (hd:∀σ H,Pv xs.length σ H->D.nx σ H) :
  ∃W:Nat->Nat->St->Hp->Prop,(∃m,W 0 m σ H)/\∀i m σ H,W i m σ H ->
   ((iP K a).stop i H/\D.nx σ H)\/((iP K a).go i H/\∃N,(∀c H',N c H'->∃f,f<m/\W (i+1) f c H')/\∀x H',(iP K a).yld i H x H'->g x σ H' λb H2=>tb { D with nx:=N,ct:=N,bk:=D.nx } b H2):=by
 refine⟨λi m σ H=>m=xs.length-i/\i<=xs.length/\Pv i σ H,⟨xs.length,by simp,GO _,h0⟩,?_⟩;rintro i m σ H ⟨rfl,hi,p⟩;have d:=j i σ H hi p;by_cases hlt:i<xs.length
 .refine .inr ⟨⟨xs,xs[i],d,by simp[hlt]⟩,Pv (i+1),λc H' l=>⟨xs.length-(i+1),by lia,rfl,hlt,l⟩,λx H' y=>?_⟩;obtain⟨pp,u,rfl,h,rfl,n⟩:=y;exact hs i u σ H pp _ (n.2 xs d) p (aY h) aF h
 .have e:i=xs.length:=by lia
  subst e;exact .inl ⟨⟨xs,d,Fu _⟩,hd σ H p⟩
end
section
variable {X:Cx}
def nU(neg:Bool):R2:=λx y H Q=>∃n p xs d ds,bD H n x d/\y=.ref p/\H p=Vn (.lst xs)/\Paired (bD H n) xs ds/\n<=50/\Q (.bl (if neg then !(ds.any λe=>Gw e d)else ds.any λe=>Gw e d)) H
theorem EZ(c:Room k X.A):cb X (compareOp .In) (nU false):=by intro pins s σ H x y v u Q I e f h;obtain⟨n,p,xs,d,ds,h1,rfl,h2,a,g,q⟩:=h;have i:bD H (n+1) (.ref p) (.list ds):=.inr ⟨p,xs,ds,rfl,.inr ⟨h2,rfl⟩,a⟩;obtain⟨as,j⟩:=bD.reads I n h1 e;obtain⟨bs,l⟩:=bD.reads I (n+1) i f;have b:=bD.lay n h1;have m:=jI (λ{x d}=>bD.lay (H:=H) n) a;have o:=c.units;exact SeqAt.in_list_reads l j m.1 b.1 (by lia) ⟨.bl _,H,I,rfl,q⟩
theorem sS(c:Room k X.A):cb X (compareOp .NotIn) (nU true):=by intro pins s σ H x y v u Q I e f h;obtain⟨n,p,xs,d,ds,h1,rfl,h2,a,g,q⟩:=h;have i:bD H (n+1) (.ref p) (.list ds):=.inr ⟨p,xs,ds,rfl,.inr ⟨h2,rfl⟩,a⟩;obtain⟨as,j⟩:=bD.reads I n h1 e;obtain⟨bs,l⟩:=bD.reads I (n+1) i f;have b:=bD.lay n h1;have m:=jI (λ{x d}=>bD.lay (H:=H) n) a;have o:=c.units;exact SeqAt.notIn_list_reads l j m.1 b.1 (by lia) ⟨.bl _,H,I,rfl,q⟩
def yf{d:PyData}{Q:VK}(h1:bD H n x d)(h2:H p=Vn (.lst xs))(a:Paired (bD H n) xs ds)(b:n<=50)(q:Q (.bl (if neg then !(ds.any λe=>Gw e d)else ds.any λe=>Gw e d)) H):nU neg x (.ref p) H Q:=
 ⟨n,p,xs,d,ds,h1,rfl,h2,a,b,q⟩
end
abbrev Row3:=Vm×Tok×Va
def lQ(w:Ve)(e:Row3):DictEntry:=⟨PyData.keyHash w.params e.1,.str e.1 e.2.1,e.2.2⟩
def jc(w:Ve)(l:List Row3)(ep:Nat):Obj:={ cls:=.type "dict",dict:=Vo,data:=.dict (l.map (lQ w)).toArray ep,slots:=#[] }
structure GDict(w:Ve)(K:E3)(a:Vb)(kvs:List (Key×V)):Prop where
 has:∃l ep,K.lookup a=Vn (jc w l ep)/\KV kvs (l.map λe=>((Sum.inr e.1:Key),e.2.2))
 nd:(kvs.map (·.1)).Nodup
 sm:(a == sysModules)=false
theorem vB{P:Vd}{w:Ve}:∀l:List Row3,Pairs (bS P w) (l.map (lQ w)) (l.map λe=>((Sum.inr e.1:Key),e.2.2))
 | []=>.nil
 | e::l=>.cons (og P w e.1 e.2.1) rfl (vB l)
def DT(l:List Row3):KeysOf (bS P w) (l.map (lQ w)).toArray:=λe b=>by
 have a:e∈l.map (lQ w):=by simpa using b
 obtain⟨x,_,rfl⟩:=F7.mp a;exact⟨.inr x.1,og P w x.1 x.2.1,rfl⟩
def GDict.at{kvs:List (Key×V)}(D:GDict X.w X.K a kvs)(I:Inv X pins σ H s):∃vs,KV kvs vs/\s.heap.DictOf (bS X.prog X.w) a vs:=by obtain⟨l,ep,b,r⟩:=D.has;refine⟨_,r,jc X.w l ep,_,ep,I.kIn _ _ b,⟨rfl,rfl,rfl⟩,rfl,DT l,vB l,?_⟩;rw[<-r.keys];exact D.nd
section
variable {X:Cx} {x:Vm} {a:Vb} {kvs:List (Key×V)} {i:Vk} {ty:TE} {p pos:Pos}
def qj(kvs:List (Key×V))(ty:TE):TE:=λσ H Q=>ty σ H λy H1=>∃k v,y=kV k/\a7 kvs k=Vn v/\Q v H1
def vJ(neg:Bool)(kvs:List (Key×V))(ty:TE):TE:=λσ H Q=>ty σ H λy H1=>∃k,y=kV k/\Q (.bl (if neg then !(a7 kvs k).isSome else(a7 kvs k).isSome)) H1
def DL(d:Gl X x)(e:X.mg x=some (.ref a))(D:GDict X.w X.K a kvs)(hi:PE X i ty)(hs:nA i)(hd:(x == ("__debug__":Vm))=false:=by decide):PE X (.Subscript (.Name x p) i pos) (qj kvs ty):=by intro pins s σ H Q I h;refine wY Js.lookup hs (jv I d e (aM (hi pins s σ H _ I h) λm s2 ⟨y,H2,c,f,k,v,g,j,q⟩=>?_) hd);subst g;obtain⟨vs,rel,dd⟩:=D.at c;obtain⟨n,l,b⟩:=fL.some_of (v:=v) (o:=valueAt vs k) (by rw[<-j];exact rel.val k);exact⟨dd.typeIs,wpAny_getItem_of (iK f) dd.mapOf l ⟨v,H2,c.tok _,b,q⟩⟩
def B7(c:Gl X x)(d:X.mg x=some (.ref a))(D:GDict X.w X.K a kvs)(hi:PE X i ty)(hd:(x == ("__debug__":Vm))=false:=by decide):PC X .In i (.Name x p) (vJ false kvs ty):=by intro pins s σ H Q I h;refine aM (hi pins s σ H _ I h) λg s1 ⟨y,H1,b,e,k,f,q⟩=>jv b c d ?_ hd;subst f;obtain⟨vs,rel,dd⟩:=D.at b;refine wpAny_in_of (iK e) D.sm dd.mapOf ?_;rw[<-(rel.val k).isSome_eq];exact⟨.bl (a7 kvs k).isSome,H1,b.tok _,rfl,q⟩
def rd_gget{Q:VK}(h:ty σ H λy H1=>∃k v,y=kV k/\a7 kvs k=Vn v/\Q v H1):qj kvs ty σ H Q:=h
def rd_gin{Q:VK}(h:ty σ H λy H1=>∃k,y=kV k/\Q (.bl (if neg then !(a7 kvs k).isSome else(a7 kvs k).isSome)) H1):vJ neg kvs ty σ H Q:=h
def Dh{R:V->Prop}(a:a7 kvs (.inr z)=Vn v)(h:R v):∃k v,V.str z=kV k/\a7 kvs k=Vn v/\R v:=⟨.inr z,v,rfl,a,h⟩
def qI:R2:=λx y H Q=>∃a b,x=.str a/\y=.str b/\Q (.bl (!decide (b.cps.toList<a.cps.toList))) H
def vE:cb X (compareOp .LtE) qI:=by intro pins s σ H x y v u Q I c d h;obtain⟨a,b,rfl,rfl,q⟩:=h;obtain⟨t,rfl⟩:=c;obtain⟨e,rfl⟩:=d;exact PySem.P.le_str ⟨.bl _,H,I,rfl,q⟩
def rd_leS{a b:Vm}{Q:VK}(h:Q (.bl (!decide (b.cps.toList<a.cps.toList))) H):qI (.str a) (.str b) H Q:=⟨a,b,rfl,rfl,h⟩
theorem oJ{α β:Type}{f g:α->Option β}:∀{l:List α},(∀x∈l,f x=g x)->l.filterMap f=l.filterMap g
 | [],_=>rfl
 | x::l,h=>by rw[Ha,Ha,h x Fe,oJ λy a=>h y (Fb _ a)]
theorem C3(n)(xs:List Va)(h:xs.length=n):(F2 n).filterMap (λi:Nat=>xs[((n:Int)-1+(i:Int)*(-1)).toNat]?)=xs.reverse:=by
 refine Iu λi=>?_;have e:(F2 n).filterMap (λi:Nat=>xs[((n:Int)-1+(i:Int)*(-1)).toNat]?)=(F2 n).map (λi:Nat=>xs.reverse.getD i .none):=by
  rw[<-List.filterMap_eq_map];refine oJ λi hi=>?_;have hi:=GK.mp hi;have:((n:Int)-1+(i:Int)*(-1)).toNat=n-1-i:=by lia
  rw[this,K2,GV,IK (by lia),h,E8 (show n-1-i<xs.length by omega)];rfl
 rw[e,E9];by_cases hi:i<n
 .simp[GV,h,hi]
 .rw[Gb (by simpa using hi),Gb (by simpa[h]using hi)];rfl
theorem yp(a:List Va):slicePick a.toArray Vo Vo (Vn (-1))=a.reverse.toArray:=by
 unfold slicePick;have e:sliceBounds Vo Vo (Vn (-1)) a.toArray.size=((a.length:Int)-1,-1,-1):=by unfold sliceBounds;simp
 rw[e];refine congrArg List.toArray ?_;rw[<-C3 a.length a rfl];unfold sliceRange;simp only;rw[F5 (by decide),Jf];have b:(if(a.length:Int)-1 > -1 then((a.length:Int)-1 - -1 - -1-1) / - -1 else 0).toNat=a.length:=by rw[show (- -1:Int)=1 by decide,Int.ediv_one];split<;>lia
 rw[b];refine oJ λi hi=>?_;simp
def Vals.rev(r:Vals xs us):Vals xs.reverse us.reverse:=by
 induction r with
 | nil=>exact .nil
 | cons h t a=>
  rw[Ip,Ip];exact Vals.append a (.cons h .nil)
def ko(K:E3):V->Hp->VK->Prop:=λx H Q=>∃a xs,x=.ref a/\ag K H a xs/\fB H (.lst xs.reverse) Q
def vG(K:E3)(te:TE)(ts:TO):TE:=λσ H Q=>te σ H λx H1=>ts σ H1 λk H2=>k=Vn (-1)/\ko K x H2 Q
theorem EN{e st:Vk}{te:TE}{ts:TO}{p2:Pos}(K:E3)(f:PE X e te)(hs:PO X (Vn st) ts)(g:X.K=K:=by rfl):PE X (.Subscript e (.Slice Vo Vo (Vn st) p2) pos) (vG K te ts):=by
 subst g;intro pins s σ H Q I h;refine Subscript_ (aM (f pins s σ H _ I h) λv s1 ⟨x,H1,j,r1,l⟩=>?_);refine wpAny_Slice ?_;refine E2 (E2 ?_);refine aM (hs pins s1 σ H1 _ j l) λvs s2 ⟨k,H2,m,n,p⟩=>?_;obtain⟨rfl,a,xs,rfl,u,q⟩:=p;cases n with
 | int i tk=>
 cases r1;have c:Inv X pins σ H2 { s2 with heap:=s2.heap.push { cls:=.type "slice",data:=.fields #[.none,.none,.int (-1) tk] } }:=m.kept (t':=s2.toks) λb y q=>E4 _ q;obtain⟨z,r,d,B⟩:=c.list u;have hlen:=r.length;refine tail_any d.isList.typeIs slot_list_getitem.lookup (wpAny_getItem_list_slice d.isList (LH ..) .none .none (.int (-1) tk) (by decide) ?_ (by rw[Fd];lia)) (by with_unfolding_all rfl);rw[yp];exact⟨.ref _,_,c.laid (o:=.lst xs.reverse) (λb y e=>E4 _ e) (Fu _) ⟨by rw[Gh];exact B,_,0,r.rev,E5 _ rfl⟩,rfl,q _ (c.hok.fresh (Fu _))⟩
def rd_revL{K:E3}{Q:VK}(h:te σ H λx H1=>ts σ H1 λk H2=>k=Vn (-1)/\ko K x H2 Q):vG K te ts σ H Q:=h
def wu{K:E3}{Q:VK}(e:ag K H a xs)(h:fB H (.lst xs.reverse) Q):ko K (.ref a) H Q:=⟨a,xs,rfl,e,h⟩
def rd_dget{Q:VK}(h:td σ H λx H1=>ty σ H1 λy H2=>∃a v,x=.ref a/\bw H2 a y (Vn v)/\Q v H2):sk td ty σ H Q:=h
end
def DD:typeLookup (.type "list_reverseiterator") "__len__" = pure Vo:=by rw[typeLookup_type,builtinLookup_eq_fast];kernel_rfl
def DE:typeLookup (.type "list_reverseiterator") "__length_hint__" = pure (Vn (.builtin "list_reverseiterator.__length_hint__")):=by rw[typeLookup_type,builtinLookup_eq_fast];kernel_rfl
section
variable {prog:Vd} {w:Ve} {A:Vi} {E:Va->Vc->Prop} {s:Vc} {r d:Vb}
def D2{Q:Bool->Vc->Prop}(c:s.TypeIs (.ref r) "list_reverseiterator")(h:Q false s):Vf (Vg prog w) A (Builtin.List.listLengthHint (.ref r)) Q E s:=by
 refine E1 (wpAny_specialOf c DD ?_);refine E1 (wpAny_specialOf c DE ?_);generalize a:("list_reverseiterator.__length_hint__":String)=id0
 wp_delta
 subst a;refine E1 (wpAny_isInstance (b:=true) c (by rw[isSubtype_type];kernel_rfl) ?_);refine wpAny_ite_split (λhab=>absurd hab (by decide)) (λ_=>?_);refine wpAny_ite_split (λ_=>?_) (λhab=>absurd (by decide +kernel) hab);refine wpAny_ite_split (λhab=>absurd hab (by decide +kernel)) (λ_=>?_);exact E2 h
theorem CN{R:Result->Vc->Prop}(q:A.handled=Vo)(hne:d≠r)(hit:s.heap.IsRevIter r d ((items.size:Int)-1))(u:s.heap.IsList d items)(S)(g:S≠r)(j:S≠d)(res)(c)(x:s.heap.get? S=Vn { cls:=.type "list",data:=.seq #[] c })
  (y:∀h' tk a c',(∀b o,b≠S->b≠r->s.heap.get? b=Vn o->h'.get? b=Vn o)->h'.get? S=Vn { cls:=.type "list",dict:=Vo,data:=.seq a c',slots:=#[] }->ItemsOf (λi v=>items[items.size-1-i]?=Vn v) a items.size->R (.ok (.ret res)) { s with heap:=h',toks:=tk }) (z:items.size<=sizeLine) :
  Vf (Vg prog w) A.in1 (Builtin.List.listExtendWith (.ref S) (.ref r) res)
   (λfin s'=>match fin with|.done f=>R (.ok f) s'|.again c'=>c'.quiet=true/\codeAny (Vg prog w) A c' R s') (λe s'=>R (.error e) s') s:=by
 have l:S∉[r,d]:=by simp only[Fo,FJ,or_false,not_or];exact⟨g,j⟩
 have W:=Walks.listRev (prog:=prog) (w:=w) (A:=A.in1) q r d hne items;have st:0<=items.size/\s.heap.IsRevIter r d ((items.size:Int)-1-((0:Nat):Int))/\s.heap.IsList d items:=⟨GO _,by rw[show (items.size:Int)-1-((0:Nat):Int)=(items.size:Int)-1 by lia];exact hit,u⟩;refine E1 (wpAny_typeOf hit.typeIs ?_);have h1:Jy (.ref S) (.ref r)=false:=by simp[Jy,g]
 have h2:(Value.type "list_reverseiterator" == Value.type "list")=false:=by decide
 have B:(Value.type "list_reverseiterator" == Value.type "tuple")=false:=by decide
 simp only[h1,h2,B,Bool.or_false,FV,if_false];refine E1 (W.self 0 _ _ _ st ?_);refine E1 (wpAny_holding (D2 hit.typeIs ?_));refine wpAny_ite_split (λhab=>absurd hab (by decide +kernel)) (λ_=>?_);refine E2 ⟨plainId_quiet PySem.F.plain_extend_loop _,?_⟩;refine codeAny_extend_loopS W.toS z S l res items.size 0 s #[] c rfl (GO _) st x (ItemsOf.nil _) λs' a c' p m h=>?_;rw[Moved.eq_with p];refine y s'.heap s'.toks a c' (λb o hb n e=>p.heap b o (λhmem=>?_) e) m h;rcases Fo.mp hmem with e'|hmem
 .exact hb e'
 .exact n (Fi.mp hmem)
def zW{R:Result->Vc->Prop}(p:A.handled=Vo)(hne:d≠r)(hit:s.heap.IsRevIter r d ((items.size:Int)-1))(q:s.heap.IsList d items)(S)(g:S≠r)(h:S≠d)(l:s.heap.get? S=Vn { cls:=.type "list",data:=.seq #[] })
  (u:∀h' tk a c',(∀b o,b≠S->b≠r->s.heap.get? b=Vn o->h'.get? b=Vn o)->h'.get? S=Vn { cls:=.type "list",dict:=Vo,data:=.seq a c',slots:=#[] }->ItemsOf (λi v=>items[items.size-1-i]?=Vn v) a items.size->R (.ok (.ret .none)) { s with heap:=h',toks:=tk }) (x:items.size<=sizeLine) :
  Vf (Vg prog w) A.in1 (Builtin.«list.__init__» ⟨[.ref S,.ref r],[]⟩)
   (λfin s'=>match fin with|.done f=>R (.ok f) s'|.again c'=>c'.quiet=true/\codeAny (Vg prog w) A c' R s') (λe s'=>R (.error e) s') s:=by
 refine E1 ?_;refine E1 (wpAny_seqItems l rfl (E2 ?_));refine E1 (wpAny_updateSeq l rfl ?_);have c:=G0 (Hx (λ_=>(#[]:Array Va))) l rfl;have oth:∀b o,b≠S->s.heap.get? b=some o->(s.heap.update S (Hx (λ_=>(#[]:Array Va)))).get? b=some o:=
  λb o hb e=>(Gk _ _ (Gi hb)).trans e
 refine E1 (wpAny_letGo ?_);refine CN p hne (hit.at λo e=>oth _ _ g.symm e) (q.at λo e=>oth _ _ h.symm e) S g h .none _ c (λh' tk a c' y m j=>?_) x;exact u h' tk a c' (λb o hb n e=>y b o hb n (oth b o hb e)) m j
def yy(m:A.handled=Vo)(hne:d≠r)(hit:s.heap.IsRevIter r d ((items.size:Int)-1))(j:s.heap.IsList d items)(n:items.size<=sizeLine)
  (p:∀h' tk a c',(∀b o,b≠r->s.heap.get? b=Vn o->h'.get? b=Vn o)->h'.get? s.heap.objs.size=Vn { cls:=.type "list",dict:=Vo,data:=.seq a c',slots:=#[] }->ItemsOf (λi v=>items[items.size-1-i]?=Vn v) a items.size->Q (.ref s.heap.objs.size) { s with heap:=h',toks:=tk }) :
  Vf (Vg prog w) A (call (.type "list") [.ref r]) Q E s:=by
 refine callType_codes (Q₁:=λobj c=>obj=.ref s.heap.objs.size/\c={ s with heap:=s.heap.push { cls:=.type "list",data:=.seq #[] } }) PySem.F.called_list (PySem.F.typeCall_list_1 _) PySem.F.entry_list_init
  (code_list_new _ ⟨rfl,rfl⟩) λobj c f=>?_
 obtain⟨rfl,rfl⟩:=f;have l:(s.heap.push { cls:=.type "list",data:=.seq #[] }).get? s.heap.objs.size=Vn { cls:=.type "list",data:=.seq #[] }:=E5 _ rfl;have q:r<s.heap.objs.size:=let ⟨o,ho,_⟩:=hit;E6 ho;have u:d<s.heap.objs.size:=let ⟨o,ho,_⟩:=j;E6 ho;refine⟨⟨_,l,rfl⟩,PySem.F.args_list_init_2 _ _,zW (A:=A.in1) m hne (hit.at λo e=>E4 _ e) (j.at λo e=>E4 _ e) _ (HL q) (HL u) l (λh' tk a c' x h g=>?_) n⟩;exact⟨rfl,p h' tk a c' (λb o hb e=>x b o (Ft (E6 e)) hb (E4 _ e)) h g⟩
end
theorem By{a:List Va}(h:ItemsOf (λi v=>a.toArray[a.toArray.size-1-i]?=Vn v) acc a.toArray.size):acc=a.reverse.toArray:=by
 have h1:acc.size=a.length:=h.1.trans Fd;have h2:=h.2;refine LL λi=>?_;by_cases hi:i<acc.size
 .have b:=h2 i acc[i] (GW hi);rw[GW hi,<-b,Hh,Hh,Fd,IK (by lia)]
 .rw[Iv (by lia),Hh,Gb (by rw[Gh];lia)]
section
variable {X:Cx}
def rW(K:E3)(te:TE):TE:=λσ H Q=>te σ H λx H1=>ko K x H1 Q
theorem CC{e:Vk}{te:TE}{p p2 pos c:Pos}(K:E3)(y:X.calm=true)(z:Gl X "list")(A:X.mg "list" = Vo)(l:Gl X "reversed")(m:X.mg "reversed" = Vo)(B:PE X e te)(C:X.K=K:=by rfl)
  (h1:starEach [e] X.env=(false,eval e X.env)::starEach [] X.env:=by rfl)
  (h2:starEach [.Call (.Name "reversed" p2) [e] [] c] X.env=(false,eval (.Call (.Name "reversed" p2) [e] [] c) X.env)::starEach [] X.env:=by rfl) :
  PE X (.Call (.Name "list" p) [.Call (.Name "reversed" p2) [e] [] c] [] pos) (rW K te):=by
 subst C;intro pins s σ H Q I h;refine wpAny_Call_Name_kw (fQ I z A IA ?_ (by decide) (by decide));refine Gf ?_ h2 rfl;refine Ii ?_;refine wpAny_Call_Name_kw (fQ I l m PyProof.Rows.boot_reversed ?_ (by decide) (by decide));refine Gf ?_ h1 rfl;rw[h1];refine Ii (aM (B pins s σ H _ I h) λu s1 ⟨x,H1,j,r1,E⟩=>?_);refine Im ?_;obtain⟨a,xs,rfl,F,q⟩:=E;cases r1;obtain⟨f,r,pl,G⟩:=j.list F;have hlen:=r.length;refine call_reversed_list pl.isList ?_;refine Im ?_;have la:a<s1.heap.objs.size:=let ⟨o,ho,_⟩:=pl.isList;E6 ho;have n:(s1.heap.push (revObj a ((f.toArray.size:Int)-1))).objs.size=s1.heap.objs.size+1:=Gx ..;refine yy (j.ok.hd y) (Ft la) ⟨_,E5 _ rfl,rfl,rfl⟩ (pl.isList.at λo e=>E4 _ e) (by rw[Fd];lia) λh' tk w c' J g i=>?_;have v:∀b o,s1.heap.get? b=Vn o->h'.get? b=Vn o:=λb o e=>J b o (Ft (E6 e)) (E4 _ e);have hle:s1.heap.objs.size<=(s1.heap.push (revObj a ((f.toArray.size:Int)-1))).objs.size:=by rw[n];exact Nat.le_succ _
 rw[By i]at g;exact⟨.ref _,_,j.laid (o:=.lst xs.reverse) v hle ⟨by rw[Gh];exact G,_,c',r.rev,g⟩,rfl,q _ (j.hok.fresh hle)⟩
def rH(tk tv:TE):TE:=λσ H Q=>∀p,H p=Vo->tk σ (upd H p (.dT [])) λx H1=>tv σ H1 λv H2=>∃b k,x=.ref b/\H2 b=Vn (.tup (A0 kV k))/\H2 p=Vn (.dT [])/\Q (.ref p) (upd H2 p (.dT [(k,v)]))
def oZ{h ev:Vk}(l:X.A.units+1<cLine)(m:PE X h tk)(n:PE X ev tv):PE X (.Dict [Vn h] [ev] pos) (rH tk tv):=by
 intro pins s σ H Q I q;have p:=I.hok.fresh (Fu s.heap.objs.size);have d:=I.laid (a:=s.heap.objs.size) (o:=.dT []) (h':=s.heap.push { cls:=.type "dict",data:=.dict #[] }) (t':=s.toks) (λ_ _ q=>E4 _ q) (Fu _) (sW s.heap I.big);refine wpAny_Dict_any rfl rfl (by simp) (by simp) ?_;refine pairTrees_cons_walk (aM (m pins _ σ _ _ d (q _ p)) λu s1 ⟨x,H1,d,r,y⟩=>aM (n pins s1 σ H1 _ d y) λM s2 ⟨v,H2,f,B,C⟩=>pairTrees_nil_walk ?_);obtain⟨b,k,rfl,hb,e,E⟩:=C;cases(r);obtain⟨z,hd,xs,rel,dd⟩:=rL f.hok e;have F:xs.length<=sizeLine:=by rw[<-F9 rel];exact GO _
 unfold storeAll;rw[KY];refine E1 (E1 (wpAny_dictSet_heap (Nat.lt_of_succ_lt l) (iM f.hok hb) dd λh' g hs=>E2 ?_));refine E2 ⟨.ref s.heap.objs.size,_,?_,rfl,E⟩;obtain⟨q,es,ep,i,h2,G,J,_,L⟩:=g;refine lH f (by rw[e];exact True.intro) hs ⟨q,i⟩ ⟨by rw[sizeLine_eq];simp,hd,_,(rel.put k hb B).keeps λc ys j=>?_,q,es,ep,i,h2,G,J,L⟩;rw[aB (bp j e (λz=>nomatch z))];exact j
def rd_lrev{K:E3}{Q:VK}(h:te σ H λx H1=>ko K x H1 Q):rW K te σ H Q:=h
def rd_disp1{Q:VK}(h:∀p,H p=Vo->tk σ (upd H p (.dT [])) λx H1=>tv σ H1 λv H2=>∃b k,x=.ref b/\H2 b=Vn (.tup (A0 kV k))/\H2 p=Vn (.dT [])/\Q (.ref p) (upd H2 p (.dT [(k,v)]))):rH tk tv σ H Q:=h
def rd_din{Q:VK}(h:ty σ H λy H1=>td σ H1 λx H2=>∃a o,x=.ref a/\bw H2 a y o/\Q (.bl o.isSome) H2):uG ty td σ H Q:=h
def rd_dnin{Q:VK}(h:ty σ H λy H1=>td σ H1 λx H2=>∃a o,x=.ref a/\bw H2 a y o/\Q (.bl (!o.isSome)) H2):xC ty td σ H Q:=h
def rd_dput(h:tv σ H λv H1=>td σ H1 λx H2=>ty σ H2 λy c=>∃a b,x=.ref a/\cX c a y v b/\D.nx σ b):qh td ty tv D σ H:=h
end
section
variable {prog:Vd} {w:Ve} {A:Vi} {E:Va->Vc->Prop} {s:Vc}
theorem xP{Q:Option Va->Vc->Prop}(hit:s.heap.IsKeyIter it d i es.size ep)(b:s.heap.get? d=Vn od)(c:od.data=.dict es ep)(hlt:i<es.size)
  (e:∀h',h'.IsKeyIter it d (i+1) es.size ep->Hn it s.heap h'->Q (Vn es[i].key) { s with heap:=h' }):Vf (Vg prog w) A (pyNext (.ref it)) Q E s:=by
 obtain⟨o,ho,f,hd⟩:=id hit;have T:=hit.typeIs;refine E1 (wpAny_attempt (F1 T HI (wpAny_call_entry HI T JO ?_ (JE _))));refine E1 (E2 (E1 (E1 ?_)))
 first|refine E1 (wpAny_typeNameOfWhole_keyiter T (E2 ?_))|refine E1 (wpAny_typeNameOf_keyiter T (E2 ?_))
 refine E1 (wpAny_fieldsOf ho hd ?_);refine E1 (E2 (E1 (wpAny_dictEntries b c ?_)));rw[F5 (by simp)];refine E1 (E2 (E1 (wpAny_dictEpoch b c ?_)));rw[F5 (by simp)];refine E2 ?_;simp only[show ¬((i:Int)<0) by lia,if_false,Fl,GW hlt];refine E1 ?_
 first|refine E1 (wpAny_typeNameOfWhole_keyiter T (E2 ?_))|refine E1 (wpAny_typeNameOf_keyiter T (E2 ?_))
 refine E1 (wpAny_isOneOf_keyiter T ?_);show Vf _ _ (setField (.ref it) 1 (rawInt ((i:Int)+1)) >>= _) _ _ s;refine E1 (wpAny_setField ho hd (by simp) ?_);have a:(s.heap.update it (Obj.mapFields (·.setIfInBounds 1 (rawInt ((i:Int)+1))))).IsKeyIter it d (i+1) es.size ep:=
  ⟨_,G0 _ ho (Kc (Ij hd _)),(Obj.cls_mapFields ..).trans f,by rw[Ij hd];simp[rawInt]⟩
 refine E1 (wpAny_holding ?_);refine E1 (wpAny_isOneOf_keyiter a.typeIs ?_);exact E2 (E2 ⟨_,rfl,E2 (e _ a (Hb ..))⟩)
theorem wz{Q:Option Va->Vc->Prop}(f:A.handled=Vo)(hit:s.heap.IsKeyIter it d i es.size ep)(c:s.heap.get? d=Vn od)(e:od.data=.dict es ep)(hge:es.size<=i)
  (g:∀h',JN it s.heap h'->Q Vo { s with heap:=h' }):Vf (Vg prog w) A (pyNext (.ref it)) Q E s:=by
 obtain⟨o,ho,h,hd⟩:=id hit;have T:=hit.typeIs;refine E1 (wpAny_attempt (F1 T HI (wpAny_call_entry HI T JO ?_ (JE _))));refine E1 (E2 (E1 (E1 ?_)))
 first|refine E1 (wpAny_typeNameOfWhole_keyiter T (E2 ?_))|refine E1 (wpAny_typeNameOf_keyiter T (E2 ?_))
 refine E1 (wpAny_fieldsOf ho hd ?_);show Vf _ _ (if(Value.ref d == Value.none)=true then _ else _) _ _ s;refine E1 (E2 (E1 (wpAny_dictEntries c e ?_)));rw[F5 (by simp)];refine E1 (E2 (E1 (wpAny_dictEpoch c e ?_)));rw[F5 (by simp)];refine E2 ?_;simp only[show ¬((i:Int)<0) by lia,if_false,Fl,Iv hge];refine E1 ?_
 first|refine E1 (wpAny_typeNameOfWhole_keyiter T (E2 ?_))|refine E1 (wpAny_typeNameOf_keyiter T (E2 ?_))
 show Vf _ _ (setField (.ref it) 0 .none >>= _) _ _ s;refine E1 (wpAny_setField ho hd (by simp) ?_);refine E1 ?_;refine E1 (wpAny_newObj_type ?_ (by size_fits));refine E1 (wpAny_of_eq (a:=Value.none) (by first|rfl|(simp only[firstArgMember];rfl)) ?_);refine wpAny_newObj_type ?_ (by size_fits);simp only[raiseNew];refine E1 (wpAny_handled ?_);rw[show A.in1.handled=Vo from f];refine E1 (E2 (wpAny_throw ?_));refine E1 (wpAny_isInstance (T:="StopIteration") (b:=true) ⟨_,E5 _ rfl,rfl⟩ isSubtype_stop ?_);exact E2 (g _ (((Hb ..).extBut.push _).push _))
def oT(hd:(d == sysModules)=false)(ho:s.heap.get? d=Vn od)(b:od.ExactDict)(a:od.data=.dict es ep)
  (c:Q (.ref s.heap.objs.size) { s with heap:=s.heap.push { cls:=.type "dict_keyiterator",data:=.fields #[.ref d,.int 0 0,.int es.size 0,.int ep 0] } }):Vf (Vg prog w) A (pyIter (.ref d)) Q E s:=by
 have T:s.TypeIs (.ref d) "dict":=⟨od,ho,b.1⟩;refine wpAny_pyIter_slot T F.slot_dict_iter (wpAny_call_entry F.slot_dict_iter T F.entry_dict_iter ?_ (F.args_dict_iter_1 _));refine E1 ?_;refine E1 (wpAny_notOrdered_dict T ?_);refine E2 ?_;show Vf _ _ (Kf d >>= _) _ _ s;unfold Kf;rw[F5 (by rw[hd];exact Fp)];refine E1 (E2 (E1 (wpAny_dictEntries ho a (E1 (wpAny_dictEpoch ho a ?_)))));refine E1 (wpAny_newObj_type (E2 ⟨_,rfl,"dict_keyiterator",_,⟨_,E5 _ rfl,rfl⟩,HI.lookup,?_⟩));simpa[rawInt]using c
end
section
variable {X:Cx} {tg:Vk}
def oo{xs:List (List Key×Vb×Va)}(r:KT H kvs xs):Paired (λb (kv:List Key×V)=>H b=Vn (.tup (kv.1.map kV))) (xs.map (·.2.1)) kvs:=by
 induction r with
 | nil=>exact .nil
 | cons h _ a=>exact .cons h.2.1 a
end
section
variable {X:Cx}
def kU(K:E3){o:Vk}{name:Vm}{apos cpos:Pos}{id:String}(d:PlainAttrs T)(slot:Slot T name id)(c:typeOf (.builtin id)=pure (.type "method_descriptor"))(e:ky X id r)(ho:PE X o to)(h:X.K=K:=by rfl)
  (a:attributeBase o name X.env (eval o X.env)=eval o X.env:=by rfl) (b:(apos.endLine == cpos.line)=true:=by rfl):PE X (.Call (.Attribute o name apos) [] [] cpos) (oX K T r to):=by
 subst h;exact D6 d slot c e ho a b
end
def rd_bm0{K:E3}{Q:VK}(h:to σ H λx H1=>ij K T x H1/\r x [] H1 Q):oX K T r to σ H Q:=h
def Co(K:E3):List V->Hp->VK->Prop:=λxs H Q=>∃(p:Vb) (bs:List Bool),xs=[.ref p]/\ag K H p (bs.map V.bl)/\Q (.bl (bs.any id)) H
def any_range(bs:List Bool):((F2 bs.length).any λi=>bs.getD i false)=bs.any id:=by
 rw[FN,FL,FL];constructor
 .rintro⟨i,hi,h⟩;have a:=GK.mp hi;rw[GV,E8 a]at h;exact⟨_,FA a,h⟩
 .rintro⟨b,hb,h⟩;obtain⟨i,hi,e⟩:=JM.mp hb;refine⟨i,GK.mpr hi,?_⟩;rw[GV,E8 hi,e];exact h
def Ee(K:E3)(w:X.calm=true)(x:X.K=K:=by rfl):cS X (.builtin "any") (Co K):=by
 subst x;intro pins s σ H xs us Q I r h;obtain⟨p,bs,rfl,y,q⟩:=h;obtain⟨u,rfl,z⟩:=vals1 r;cases z;obtain⟨d,j,pl,R⟩:=I.list y;have B:=nS j;have hne:p≠s.heap.objs.size:=Ft (by obtain⟨o,n,e,_⟩:=pl;exact E6 e);refine call_any_walk (wpAny_pyIter_list pl.isList ?_);have C:Inv X pins σ H { s with heap:=s.heap.push { cls:=.type "list_iterator",data:=.fields #[.ref p,.int 0 0] } }:=I.kept (t':=s.toks) λb o e=>E4 _ e;have E:=I.fpOk (H':=H) (Fu s.heap.objs.size) I.fresh;refine⟨s.heap.objs.size,_,_,_,_,_,(λi=>bs.getD i false),rfl,LJ (A:=X.A.in1) (I.ok.hd w) _ p hne d.toArray,⟨⟨_,E5 _ rfl,rfl,rfl⟩,?_⟩,?_,λh' tk F=>?_⟩
 .exact pl.isList.push _
 .intro i v s' G S l J;rw[B]at l;have a:(bs.map Value.bool)[i]?=Vn v:=by simpa using l
  rw[E9]at a;cases f:bs[i]? with
  | none=>rw[f]at a;cases a
  | some b=>
   rw[f]at a;cases a;have g:bs.getD i false=b:=by rw[GV,f];rfl
   have c:G (bs.getD i false) s':=J;rw[g]at c;exact wpAny_truthy_bool c
 .obtain⟨L,M,T,N,O,P⟩:=E;have m:=j.length;rw[E7]at m;refine⟨.bl (bs.any id),H,C.turned (λb o hb e=>F b o (by simpa using hb) e) L M N O P,?_,q⟩;show Value.bool _=Value.bool _;rw[Fd,<-m,any_range]
theorem iL{x:Vm}{c:Vb}:∀(names:List (Vm×NameKind)) (n:Nat) (acc:List (Vm×Vb)),(cellsFrom n names acc).lookup x=Vn c->acc.lookup x=Vn c\/(n<=c/\(x,NameKind.cell)∈names)
 | [],_,_,h=>.inl h
 | (y,k)::r,n,acc,h=>by
  unfold cellsFrom at h;by_cases a:(k == NameKind.cell)=true
  .rw[F6 a]at h;have b:k=.cell:=by simpa using a
   subst b;rcases iL r (n+1) ((y,n)::acc) h with h|⟨h1,h2⟩
   .rw[FY]at h;cases hb:x == y with
    | true=>
     rw[hb]at h;cases h;rw[beq_iff_eq.mp hb];exact .inr ⟨Fu _,Fe⟩
    | false=>rw[hb]at h;exact .inl h
   .exact .inr ⟨Iw h1,Fb _ h2⟩
  .rw[F5 a]at h;rcases iL r n acc h with h|⟨h1,h2⟩
   .exact .inl h
   .exact .inr ⟨h1,Fb _ h2⟩
theorem kC{x y:Vm}{c:Vb}:∀(names:List (Vm×NameKind)) (n:Nat) (acc:List (Vm×Vb)),(∀x c,acc.lookup x=Vn c->@LT.lt Nat _ c n)->(∀x y c,acc.lookup x=Vn c->acc.lookup y=Vn c->x=y)->(cellsFrom n names acc).lookup x=Vn c->(cellsFrom n names acc).lookup y=Vn c->x=y
 | [],_,_,_,hi,h1,h2=>hi _ _ _ h1 h2
 | (z,k)::r,n,acc,hb,hi,h1,h2=>by
  unfold cellsFrom at h1 h2;by_cases d:(k == NameKind.cell)=true
  .rw[F6 d]at h1 h2;refine kC r (n+1) ((z,n)::acc) (λx c h=>?_) (λx y c h1 h2=>?_) h1 h2
   .rw[FY]at h;cases e:x == z with
    | true=>rw[e]at h;cases h;exact IY _
    | false=>rw[e]at h;exact IL (hb x c h)
   .rw[FY]at h1 h2;cases b:x == z with
    | true=>
     rw[b]at h1;cases h1;cases a:y == z with
     | true=>rw[beq_iff_eq.mp b,beq_iff_eq.mp a]
     | false=>rw[a]at h2;exact absurd (hb _ _ h2) (Gy _)
    | false=>
     rw[b]at h1;cases a:y == z with
     | true=>rw[a]at h2;cases h2;exact absurd (hb _ _ h1) (Gy _)
     | false=>rw[a]at h2;exact hi _ _ _ h1 h2
  .rw[F5 d]at h1 h2;exact kC r n acc hb hi h1 h2
theorem pj{x:Vm}{c:Vb}:∀(names:List (Vm×NameKind)) (h:Vh) (acc:List (Vm×Vb)),(cellsFrom h.objs.size names acc).lookup x=Vn c->acc.lookup x=Vn c\/(pushCells h names).IsCell c Vo
 | [],_,_,e=>.inl e
 | (y,k)::r,h,acc,e=>by
  unfold cellsFrom at e;unfold pushCells;by_cases a:(k == NameKind.cell)=true
  .rw[F6 a]at e ⊢;rw[<-Gx h { cls:=.type "cell",data:=.cell none }]at e;rcases pj r (h.push { cls:=.type "cell",data:=.cell none }) ((y,h.objs.size)::acc) e with e|e
   .rw[FY]at e;cases hb:x == y with
    | true=>
     rw[hb]at e;cases e;exact .inr ⟨_,pushCells_keeps _ _ _ _ (E5 _ rfl),rfl⟩
    | false=>rw[hb]at e;exact .inl e
   .exact .inr e
  .rw[F5 a]at e ⊢;exact pj r h acc e
section
variable {M:Model} {A:Vi} {E:Va->Vc->Prop} {s:Vc}
def Dw{code:Va}{Q:Env->Vc->Prop}
  (b:Q (newEnv scope s.heap.objs.size globals (cellsFrom (s.heap.objs.size+1) scope.names closure) qual func code (Vn outer) builtins) { s with heap:=pushCells (s.heap.push { cls:=.type "dict",data:=.dict #[] }) scope.names }) :
  Vf M A (newFunctionEnv scope globals closure [] qual func code (Vn outer) builtins) Q E s:=by
 simp only[newFunctionEnv,LK,if_true];refine E1 (wpAny_alloc ?_);refine E1 (wpAny_layCells _ (λname kind cells=>by cases a:kind == NameKind.cell<;>simp[a]) _ _ _ _ ?_);rw[show ({ s with heap:=s.heap.push { cls:=.type "dict",data:=.dict #[] } }:Vc).heap.objs.size=s.heap.objs.size+1 from Gx ..];refine E1 ?_;exact E2 (E2 b)
end
def iT(X:Cx)(sc:Scope)(C:Vb):List (Vm×Vb):=cellsFrom (Nat.succ C) sc.names (eh sc.names X.env.cells)
def di(X:Cx)(sc:Scope)(own:List Vm)(js:List Nat)(z:Blk):Cx where
 prog:=X.prog
 w:=X.w
 K:=X.K
 mg:=X.mg
 base:=X.base
 A:=X.A
 N:=own++js.map λj=>X.N.getD j ""
 s₀:=z.s
 H₀:=z.H
 env:=compEnvC sc (iT X sc z.C) z.C X.env
 outer:=X.stack
 stack:=X.stack
 ex:=z.fp
 fn:=λx=>sc.names.lookup x == Vn .cell
 calm:=X.calm
 pn:=[]
 xe:=λ_ _=>False
def fK(sc out:Scope):Bool:=sc.names.all λp=>(p.2 != .cell || sc.names.lookup p.1 == Vn .cell) && (p.2 != .local || sc.names.lookup p.1 == Vn .local) && (p.2 != .free || out.names.lookup p.1 == Vn .cell || out.names.lookup p.1 == Vn .free) && (p.2 != .free || sc.names.lookup p.1 == Vn .free)
def kA(h:fK sc out=true){p:Vm×NameKind}(a:p∈sc.names)(b:p.2=.free):out.names.lookup p.1=Vn .cell\/out.names.lookup p.1=Vn .free:=by have:=FK.mp h p a;simp[b]at this;exact this.1
def zK(h:fK sc out=true)(a:(x,NameKind.free)∈sc.names)(h2:sc.names.lookup x=Vn .cell):False:=by have:=FK.mp h _ a;simp[h2]at this
def C2(h:fK sc out=true){p:Vm×NameKind}(a:p∈sc.names)(b:p.2=.cell):sc.names.lookup p.1=Vn .cell:=by have:=FK.mp h p a;simp[b]at this;exact this
def ya(h:fK sc out=true){p:Vm×NameKind}(a:p∈sc.names)(b:p.2=.local):sc.names.lookup p.1=Vn .local:=by have:=FK.mp h p a;simp[b]at this;exact this
section
variable {X:Cx} {pins:List (Vb×Obj)} {σ:St} {H:Hp} {s:Vc}
def jN(ok:X.Ok)(hb:fK sc X.env.scope=true)(h:(eh sc.names X.env.cells).lookup x=Vn c):X.env.cells.lookup x=Vn c:=by
 rcases lN X.env.cells sc.names [] x c h with⟨h1,h2⟩|h1
 .obtain⟨d,hd⟩:=ok.has x (kA hb h1 rfl);rw[hd]at h2 ⊢;rw[h2];rfl
 .simp at h1
def i9(ok:X.Ok)(hb:fK sc X.env.scope=true)(h:(iT X sc C).lookup x=Vn c):X.env.cells.lookup x=Vn c\/(@LT.lt Nat _ C c/\sc.names.lookup x=Vn .cell):=by
 rcases iL _ _ _ h with h|⟨h1,h2⟩
 .exact .inl (jN ok hb h)
 .exact .inr ⟨h1,C2 hb h2 rfl⟩
def oK(h:(x,NameKind.free)∈sc.names):∃c,(iT X sc C).lookup x=Vn c:=by obtain⟨c,a⟩:=sC (cells:=X.env.cells) h;exact GR.mp (Gu sc.names _ _ (.inr (by rw[a];rfl)))
def C0(I:Inv X pins σ H s)(hb:fK sc X.env.scope=true)(h:(eh sc.names X.env.cells).lookup x=Vn c):@LT.lt Nat _ c s.heap.objs.size:=I.cell_lt (jN I.ok hb h)
def Br(I:Inv X pins σ H s)(j:sc.kind=.function)(hb:fK sc X.env.scope=true)
  (hfp:∀b∈fp,dS X pins H b) (d:s.heap.objs.size<=C) (hlt:∀b∈fp,b<s.heap.objs.size):(di X sc own js ⟨s,H,fp,C⟩).Ok where
 mod:=I.ok.mod
 kind:=j
 glob:=I.ok.glob
 blt:=I.ok.blt
 above:=d
 inj:=λx y c h1 h2=>kC sc.names _ _ (λx c e=>Nat.lt_succ_of_le (FI (HE (C0 I hb e)) d)) (λx y c f l=>I.ok.inj x y c (jN I.ok hb f) (jN I.ok hb l)) h1 h2
 has:=λx g=>by
  have i:=g;have go:∀k,(relabel sc X.env).names.lookup x=Vn k->(k=.cell\/k=.free)->∃c,(iT X sc C).lookup x=Vn c:=λk h hkk=>by
   obtain⟨p,h1,h2⟩:=lK (sc:=sc) (env:=X.env) h;have m:=jm h1;rcases h2 with h2|⟨h2,_⟩
   .subst h2;rcases hkk with e|e
    .rw[e]at h1;exact GR.mp (Gu sc.names _ _ (.inl h1))
    .rw[e]at m;exact oK m
   .rw[h2]at m;exact oK m
  rcases i with h|h
  .exact go _ h (.inl rfl)
  .exact go _ h (.inr rfl)
 cab:=λx c h e=>by
  have g:sc.names.lookup x=Vn .cell:=by simpa[di]using h
  have e':(iT X sc C).lookup x=Vn c:=e;rcases iL _ _ _ e' with f|⟨f,_⟩
  .rcases lN X.env.cells sc.names [] x c f with⟨h1,_⟩|h1
   .exact(zK hb h1 g).elim
   .simp at h1
  .exact FI d (Iw f)
 hd:=I.ok.hd
 frames:=I.ok.frames
 stk:=.inl rfl
 exf:=λb a=>⟨Ft (FH (hlt b a) d),λx c e=>by
  rcases i9 I.ok hb e with e|⟨e,_⟩
  .exact(hfp b a).2.2.2.2.1 x c e
  .exact HL (LZ (FH (hlt b a) d) e)⟩
 bs:=I.bs
 bsz:=FI I.ok.bsz I.sz
 noex:=λb o e a=>by
  rcases(hfp b a).2.2.2.1 with z|z
  .exact I.ok.noex b o e z
  .exact absurd (FH (E6 e) (FI I.ok.bsz z)) (Gy _)
 exfs:=λb a n=>by
  rcases Fo.mp (I.stkSub b n)with e|h
  .exact(hfp b a).2.1 e
  .exact(hfp b a).2.2.1 h
 funs:=I.stack
 frf:=I.stkFree
theorem AY(I:Inv X pins σ H s){m:Vm->Option Va}(P:sc.kind=.function)(hb:fK sc X.env.scope=true)(Q:kP sc X.N js=true)
  (hfp:∀b∈fp,dS X pins H b) (hlt:∀b∈fp,b<s.heap.objs.size) (hD:D=s.heap.objs.size) (hC:C=s.heap.objs.size+1) (old:∀b o,s.heap.get? b=Vn o->h1.get? b=Vn o)
  (A:h1.get? D=Vn o) (B:∀v,o.data≠.cell v) (R:h1.Ns C m) (hcl:∀x c,(iT X sc C).lookup x=Vn c->(eh sc.names X.env.cells).lookup x=Vn c\/h1.IsCell c Vo) :
  Inv (di X sc own js ⟨s,H,fp,C⟩) [(D,o)] (dW own.length js σ) H { s with heap:=h1,toks:=tk } where
 ok:=Br I P hb hfp (by lia) hlt
 os:=rfl
 bare:=I.bare
 base:=Un.kept old
 loc:=by
  refine⟨m,R,λi x v S T U=>?_⟩;obtain⟨k,j,rfl,M,es⟩:=xJ T;have n:(own++js.map λj=>X.N.getD j "")[own.length+k]?=Vn x:=S;rw[Fy (by lia),J5,E9,M]at n;have ex:X.N.getD j "" = x:=by simpa using n
  have g:=FK.mp Q j (Fh M);simp only[FO,decide_eq_true_eq,beq_iff_eq]at g;have E:X.N[j]?=some x:=by rw[<-ex,GV,E8 g.1];rfl
  have a:sc.names.lookup x=some .free:=by rw[<-ex];exact g.2
  have hmem:=jm a;have f:=kA hb hmem rfl;obtain⟨m0,W,F⟩:=I.loc;obtain⟨u,r,l⟩:=F j x v E es (by rcases f with z|z;exact .inr (.inl z);exact .inr (.inr z));refine⟨u,r,?_⟩;obtain⟨c,O⟩:=oK (X:=X) (C:=C) hmem;have G:X.env.cells.lookup x=Vn c:=by
   rcases i9 I.ok hb O with e|⟨_,e⟩
   .exact e
   .rw[a]at e;cases e
  have h:s.heap.IsCell c (Vn u):=by
   rcases l with⟨z,_⟩|⟨_,c',e',q⟩
   .have Y:X.env.scope.names.lookup x=Vn .local:=z;rcases f with w|w<;>(rw[Y]at w;cases w)
   .rw[G]at e';cases e';exact q
  have d:h1.IsCell c (Vn u):=by obtain⟨oc,ho,hd⟩:=h;exact⟨oc,old c oc ho,hd⟩
  right;refine⟨?_,c,O,d⟩;have J:(relabel sc X.env).names.lookup x=Vn .local\/(relabel sc X.env).names.lookup x=Vn .cell\/(relabel sc X.env).names.lookup x=Vn .free:=U;rcases J with z|z
  .obtain⟨k',L,y⟩:=lK (sc:=sc) (env:=X.env) z;rw[a]at L;rcases y with y|⟨_,y⟩
   .rw[y]at L;cases L
   .cases y
  .exact z
 cell:=λx c e=>by
  rcases hcl x c e with e|e
  .obtain⟨v,oc,ho,hd⟩:=I.cell x c (jN I.ok hb e);exact⟨v,oc,old c oc ho,hd⟩
  .exact⟨Vo,e⟩
 free:=I.hok.fresh (show @LE.le Nat _ s.heap.objs.size C by lia)
 freeC:=λx c e=>by
  rcases i9 I.ok hb (C:=C) e with e|⟨e,_⟩
  .exact I.freeC x c e
  .exact I.hok.fresh (show @LE.le Nat _ s.heap.objs.size c by lia)
 pin:=λp Z=>by
  have e:p=(D,o):=by simpa[di]using Z
  subst e;refine⟨A,I.hok.fresh (show @LE.le Nat _ s.heap.objs.size D by lia),?_,λz=>?_,B⟩
  .exact Ft (show @LT.lt Nat _ D C by lia)
  .have h9:@LT.lt Nat _ D s.heap.objs.size:=I.stk_lt (b:=D) z;lia
 hok:=I.hok.kept old
 len:=by show(dW own.length js σ).length=(own++js.map λj=>X.N.getD j "").length;simp[dW]
theorem xi{RR:Va->Vb->Result->Vc->Prop}
  {Q:VK} {W:Nat->Nat->List V->Hp->Prop} (hk:sc.kind=.function) (hb:fK sc X.env.scope=true) (hj:kP sc X.N js=true)
  (hg:∀C,PG (di X sc own js ⟨s,H,fp,C⟩) tg g) (ht:∀C,j4 (di X sc own js ⟨s,H,fp,C⟩) ifs tc) (he:∀C,PE (di X sc own js ⟨s,H,fp,C⟩) elt te)
  (I:Inv X pins σ H s) (T:∀C,TurnAt (di X sc own js ⟨s,H,fp,C⟩) tg J fp it tn) (st:tn 0 s.heap) (hfp:∀b∈fp,dS X pins H b) (w0:∃m,W 0 m [] H)
  (turn:∀i m ys H',W i m ys H'->(J.stop i H'/\∀p,H' p=Vo->Q (.ref p) (upd H' p (.lst ys))) ∨
   (J.go i H'/\ys.length<sizeLine/\∃N:List V->Hp->Prop,(∀ys' H2,N ys' H2->∃m',m'<m/\W (i+1) m' ys' H2)/\∀x H2,J.yld i H' x H2->g x (dW own.length js σ) H2 λad M=>tc ad M λb H4=>
    if b=true then te ad H4 λv H5=>N (ys++[v]) H5 else N ys H4))
  (fin:∀D C s' ys H',H' D=Vo->Inv X pins σ (upd H' D (.lst ys)) s'->dS X pins (upd H' D (.lst ys)) C->(∃m,s'.heap.Ns C m)->s.heap.objs.size<=C->Q (.ref D) (upd H' D (.lst ys))->RR (.ref D) C (.ok .next) s') :
  Vf (Vg X.prog X.w) X.A (newList []) (λacc G=>Vf (Vg X.prog X.w) X.A (newFunctionEnv sc X.env.globals (eh sc.names X.env.cells) [] X.env.qual Vo .none (Vn X.env)) (λa2 ah=>
   codeAny (Vg X.prog X.w) X.A (.compStart (.ListComp elt [⟨tg,iter,ifs,0⟩] sc pos) 0 (.ref it) acc { a2 with scope:=relabel sc X.env }) (RR acc a2.locals) ah) E G) E s:=by
 have hlt:∀b∈fp,b<s.heap.objs.size:=λb f=>by obtain⟨o,e,_⟩:=(T 0).obj 0 s.heap st b f;exact E6 e
 refine wpAny_newObj_type (Dw ?_);generalize a4:s.heap.push { cls:=.type "list",dict:=none,data:=.seq ([]:List Va).toArray }=H2 at *;have b1:H2.objs.size=s.heap.objs.size+1:=by rw[<-a4,Gx]
 have S:(pushCells (H2.push { cls:=.type "dict",data:=.dict #[] }) sc.names).Ns H2.objs.size (λ_=>none):=(Heap.Ns.new H2 (.type "dict")).keeps (pushCells_keeps _ _);have Z:∀x c,(iT X sc H2.objs.size).lookup x=some c->(eh sc.names X.env.cells).lookup x=some c\/(pushCells (H2.push { cls:=.type "dict",data:=.dict #[] }) sc.names).IsCell c none:=λx c e=>by have e':(cellsFrom (H2.objs.size+1) sc.names (eh sc.names X.env.cells)).lookup x=some c:=e;rw[<-Gx H2 { cls:=.type "dict",data:=.dict #[] }]at e';exact pj _ _ _ e'
 have old:∀b o,s.heap.get? b=Vn o->(pushCells (H2.push { cls:=.type "dict",data:=.dict #[] }) sc.names).get? b=Vn o:=λb o e=>pushCells_keeps _ _ b o (E4 _ (a4 ▸ E4 _ e));have b2:(pushCells (H2.push { cls:=.type "dict",data:=.dict #[] }) sc.names).get? s.heap.objs.size=Vn (fu [] 0):=pushCells_keeps _ _ _ _ (E4 _ (a4 ▸ E5 _ rfl));generalize pushCells (H2.push { cls:=.type "dict",data:=.dict #[] }) sc.names=B at *;generalize bv:H2.objs.size=C at *;have below:∀b:Nat,b<s.heap.objs.size->b≠C:=λb f=>by lia
 generalize a0:s.heap.objs.size=D at *;let Y:Cx:=di X sc own js ⟨s,H,fp,C⟩;have J0:Inv Y [(D,fu [] 0)] (dW own.length js σ) H { s with heap:=B }:=
  AY I hk hb hj hfp (by rw[a0];exact hlt) a0.symm (by rw[a0];exact b1) old b2 (λv z=>by cases z) S Z
 have a5:@Ne Nat D C:=by lia
 have statF:∀{P':List (Vb×Obj)} {H':Hp},(∀b∈fp,H' b=Vo)->(∀p∈P',p.1∉fp)->∀b∈fp,dS Y P' H' b:=λ{P' H'} hn L b f=>by
  obtain⟨f0,f1,f2,f3,f4,f5⟩:=hfp b f;refine⟨hn b f,λz=>below b (hlt b f) z,λz=>?_,.inl f,λx c e=>?_,λp a6 z=>?_⟩
  .rcases Fo.mp (I.stkSub b z)with e|h
   .exact f1 e
   .exact f2 h
  .rcases i9 I.ok hb (C:=C) e with e|⟨e,_⟩
   .exact f4 x c e
   .have h9:@LT.lt Nat _ b s.heap.objs.size:=by rw[a0];exact hlt b f
    exact HL (show @LT.lt Nat _ b c by lia)
  .have:p∈P':=by simpa[Y,di]using a6
   exact L p this (by rw[z];exact f)
 have ai:D∉fp:=λz=>by have h9:@LT.lt Nat _ D D:=hlt D z;lia
 have aj:tn 0 B:=(T 0).keep 0 s.heap B st λb _ o e=>old b o e;have loop:∀G:Vc,G={ s with heap:=B } ->
   codeAny (Vg X.prog X.w) X.A (.compLoop (.ListComp elt [⟨tg,iter,ifs,0⟩] sc pos) 0 (.ref it) (.ref D) Y.env) (RR (.ref D) C) G:=by
  rintro G rfl;obtain⟨m0,w0⟩:=w0;refine Bv (λn s'=>∃i ys l q H',Inv Y [(D,fu l q)] (dW own.length js σ) H' s'/\Vals ys l/\ys.length<=sizeLine/\tn i s'.heap/\(∀b∈fp,H' b=Vo)/\W i n ys H') ?_ m0
   ⟨0,[],[],0,H,J0,.nil,GO _,aj,λb f=>(hfp b f).1,w0⟩
  rintro n s3 ⟨i,ys,l,q,M,I3,rv,hz,ak,am,w3⟩;have pD:∀p∈[(D,fu l q)],p.1∉fp:=λp L=>by
   have e:p=(D,fu l q):=by simpa using L
   rw[e];exact ai
  rcases turn i n ys M w3 with⟨stop,qn⟩|⟨go,hlen,N,hN,step⟩
  .refine aM ((T C).done i _ s3 _ M _ I3 (statF am pD) ak stop) λr s4 ⟨hr,I4⟩=>?_;subst hr;show RR (.ref D) C (.ok .next) s4;have O:=I4.pin (D,fu l q) (FR _ (Fi.mpr rfl));have b3:s4.heap.get? D=Vn (fu l q):=O.1;have nD:M D=Vo:=O.2.1;have U:Un (dZ X.stack) fp H M s.heap s4.heap:=I4.base;have neD:∀b o,s.heap.get? b=Vn o->b≠D:=λb o e=>Ft (by have h9:@LT.lt Nat _ b s.heap.objs.size:=E6 e;lia);have neDH:∀b o,H b=Vn o->b≠D:=λb o e=>Ft (by have h9:@LT.lt Nat _ b s.heap.objs.size:=I.hok.lt e;lia);have U2:Un (dZ X.stack) fp H (upd M D (.lst ys)) s.heap s4.heap:=
    ⟨U.keep,U.slot,λb o e n hx=>by rw[aB (neD b o e)];exact U.free b o e n hx,U.there,λb xs e=>by rw[aB (neDH b _ e)];exact U.tups b xs e,
     λb o u e=>by rw[aB (neDH b _ e)];exact U.frzs b o u e,λb ps e=>by rw[aB (neDH b _ e)];exact U.tbls b ps e⟩
   have an:bK X.prog X.w (upd M D (.lst ys)) s4.heap:=λb o e=>by
    by_cases f:b=D
    .subst f;rw[aF]at e;cases e;exact⟨hz,l,q,rv,b3⟩
    .rw[aB f]at e;exact(I4.hok b o e).stay (λc u _ z=>z) (λc z=>by rw[aB (cG z nD)];exact z) λc xs z=>by rw[aB (cG z nD)];exact z
   have IX:Inv X pins σ (upd M D (.lst ys)) s4:=I.call' (ch:=fp) I4.os U2 an I4.bare λb f=>by obtain⟨f0,f1,f2,f3,f4,f5⟩:=hfp b f;exact⟨f3,f1,f4,f5⟩
   obtain⟨m4,b4,_⟩:=I4.loc;have nC:M C=Vo:=I4.free;refine fin D C s4 ys M nD IX ?_ ⟨m4,b4⟩ (show @LE.le Nat _ D C by lia) (qn D nD);refine⟨by rw[aB (Gi a5)];exact nC,?_,?_,?_,?_,?_⟩
   .have h9:@LT.lt Nat _ X.env.locals s.heap.objs.size:=I.lt;exact HL (show @LT.lt Nat _ X.env.locals C by lia)
   .exact I.nofs (show @LE.le Nat _ s.heap.objs.size C by lia)
   .right;have h9:@LE.le Nat _ X.s₀.heap.objs.size s.heap.objs.size:=I.sz;exact(show @LE.le Nat _ X.s₀.heap.objs.size C by lia)
   .intro x c e;have h9:@LT.lt Nat _ c s.heap.objs.size:=I.cell_lt e;exact Ft (show @LT.lt Nat _ c C by omega)
   .intro p L;have h9:@LT.lt Nat _ p.1 s.heap.objs.size:=I.pin_lt L;exact Ft (show @LT.lt Nat _ p.1 C by omega)
  .refine aM ((T C).item i _ s3 _ M _ I3 (statF am pD) ak go) λr s4 ⟨u,hr,h4⟩=>?_;subst hr;refine aM h4 λ_ s5 ⟨x,H5,I5,r5,y5,a9,ba⟩=>?_;have bb:=I5.pinned (statF ba pD) ((T 0).obj _ _ a9);refine aM (hg _ _ s5 _ H5 x u _ bb r5 (step x H5 y5)) λ_ s6 ⟨a1,H6,I6,q6⟩=>?_;refine aM (ht _ _ s6 a1 H6 _ I6 q6) λok s7 ⟨H7,I7,q7⟩=>?_;have back:∀{s':Vc} {ap:St} {H':Hp} {ys':List V} {its':List Va} {q':Nat},Inv Y ([(D,fu its' q')]++ie fp s5.heap) ap H' s'->Vals ys' its'->ys'.length<=sizeLine->N ys' H' ->
     ∃m,m<n/\∃i ys l q H',Inv Y [(D,fu l q)] (dW own.length js σ) H' s'/\Vals ys l/\ys.length<=sizeLine/\tn i s'.heap/\(∀b∈fp,H' b=Vo)/\W i m ys H':=by
    intro s' ap H' ys' its' q' I' bc be nn;obtain⟨m',hm,w'⟩:=hN ys' H' nn;have hpin:∀b∈fp,∀o,s5.heap.get? b=Vn o->s'.heap.get? b=Vn o/\H' b=Vo:=λb f o e=>by have:=I'.pin (b,o) (FR _ (FR _ (m8 f e)));exact⟨this.1,this.2.1⟩
    refine⟨m',hm,i+1,ys',its',q',H',?_,bc,be,(T 0).keep _ _ _ a9 λb f o e=>(hpin b f o e).1,λb f=>?_,w'⟩
    .have y:=I'.unpinned;obtain⟨mm,bg,_⟩:=id y.loc;refine⟨y.ok,y.os,y.bare,y.base,⟨mm,bg,λk x v e1 e2 e3=>?_⟩,y.cell,y.free,y.freeC,y.pin,y.hok,?_⟩
     .obtain⟨m1,c0,bi⟩:=J0.loc;obtain⟨u1,r1,l1⟩:=bi k x v e1 e2 e3;refine⟨u1,r1,?_⟩;obtain⟨k',j,rfl,ej,es⟩:=xJ e2;have aq:(own++js.map λj=>X.N.getD j "")[own.length+k']?=Vn x:=e1;rw[Fy (by omega),J5,E9,ej]at aq;have ex:X.N.getD j "" = x:=by simpa using aq
      have ar:=FK.mp hj j (Fh ej);simp only[FO,decide_eq_true_eq,beq_iff_eq]at ar;have P:sc.names.lookup x=some .free:=by rw[<-ex];exact ar.2
      rcases l1 with⟨z,zz⟩|⟨z,c,e,zz⟩
      .exfalso;obtain⟨k2,z1,z2⟩:=lK (sc:=sc) (env:=X.env) (show(relabel sc X.env).names.lookup x=Vn .local from z);rw[P]at z1;rcases z2 with z2|⟨_,z2⟩
       .rw[z2]at z1;cases z1
       .cases z2
      .refine .inr ⟨z,c,e,?_⟩;have ab:X.env.cells.lookup x=Vn c:=by
        rcases i9 I.ok hb (C:=C) e with e|⟨_,e⟩
        .exact e
        .rw[P]at e;cases e
       obtain⟨ov,oc,as,c1⟩:=I.cell x c ab;have au:=old c oc as;obtain⟨oz,bl,bm⟩:=zz;have a3:B.get? c=Vn oz:=bl;rw[au]at a3;cases a3;have cnf:c∉fp:=λz'=>(hfp c z').2.2.2.2.1 x c ab rfl;obtain⟨sl,hh⟩:=y.base.any as (I.freeC x c ab) cnf;exact⟨_,hh,bm⟩
     .show(dW own.length js σ).length=_;exact J0.len
    .obtain⟨o,e,d⟩:=(T 0).obj _ _ a9 b f;exact(hpin b f o e).2
   cases ok with
   | false=>
    rw[F5 Fp]at q7 ⊢;exact back I7 rv hz q7
   | true=>
    rw[F6 rfl]at q7 ⊢;refine aM (he _ _ s7 a1 H7 _ I7 q7) λR s8 ⟨v,H8,I8,r8,q8⟩=>?_;have O:=I8.pin (D,fu l q) (FR _ (FT _ (Fi.mpr rfl)));have ac:s8.heap.get? D=Vn { cls:=.type "list",data:=.seq l.toArray q }:=O.1;have hl:=rv.length;refine call_meets F.slot_list_append ⟨_,ac,rfl⟩ F.entry_list_append (F.args_list_append_2 _ _) (LW D l.toArray q R (by rw[Fd];omega)) ⟨ac,?_⟩;have qq:=Lg ac (λa=>a.push R);have eqs:l.toArray.push R=(l++[R]).toArray:=by simp
    rw[eqs]at qq;obtain⟨q2,bn⟩:∃q2,(s8.heap.update D (Hx λa=>a.push R)).get? D=Vn (fu (l++[R]) q2):=⟨_,qq⟩;have bu:Inv Y (ie fp s5.heap) a1 H8 s8:=I8.pins_of λp L=>I8.pin p (FR _ (FR _ L));have b0:H8 D=Vo:=O.2.1;have I9:Inv Y (ie fp s5.heap) a1 H8 { s8 with heap:=s8.heap.update D (Hx λa=>a.push R),toks:=s8.toks }:=by
     refine bu.turned (it:=D) (λb o f e=>(Gk s8.heap (Hx λa=>a.push R) (Gi f)).trans e) b0 a5 (.inr (show @LE.le Nat _ s.heap.objs.size D by omega)) (λx c e=>?_) λp L=>?_
     .rcases i9 I.ok hb (C:=C) e with e|⟨e,_⟩
      .have h9:@LT.lt Nat _ c s.heap.objs.size:=I.cell_lt e;exact Ft (show @LT.lt Nat _ c D by omega)
      .exact HL (show @LT.lt Nat _ D c by omega)
     .have a6:p∈ie fp s5.heap:=by simpa[Y,di]using L
      obtain⟨h1,_⟩:=rV a6;exact λz=>ai (z ▸ h1)
    refine back (ys':=ys++[v]) (its':=l++[R]) (q':=q2) (I9.pins_of λp L=>?_) (rv.append (.cons r8 .nil)) (by rw[Fs,GG];omega) q8;rcases Fx.mp L with L|L
    .have e:p=(D,fu (l++[R]) q2):=by simpa using L
     subst e;refine⟨bn,b0,a5,λz=>?_,λv z=>by cases z⟩;have h9:@LT.lt Nat _ D s.heap.objs.size:=I.stk_lt (b:=D) z;omega
    .exact I9.pin p (FR _ L)
 exact codeAny_compStart_list (loop _ rfl) ((T 0).self X.A 0 { s with heap:=B } _ _ aj (loop _ rfl))
def cK{pos:Pos}(own:List Vm)(js:List Nat){i:TI}{te:TE}(hi:PI X tg iter i)(n:∀z,PG (di X sc own js z) tg g)(r:∀z,j4 (di X sc own js z) ifs tc)
  (u:∀z,PE (di X sc own js z) elt te) (y:X.calm=true:=by rfl) (j:sc.kind=.function:=by rfl) (hb:fK sc X.env.scope=true:=by rfl) (B:kP sc X.N js=true:=by rfl)
  (hs:∀x,foldedSetIterable iter X.env x=pure x:=by intro _;rfl):PE X (.ListComp elt [⟨tg,iter,ifs,0⟩] sc pos) (mS own.length js i g tc te):=by
 intro pins s σ H Q I h;refine wpAny_comprehension_free rfl hs (nG λp a E=>I.ok.has p.1 (kA hb a E)) j (λp a F=>ya hb a F) (aM (hi pins s σ H _ I h) λv s1 h1=>aM h1 λG s2 h2=>?_);obtain⟨it,fp,tn,J,H2,e,L,T,c,l,W,M,turn⟩:=h2;subst e;refine xi j hb B (λ_=>n _) (λ_=>r _) (λ_=>u _) L (λC=>Turn.at_ T y) c l M turn ?_;intro D C s' ys H' nD O P ⟨m,R⟩ _ q;refine⟨m,R,λh' d=>?_⟩;obtain⟨S,U,l,Z,f4,f5⟩:=P;exact⟨.ref D,_,O.turned (λb o f e=>(d.2 b f).trans e) S U Z f4 f5,rfl,q⟩
end
def eE(c:Vb)(o:Obj):HO:=.ext λh=>h.get? c=Vn o
def Ar(r:h.get? c=Vn o):bN P w H h c (eE c o):=⟨r,⟨o,r⟩,λh1 h2 r1 k=>k o r1⟩
def cq(cs:List (Vb×Obj))(H:Hp):Hp:=λb=>match cs.lookup b with|some o=>Vn (eE b o)|none=>H b
def bE(cs:List (Vb×Obj))(H:Hp):Hp:=λb=>match cs.lookup b with|some _=>Vo|none=>H b
section
variable {cs:List (Vb×Obj)} {H H':Hp} {b:Vb} {o:Obj} {P:Vd} {w:Ve} {h h':Vh} {fs ex:List Vb}
def fU(q:cs.lookup b=Vn o):cq cs H b=Vn (eE b o):=by unfold cq;rw[q]
def dO(q:cs.lookup b=Vo):cq cs H b=H b:=by unfold cq;rw[q]
def iC(q:cs.lookup b=Vn o):bE cs H b=Vo:=by unfold bE;rw[q]
def cZ(q:cs.lookup b=Vo):bE cs H b=H b:=by unfold bE;rw[q]
def AN{u:HO}(q:bE cs H b=Vn u):cs.lookup b=Vo/\H b=Vn u:=by
 cases e:cs.lookup b with
 | none=>rw[cZ e]at q;exact⟨rfl,q⟩
 | some o=>rw[iC e]at q;cases q
def pE{u:HO}(a:∀b o,cs.lookup b=Vn o->H b=Vo)(q:H b=Vn u):cq cs H b=Vn u:=by
 cases e:cs.lookup b with
 | none=>rw[dO e];exact q
 | some o=>rw[a b o e]at q;cases q
def tG(hok:bK P w H h)(c:∀b o,cs.lookup b=Vn o->h.get? b=Vn o)(a:∀b o,cs.lookup b=Vn o->H b=Vo):bK P w (cq cs H) h:=λb u e=>by
 cases q:cs.lookup b with
 | some o=>rw[fU q]at e;cases e;exact Ar (c b o q)
 | none=>
  rw[dO q]at e;exact(hok b u e).stay (λd v _ g=>g) (λd hd=>pE a hd) λd xs hd=>pE a hd
def xB(hok:bK P w H h)(c:∀b o,cs.lookup b=Vn o->H b=Vn (eE b o)):bK P w (bE cs H) h:=λb u e=>by
 obtain⟨q,e⟩:=AN e;have a:∀d x,H d=Vn x->(∀f,x≠.ext f)->bE cs H d=Vn x:=λd x hd nx=>by
  cases z:cs.lookup d with
  | none=>rw[cZ z];exact hd
  | some o'=>rw[c d o' z]at hd;cases hd;exact absurd rfl (nx _)
 exact(hok b u e).stay (λd v _ g=>g) (λd hd=>a d _ hd λf z=>by cases z) λd xs hd=>a d _ hd λf z=>by cases z
def Cf(u:Un fs ex (cq cs H) H' h h')(hok':bK P w H' h')(f:∀b o,cs.lookup b=Vn o->h.get? b=Vn o)(c:∀b o,cs.lookup b=Vn o->H b=Vo)(a:∀b o,cs.lookup b=Vn o->H' b=Vn (eE b o)):Un fs ex H (bE cs H') h h' where
 keep:=λb o e n d nx=>by
  cases q:cs.lookup b with
  | none=>exact u.keep b o e (by rw[dO q];exact n) d nx
  | some o'=>
   rw[f b o' q]at e;cases e;exact(hok' b _ (a b _ q)).1
 slot:=λb o e n d nx=>by
  cases q:cs.lookup b with
  | none=>exact u.slot b o e (by rw[dO q];exact n) d nx
  | some o'=>
   rw[f b o' q]at e;cases e;exact⟨_,(hok' b _ (a b _ q)).1⟩
 free:=λb o e n nx=>by
  cases q:cs.lookup b with
  | none=>rw[cZ q];exact u.free b o e (by rw[dO q];exact n) nx
  | some o'=>exact iC q
 there:=u.there
 tups:=λb xs e=>by
  cases q:cs.lookup b with
  | none=>rw[cZ q];exact u.tups b xs (by rw[dO q];exact e)
  | some o'=>rw[c b o' q]at e;cases e
 frzs:=λb o x e=>by
  cases q:cs.lookup b with
  | none=>rw[cZ q];exact u.frzs b o x (by rw[dO q];exact e)
  | some o'=>rw[c b o' q]at e;cases e
 tbls:=λb ps e=>by
  cases q:cs.lookup b with
  | none=>rw[cZ q];exact u.tbls b ps (by rw[dO q];exact e)
  | some o'=>rw[c b o' q]at e;cases e
def D5(u:Un fs ex (bE cs H) H' h h')(a:∀b o,cs.lookup b=Vn o->H b=Vn (eE b o)):Un fs ex H (cq cs H') h h' where
 keep:=λb o e n c nx=>by
  cases q:cs.lookup b with
  | none=>exact u.keep b o e (by rw[cZ q];exact n) c nx
  | some o'=>rw[a b o' q]at n;cases n
 slot:=λb o e n c nx=>by
  cases q:cs.lookup b with
  | none=>exact u.slot b o e (by rw[cZ q];exact n) c nx
  | some o'=>rw[a b o' q]at n;cases n
 free:=λb o e n nx=>by
  cases q:cs.lookup b with
  | none=>rw[dO q];exact u.free b o e (by rw[cZ q];exact n) nx
  | some o'=>rw[a b o' q]at n;cases n
 there:=u.there
 tups:=λb xs e=>by
  cases q:cs.lookup b with
  | none=>rw[dO q];exact u.tups b xs (by rw[cZ q];exact e)
  | some o'=>rw[a b o' q]at e;cases e
 frzs:=λb o x e=>by
  cases q:cs.lookup b with
  | none=>rw[dO q];exact u.frzs b o x (by rw[cZ q];exact e)
  | some o'=>rw[a b o' q]at e;cases e
 tbls:=λb ps e=>by
  cases q:cs.lookup b with
  | none=>rw[dO q];exact u.tbls b ps (by rw[cZ q];exact e)
  | some o'=>rw[a b o' q]at e;cases e
end
structure FunR(P:Vd)(w:Ve)(K:E3)(mg:Vm->Option Va)(base:Vh)(k:Nat)(f:Vb)(pre:Hp->Prop)(R:List V->Hp->VK->Prop):Prop where
 at_:∀H h,bK P w H h->pre H->PySem.W.FnAt f h
 run:∀(A:Vi) (outer:List Env) (s:Vc) (H:Hp) (us:List Va) (vs:List V) (Q:VK),Room k A->Env0 P w K mg base A outer s H->pre H->Vals vs us->R vs H Q ->
  codeAny (Vg P w) A (.call (.ref f) ⟨us,[]⟩) (CR dP outer P w H s Q E0) s
def qV(P:Vd)(w:Ve)(K:E3)(mg:Vm->Option Va)(base:Vh)(k:Nat)(a:TE)(ta:TA):TE:=λσ H Q=>a σ H λb H1=>∃f pre R,b=.ref f/\FunR P w K mg base k f pre R/\pre H1/\ta σ H1 λvs H2=>pre H2/\R vs H2 Q
def vH{K:E3}{k:Nat}{x:Vm}{p pos:Pos}{e:Vk}{es:List Vk}{g:TE}{ta:TA}{i:Vi}(l:Room k i)(m:PE X (.Name x p) g)(ha:PA X (e::es) ta)(hA:X.A=i:=by rfl)(n:X.prog=P:=by rfl)(o:X.w=w:=by rfl)(q:X.K=K:=by rfl)(y:X.mg=mg:=by rfl)(z:X.base=base:=by rfl)
  (B:starEach (e::es) X.env=(false,eval e X.env)::starEach es X.env:=by rfl) (c:(backTo pos (starEach es X.env)).any (·.1)=false:=by rfl):PE X (.Call (.Name x p) (e::es) [] pos) (qV P w K mg base k g ta):=by
 subst hA;subst n;subst o;subst q;subst y;subst z;intro pins s σ H Q I h;refine wpAny_Call_Name_kw (aM (m pins s σ H _ I h) λL s1 ⟨v,H1,j,r1,⟨f,pre,R,ev,F,C,E⟩⟩=>?_);subst ev;cases r1;refine PySem.W.callWith_F (F.at_ _ _ j.hok C) (aM (ha pos pins s1 σ H1 _ j E) λus s2 ⟨vs,H2,d,G,⟨a,J⟩⟩=>?_) B c;refine⟨F.at_ _ _ d.hok a,?_⟩;refine wpAny_call (codeAny_mono (F.run X.A X.stack s2 H2 us vs Q l d.env0 a G J) λr s' b=>?_);cases r with
 | error e=>exact GZ b
 | ok fl=>
  cases fl with
  | ret u=>exact d.after b
  | next=>exact GZ b
  | brk=>exact GZ b
  | cont=>exact GZ b
structure Cap where
 n:Vm
 c:Vb
 o:Obj
 v:V
abbrev cellsOf(cp:List Cap):List (Vb×Obj):=cp.map λe=>(e.c,e.o)
structure CapAt(X:Cx)(σ:St)(h:Vh)(js:List Nat)(cp:List Cap):Prop where
 len:cp.length=js.length
 at_:∀(i j:Nat) (e:Cap),js[i]?=Vn j->cp[i]?=Vn e->X.N[j]?=Vn e.n/\X.env.cells.lookup e.n=Vn e.c/\σ[j]?=Vn (Vn e.v)/\h.get? e.c=Vn e.o/\∃u,e.o.data=.cell (Vn u)/\RelV e.v u
def il(h:(cellsOf cp).lookup b=Vn o):∃e∈cp,e.c=b/\e.o=o:=by
 have a:(b,o)∈cellsOf cp:=by
  have go:∀{l:List (Vb×Obj)},l.lookup b=Vn o->(b,o)∈l:=by
   intro l;induction l with
   | nil=>intro h;cases h
   | cons x r d=>
    intro h;obtain⟨y,z⟩:=x;rw[FY]at h;cases hb:b == y with
    | true=>rw[hb]at h;cases h;rw[beq_iff_eq.mp hb];exact Fe
    | false=>rw[hb]at h;exact Fb _ (d h)
  exact go h
 obtain⟨e,f,eq⟩:=F7.mp a;cases eq;exact⟨e,f,rfl,rfl⟩
def Bf(h:e∈cp):∃o,(cellsOf cp).lookup e.c=Vn o:=by
 induction cp with
 | nil=>cases h
 | cons x r a=>
  show ∃o,JL e.c ((x.c,x.o)::cellsOf r)=Vn o;rw[FY];cases hb:e.c == x.c with
  | true=>exact⟨_,rfl⟩
  | false=>
   rcases Fo.mp h with rfl|h
   .simp at hb
   .exact a h
def lh(sc:Scope)(N:List Vm)(js:List Nat):Bool:=js.all λj=>decide (j<N.length) && (sc.names.lookup (N.getD j "") == Vn .cell)
section
variable {X:Cx} {pins:List (Vb×Obj)} {σ:St} {H:Hp} {s:Vc}
theorem Inv.capAt(I:Inv X pins σ H s):∀{js:List Nat},lh X.env.scope X.N js=true->(∀j∈js,∃v,σ[j]?=Vn (Vn v))->∃cp,CapAt X σ s.heap js cp
 | [],_,_=>⟨[],rfl,λi j e h=>by simp at h⟩
 | j::js,p,f=>by
  have a:(decide (j<X.N.length) && (X.env.scope.names.lookup (X.N.getD j "") == Vn .cell))=true/\lh X.env.scope X.N js=true:=by simpa[lh]using p
  obtain⟨cp,b⟩:=I.capAt (js:=js) a.2 λi hi=>f i (Fb _ hi);obtain⟨v,ev⟩:=f j Fe;have h1:=a.1;simp only[FO,decide_eq_true_eq,beq_iff_eq]at h1;have g:X.N[j]?=Vn (X.N.getD j ""):=by rw[GV,E8 h1.1];rfl
  obtain⟨m,x,q⟩:=I.loc;obtain⟨u,r,l⟩:=q j _ v g ev (.inr (.inl h1.2));rcases l with⟨z,_⟩|⟨_,c,w,o,ho,hd⟩
  .have n:X.env.scope.names.lookup (X.N.getD j "")=Vn .local:=z;rw[h1.2]at n;cases n
  .refine⟨⟨X.N.getD j "",c,o,v⟩::cp,by simp[b.len],λi k e h2 d=>?_⟩;cases i with
   | zero=>
    cases h2;cases d;exact⟨g,w,ev,ho,u,hd,r⟩
   | succ i=>
    exact b.at_ i k e h2 d
def CapAt.mem(C:CapAt X σ h js cp)(a:e∈cp):X.env.cells.lookup e.n=Vn e.c/\h.get? e.c=Vn e.o/\∃u,e.o.data=.cell (Vn u)/\RelV e.v u:=by
 obtain⟨i,hi⟩:=FX a;have b:i<js.length:=by rw[<-C.len];exact(Fg.mp hi).1
 obtain⟨_,h2,_,d,f⟩:=C.at_ i _ e (E8 b) hi;exact⟨h2,d,f⟩
def B5{f:Vb}{Q:VK}(F:FnOk X.prog X.w X.K X.mg X.base dP k f fd ps sp)(y:Room k X.A)(hb:Binds X.K fd ps [])
  (I:Inv X pins σ H s) (C:CapAt X σ s.heap js cp) (hfn:∀e∈cp,X.fn e.n=true) (r:Vals vs us)
  (h:sp vs (cq (cellsOf cp) H) (λv H'=>(∀b o,(cellsOf cp).lookup b=Vn o->H' b=Vn (eE b o))/\Q v (bE (cellsOf cp) H')) E0):Vf (Vg X.prog X.w) X.A (call (.ref f) us) (EP X pins σ Q) X.xe s:=by
 have l:∀b o,(cellsOf cp).lookup b=Vn o->s.heap.get? b=Vn o:=λb o e=>by obtain⟨x,c,rfl,rfl⟩:=il e;exact(C.mem c).2.1
 have p:∀b o,(cellsOf cp).lookup b=Vn o->H b=Vo:=λb o e=>by obtain⟨x,c,rfl,rfl⟩:=il e;exact I.freeC _ _ (C.mem c).1
 have hab:∀b o,(cellsOf cp).lookup b=Vn o->X.s₀.heap.objs.size<=b:=λb o e=>by obtain⟨x,c,rfl,rfl⟩:=il e;exact I.ok.cab _ _ (hfn x c) (C.mem c).1
 have a:=I.env0;have B:Env0 X.prog X.w X.K X.mg X.base X.A X.stack s (cq (cellsOf cp) H):=by
  refine⟨a.frames,a.mod,λb o e=>⟨(a.bs b o e).1,?_⟩,a.bsz,a.funs,λb d=>?_,tG a.hok l p,a.bare⟩
  .cases q:(cellsOf cp).lookup b with
   | none=>rw[dO q];exact(a.bs b o e).2
   | some o'=>exact absurd (FH (E6 (I.ok.bs b o e).1) (hab b o' q)) (Gy _)
  .cases q:(cellsOf cp).lookup b with
   | none=>rw[dO q];exact a.frf b d
   | some o'=>
    exfalso;rcases Fo.mp (I.stkSub b d)with z|z
    .obtain⟨m,⟨E,es,ep,ho,hd,_⟩,_⟩:=I.loc;obtain⟨x,c,rfl,rfl⟩:=il q;obtain⟨_,g,u,G,_⟩:=C.mem c;rw[<-z,g]at ho;cases ho;rw[G]at hd;cases hd
    .obtain⟨_,E,ho,_⟩:=I.ok.funs.mem z;exact absurd (FH (E6 ho) (hab b o' q)) (Gy _)
 have J:us.length=ps.length:=by rw[<-r.length];exact F.len _ _ _ _ h
 refine wpAny_call (codeAny_mono (F.run X.A X.stack s (cq (cellsOf cp) H) ⟨us,[]⟩ us vs _ E0 y B (by have:=hb s us I.kIn (by simpa using J);rw[GJ]at this;exact this) r h) λr s' i=>?_);cases r with
 | error e=>exact GZ i
 | ok fl=>
  cases fl with
  | ret u=>
   obtain⟨v,H',os,bare,un,hok,L,j,q⟩:=i;exact I.after ⟨v,bE (cellsOf cp) H',os,bare,Cf un hok l p j,xB hok j,L,q⟩
  | next=>exact GZ i
  | brk=>exact GZ i
  | cont=>exact GZ i
def jw(sp:Sp)(js:List Nat)(cells:List (Vm×Vb))(N:List Vm)(ta:TA):TE:=λσ H Q=>ta σ H λvs H1=>(∀j∈js,∃v,σ[j]?=Vn (Vn v)) ∧
 ∀cp:List Cap,cp.length=js.length->(∀(i j:Nat) (e:Cap),js[i]?=Vn j->cp[i]?=Vn e->N[j]?=Vn e.n/\cells.lookup e.n=Vn e.c/\σ[j]?=Vn (Vn e.v)/\H1 e.c=Vo/\∃u,e.o.data=.cell (Vn u)/\RelV e.v u) ->
  sp vs (cq (cellsOf cp) H1) (λv H'=>(∀b o,(cellsOf cp).lookup b=Vn o->H' b=Vn (eE b o))/\Q v (bE (cellsOf cp) H')) E0
def n6{x:Vm}{k j:Nat}{e:Vk}{es:List Vk}{t:TA}{p pos:Pos}(js:List Nat)(C:Cal X.prog X.w X.K X.mg X.base x j ps sp)(m:Room k X.A)(ha:PA X (e::es) t)(c:j<=k:=by decide)(n:Gl X x:=by rfl)(d:(x == ("__debug__":Vm))=false:=by decide)
  (o:lh X.env.scope X.N js=true:=by rfl) (hfn:∀y,X.fn y=true:=by intro _;rfl)
  (u:starEach (e::es) X.env=(false,eval e X.env)::starEach es X.env:=by rfl) (g:(backTo pos (starEach es X.env)).any (·.1)=false:=by rfl) :
  PE X (.Call (.Name x p) (e::es) [] pos) (jw sp js X.env.cells X.N t):=by
 obtain⟨f,fd,v,z,hb,F⟩:=C.ex;intro pins s σ H Q I h;refine wpAny_Call_Name_kw (jv I n v ?_ d);refine LG I.ok.mod.kin z (aM (ha pos pins s σ H _ I h) λus s1 ⟨vs,H1,b,r,B,q⟩=>⟨b.kIn,?_⟩) u g;obtain⟨cp,a⟩:=b.capAt o B;refine B5 F (m.mono c) hb b a (λe _=>hfn _) r (q cp a.len λi j e h1 h2=>?_);obtain⟨E,l,G,_,J⟩:=a.at_ i j e h1 h2;exact⟨E,l,G,b.freeC _ _ l,J⟩
end
def fN(f c:Vb)(q:Vm)(params:Arguments)(body:Vk)(scope:Scope)(cl:List (Vm×Vb)):HO:=.ext λh=>∃pm a,h.get? f=Vn (JV "<lambda>" q params body scope cl pm c a)
def uH{f:Vb}{d:Va}(r:h.get? f=Vn (JV "<lambda>" q params body scope cl pm c d)):bN P w H h f (fN f c q params body scope cl):=
 ⟨⟨pm,d,r⟩,⟨_,r⟩,λh1 h2 ⟨a,b,g⟩ k=>⟨a,b,k _ g⟩⟩
def j5(sc:Scope):Bool:=sc.names.all λp=>sc.names.lookup p.1 == Vn p.2
def oM(sc out:Scope):Bool:=sc.names.all λp=>p.2 != .free || out.names.lookup p.1 == Vn .cell || out.names.lookup p.1 == Vn .free
def qx(h:j5 sc=true){p:Vm×NameKind}(a:p∈sc.names):sc.names.lookup p.1=Vn p.2:=by simpa using FK.mp h p a
def uL(h:oM sc out=true){p:Vm×NameKind}(a:p∈sc.names)(b:p.2=.free):out.names.lookup p.1=Vn .cell\/out.names.lookup p.1=Vn .free:=by have:=FK.mp h p a;simp[b]at this;exact this
structure ClOk(sc:Scope)(cells cl:List (Vm×Vb)):Prop where
 one:j5 sc=true
 fr:∀x c,cl.lookup x=Vn c->sc.names.lookup x=Vn .free/\cells.lookup x=Vn c
 has:∀x,sc.names.lookup x=Vn .free->∃c,cl.lookup x=Vn c
 inj:∀x y c,cl.lookup x=Vn c->cl.lookup y=Vn c->x=y
def Bd(ok:X.Ok)(hsc:j5 sc=true)(ho:oM sc X.env.scope=true):ClOk sc X.env.cells (eh sc.names X.env.cells):=by
 have fr:∀x c,(eh sc.names X.env.cells).lookup x=Vn c->sc.names.lookup x=Vn .free/\X.env.cells.lookup x=Vn c:=λx c h=>by
  rcases lN X.env.cells sc.names [] x c h with⟨h1,h2⟩|h1
  .obtain⟨d,hd⟩:=ok.has x (uL ho h1 rfl);refine⟨qx hsc h1,?_⟩;rw[hd]at h2 ⊢;rw[h2];rfl
  .simp at h1
 exact⟨hsc,fr,λx h=>sC (jm h),λx y c h1 h2=>ok.inj x y c (fr x c h1).2 (fr y c h2).2⟩
section
variable {X:Cx} {pins:List (Vb×Obj)} {σ:St} {H:Hp} {s:Vc}
def Ci{P f:Vb}{ps more:Array Va}(I:Inv X pins σ H s)(h:H P=Vn (.tbl ps))(b:JN P s.heap h')(l:s.heap.objs.size<=c)(i:c<f)(x:h'.get? P=Vn { cls:=.none,data:=.fields (ps++more) })
  (C:h'.CodeRec (.ref c) q) (E:h'.get? f=Vn (JV "<lambda>" q params body scope cl pm c j)) :
  Inv X pins σ (upd (upd (upd H P (.tbl (ps++more))) c (gO c q)) f (fN f c q params body scope cl)) { s with heap:=h',toks:=tk }:=by
 have A:@LE.le Nat _ s.heap.objs.size f:=FI l (HE i);have m:H c=Vo:=I.hok.fresh l;have p:H f=Vo:=I.hok.fresh A;have F:c≠P:=λz=>by rw[z,h]at m;cases m
 have G:f≠P:=λz=>by rw[z,h]at p;cases p
 have old:∀b o,H b=Vn o->b≠P->upd (upd (upd H P (.tbl (ps++more))) c (gO c q)) f (fN f c q params body scope cl) b=Vn o:=λb o e n=>by rw[aB (cG e p),aB (cG e m),aB n];exact e
 have r:∀b,H b=Vo->b≠P:=λb e z=>by rw[z,h]at e;cases e
 refine I.un ⟨λa o e n _ _=>b a o (r a n) e,λa o e n _ _=>⟨o.slots,b a o (r a n) e⟩,λa o e n _=>?_,λa o e _=>?_,λa xs e=>old a _ e (λz=>by rw[z,h]at e;cases e),λa o u e=>old a _ e (λz=>by rw[z,h]at e;cases e),λa qs e=>?_⟩ λa u e=>?_
 .have lt:@LT.lt Nat _ a s.heap.objs.size:=E6 e;rw[aB (Ft (FH lt A)),aB (Ft (FH lt l)),aB (r a n)];exact n
 .by_cases z:a=P
  .rw[z];exact⟨_,x⟩
  .exact⟨o,b a o z e⟩
 .by_cases z:a=P
  .subst z;rw[h]at e;cases e;exact⟨more,by rw[aB (Gi G),aB (Gi F),aF]⟩
  .exact⟨#[],by rw[old a _ e z];simp⟩
 .by_cases z:a=f
  .subst z;rw[aF]at e;cases e;exact uH E
  .rw[aB z]at e;by_cases B:a=c
   .subst B;rw[aF]at e;cases e;exact zC C
   .rw[aB B]at e;by_cases w:a=P
    .subst w;rw[aF]at e;cases e;exact x
    .rw[aB w]at e;refine(I.hok a u e).stay (λd v hd g=>b d v ?_ g) (λd hd=>old d _ hd (λy=>by rw[y,h]at hd;cases hd)) λd xs hd=>old d _ hd (λy=>by rw[y,h]at hd;cases hd);rcases hd with rfl|hd
     .exact w
     .exact λy=>by rw[y,h]at hd;cases hd
end
def ni(P:Vb)(pos:Pos)(q:Vm)(params:Arguments)(body:Vk)(scope:Scope)(cells:List (Vm×Vb))(H:Hp)(Q:VK):Prop:=∀cl,ClOk scope cells cl ->
 (H P=Vn (.tbl #[])/\∀f c,H c=Vo->H f=Vo->c≠P->f≠P->f≠c->Q (.ref f) (upd (upd (upd H P (.tbl #[rawInt pos.line,rawInt pos.col,.ref c])) c (gO c q)) f (fN f c q params body scope cl))) ∨
 ∃c,H P=Vn (.tbl #[rawInt pos.line,rawInt pos.col,.ref c])/\H c=Vn (gO c q)/\∀f,H f=Vo->Q (.ref f) (upd H f (fN f c q params body scope cl))
def xD(P:Vb)(pos:Pos)(q:Vm)(params:Arguments)(body:Vk)(scope:Scope)(cells:List (Vm×Vb)):TE:=λ_ H Q=>ni P pos q params body scope cells H Q
def pM{P:Vb}(a:X.env.code=.ref c)(g:X.env.globals=Vj)(C:Iq X.base c P)(E:X.base.BuiltinsAt X.mg P)(u:Vj≠P)(hsc:j5 scope=true)(d:oM scope X.env.scope=true)
  (v:params.defaults=[]) (w:params.kw_defaults=[]):PE X (.Lambda params body scope pos) (xD P pos (X.env.qual ++ "<lambda>") params body scope X.env.cells):=by
 intro pins s σ H Q I h;rw[arm_eval_Lambda,PySem.defaultsOf_eq,w,v];refine E1 (E2 (E1 (wpAny_holding (E2 ?_))));have hcl:closureFor scope X.env=pure (eh scope.names X.env.cells):=nG λp F j=>I.ok.has p.1 (uL d F j);have h:=h _ (Bd I.ok hsc d);have z:Iq s.heap c P:=C.keeps λb o e=>(I.bs b o e).1;have A:s.heap.Ns Vj X.mg:=by obtain⟨o,es,ep,e,r⟩:=I.ok.mod.glob;exact⟨o,es,ep,(I.bs _ _ e).1,r⟩
 have hb:s.heap.BuiltinsAt X.mg P:=by obtain⟨bm,o,G,L,M,N,O,R⟩:=E;exact⟨bm,o,G,L,M,N,(I.bs _ _ O).1,R⟩
 rcases h with⟨l,q⟩|⟨c',l,S,q⟩
 .have m:s.heap.get? P=Vn (Ir #[]):=I.hok P _ l;refine PySem.W.kla_makeFunction hcl g A a z m trivial rfl u hb λc' i h' tk x hge hlt hrec y=>?_;have T:H c'=Vo:=I.hok.fresh hge;have j:@LE.le Nat _ s.heap.objs.size h'.objs.size:=FI hge (HE hlt);have U:H h'.objs.size=Vo:=I.hok.fresh j;have B:@LT.lt Nat _ P s.heap.objs.size:=E6 m;have J:=Ci (cl:=eh scope.names X.env.cells) (tk:=tk) (f:=h'.objs.size) (h':=h'.push (JV "<lambda>" (X.env.qual ++ "<lambda>") params body scope (eh scope.names X.env.cells) ((X.mg "__name__").getD .none) c' i)) (more:=#[rawInt pos.line,rawInt pos.col,.ref c']) I l (λb o n e=>E4 _ (x b o n e)) hge hlt (E4 _ y) (hrec.push _) (E5 _ rfl);exact⟨.ref h'.objs.size,_,J,rfl,q _ c' T U (HL (FH B hge)) (HL (FH B j)) (HL hlt)⟩
 .have m:s.heap.get? P=Vn (Ir #[rawInt pos.line,rawInt pos.col,.ref c']):=I.hok P _ l;refine PySem.W.kla_makeFunctionHit (cv:=.ref c') hcl g A a z m trivial (by simp[codeAmong,rawInt]) hb λi h' tk x hge=>?_;exact⟨.ref h'.objs.size,_,I.laid (λb o e=>E4 _ (x b o e)) hge (uH (E5 _ rfl)),rfl,q _ (I.hok.fresh hge)⟩
def mE{K:E3}{Q:VK}{T:Vb}(v:de K x q pos.line pos.col H)(e:Gr K x=Vn (c,T))
  (h:∀f c' cl H',ClOk scope cells cl->Et H H'->de K x q pos.line pos.col H'->(∀y m p k2,(∀d a,Gr K y=Vn (d,a)->a≠T)->de K y m p k2 H->de K y m p k2 H')->H' f=Vn (fN f c' q params body scope cl)->H' c'=Vn (gO c' q)->Q (.ref f) H'):ni T pos q params body scope cells H Q:=by
 intro cl hcl;rcases v c T e with j|⟨c',j,l⟩
 .refine .inl ⟨j,λf c' B r C E w=>?_⟩;have old:∀b o,H b=Vn o->b≠T->upd (upd (upd H T (.tbl #[rawInt pos.line,rawInt pos.col,.ref c'])) c' (gO c' q)) f (fN f c' q params body scope cl) b=Vn o:=λb o hb n=>by rw[aB (cG hb r),aB (cG hb B),aB n];exact hb
  refine h f c' cl _ hcl (λb o hb n=>old b o hb λz=>by rw[z,j]at hb;cases hb;exact n _ rfl) (λd a i=>.inr ⟨c',?_,?_⟩) (λy m p k2 A s d a i=>?_) aF ?_
  .rw[e]at i;cases i;rw[aB (Gi E),aB (Gi C),aF]
  .rw[aB (Gi w),aF]
  .rcases s d a i with g|⟨F,G,u⟩
   .exact .inl (old _ _ g (A d a i))
   .exact .inr ⟨F,old _ _ G (A d a i),old _ _ u λz=>by rw[z,j]at u;cases u⟩
  .rw[aB (Gi w),aF]
 .refine .inr ⟨c',j,l,λf r=>?_⟩;have ex:Ext H (upd H f (fN f c' q params body scope cl)):=aY r;exact h f c' cl _ hcl ex.et (de.ext ex v) (λy m p k2 _ s=>s.ext ex) aF (ex _ _ l)
def nY{P:Vb}{Q:VK}(h:ni P pos q params body scope cells H Q):xD P pos q params body scope cells σ H Q:=h
theorem jx{x:Vm}{c:Vb}:∀(names:List (Vm×NameKind)) (n:Nat) (a acc:List (Vm×Vb)),(cellsFrom n names (a++acc)).lookup x=Vn c->acc.lookup x=Vn c\/(cellsFrom n names a).lookup x=Vn c
 | [],_,a,acc,h=>by
  unfold cellsFrom at h ⊢;rw[List.lookup_append]at h;cases q:a.lookup x with
  | none=>rw[q]at h;exact .inl h
  | some d=>rw[q]at h;exact .inr h
 | (y,k)::r,n,a,acc,h=>by
  unfold cellsFrom at h ⊢;by_cases b:(k == NameKind.cell)=true
  .rw[F6 b]at h ⊢;exact jx r (n+1) ((y,n)::a) acc h
  .rw[F5 b]at h ⊢;exact jx r n a acc h
structure InL(s₀:Vc)(L:Vb)(m:Vm->Option Va)(own:List (Vm×Vb))(cm:Vm->Option Va)(s:Vc):Prop where
 same:∃h' tk,s={ s₀ with heap:=h',toks:=tk }
 ns:s.heap.Ns L m
 keep:∀b o,s₀.heap.get? b=Vn o->s.heap.get? b=Vn o
 fresh:s₀.heap.objs.size<=L
 cell:∀n c,own.lookup n=Vn c->s.heap.IsCell c (cm n)
 apart:own.Pairwise λx y=>x.2≠y.2
 above:∀n c,(n,c)∈own->L<c
section
variable {M:Model} {A:Vi} {E:Va->Vc->Prop} {s₀ s:Vc} {m cm:Vm->Option Va} {env:Env} {own:List (Vm×Vb)}
def InL.st{n:Vm}{v:Va}{Q:Unit->Vc->Prop}(x:InL s₀ env.locals m own cm s)(i:env.scope.kind=.function)(j:env.kindOf n=Vn .local)
  (h:∀s',InL s₀ env.locals (λy=>if y=n then Vn v else m y) own cm s'->Q () s'):Vf M A (storeName env n v) Q E s:=by
 refine wpAny_storeName_local j x.ns (λh' d a=>h _ ⟨?_,d,λb o e=>?_,x.fresh,λk c f=>?_,x.apart,x.above⟩) (by rw[i];rfl)
 .obtain⟨g,tk,rfl⟩:=x.same;exact⟨h',_,rfl⟩
 .exact a.extBut b o (Ft (FH (E6 e) x.fresh)) (x.keep b o e)
 .exact(x.cell k c f).sameBut a (HL (x.above k c (Gg f)))
def InL.stC{n:Vm}{v:Va}{Q:Unit->Vc->Prop}(x:InL s₀ env.locals m own cm s)(l:env.scope.kind=.function)(p:env.kindOf n=Vn .cell)
  (q:env.cells.lookup n=Vn c) (ho:own.lookup n=Vn c)
  (h:∀s',InL s₀ env.locals m own (λy=>if y=n then Vn v else cm y) s'->Q () s'):Vf M A (storeName env n v) Q E s:=by
 have g:=x.above n c (Gg ho);refine wpAny_storeName_cell l p q (x.cell n c ho) λh' i d=>h _ ⟨?_,x.ns.sameBut d (Ft g),λb o e=>?_,x.fresh,λk c' a=>?_,x.apart,x.above⟩
 .obtain⟨j,tk,rfl⟩:=x.same;exact⟨h',_,rfl⟩
 .exact d.extBut b o (Ft (LZ (FH (E6 e) x.fresh) g)) (x.keep b o e)
 .by_cases f:k=n
  .subst f;rw[ho]at a;cases a;simpa using i
  .rw[F5 f];exact(x.cell k c' a).sameBut d λe=>f (name_of_addr x.apart (Gg a) (e ▸ Gg ho))
theorem InL.binds(f:Vm×Va->PUnit->Sem (ForInStep PUnit))(i:∀n v u,f (n,v) u=(do storeName env n v;pure (.yield ⟨⟩)))(g:env.scope.kind=.function):
  ∀(binds:List (Vm×Va)) (m cm:Vm->Option Va) (s:Vc) (Q:PUnit->Vc->Prop),InL s₀ env.locals m own cm s ->
   (∀x∈binds,env.kindOf x.1=Vn .local\/(env.kindOf x.1=Vn .cell/\∃c,env.cells.lookup x.1=Vn c/\own.lookup x.1=Vn c)) ->
   (∀s',InL s₀ env.locals (bindL env.kindOf binds m) own (bindC env.kindOf binds cm) s'->Q ⟨⟩ s')->Vf M A (forIn binds ⟨⟩ f) Q E s
 | [],m,cm,s,Q,x,_,h=>by exact E2 (h s x)
 | (n,v)::r,m,cm,s,Q,x,hkind,h=>by
  rw[KY,i];have l:∀y∈r,env.kindOf y.1=Vn .local\/(env.kindOf y.1=Vn .cell/\∃c,env.cells.lookup y.1=Vn c/\own.lookup y.1=Vn c):=λy o=>hkind y (Fb _ o);rcases hkind (n,v) Fe with d|⟨d,c,p,ho⟩
  .refine E1 (E1 (InL.st x g d λs' j=>E2 (InL.binds f i g r _ _ s' Q j l λa b=>h a ?_)));unfold bindL bindC;rw[F6 d,F6 d];exact b
  .have e:¬env.kindOf n=Vn .local:=by rw[d];decide
   refine E1 (E1 (InL.stC x g d p ho λs' j=>E2 (InL.binds f i g r _ _ s' Q j l λa b=>h a ?_)));unfold bindL bindC;rw[F5 e,F5 e];exact b
end
def fV(q:Vm)(scope:Scope)(L f:Vb)(cd:Va)(cl:List (Vm×Vb)):Env:=
 { scope:=scope,locals:=L,globals:=Vj,cells:=cellsFrom (L+1) scope.names cl,qual:=q ++ ".<locals>.",func:=Vn f,code:=cd,frame:=Vn L,builtins:=builtinsNs }
section
variable {M:Model} {A:Vi} {E:Va->Vc->Prop} {s:Vc}
def Ec     {f : Vb}  {Q : Env -> Vc -> Prop} (i : scope.kind = .function) (hsc : j5 scope = true) (hcl : ∀ x c, cl.lookup x = Vn c -> scope.names.lookup x = Vn .free)
    (hkind : ∀ x ∈ binds, scope.names.lookup x.1 = Vn .local ∨ scope.names.lookup x.1 = Vn .cell)
    (j : ∀ s', InL s s.heap.objs.size (bindL (fV q scope s.heap.objs.size f cd cl).kindOf binds λ_ => Vo) (cellsFrom (s.heap.objs.size + 1) scope.names []) (bindC (fV q scope s.heap.objs.size f cd cl).kindOf binds λ_ => Vo) s' -> Q (fV q scope s.heap.objs.size f cd cl) s') :
    Vf M A (newFunctionEnv scope Vj cl binds (q ++ ".<locals>.") (Vn f) cd Vo builtinsNs) Q E s := by
  simp only [newFunctionEnv, Option.isSome_none, FV, if_false];refine E1 (wpAny_alloc ?_);refine E1 (wpAny_layCells _ (λname kind cells => by cases d : kind == NameKind.cell <;> simp [d]) _ _ _ _ ?_);have ok := cellsFrom_ok scope.names (s.heap.push { cls := .type "frame", data := .dict #[] }) (s.heap.objs.size + 1) [] ⟨λ_ _ g => (nomatch g), List.Pairwise.nil⟩ (by rw [Gx]; exact Fu _);rw [Gx] at ok;rw [show ({ s with heap := s.heap.push { cls := .type "frame", data := .dict #[] } } : Vc).heap.objs.size = s.heap.objs.size + 1 from Gx ..];refine E1 (InL.binds (s₀ := s) (env := fV q scope s.heap.objs.size f cd cl) (own := cellsFrom (s.heap.objs.size + 1) scope.names [])
    _ (λ_ _ _ => rfl) i binds (λ_ => Vo) (λ_ => Vo) _ _
    ⟨⟨_, _, rfl⟩, (Heap.Ns.new s.heap (.type "frame")).keeps (pushCells_keeps _ _), λb o e => pushCells_keeps _ _ b o (E4 _ e), Fu _,
      λn c a => (ok.empty n c (Gg a)).1, ok.apart, λn c g => (ok.empty n c g).2⟩
    (λx l => ?_) λs' x => E2 (j s' x))
  rcases hkind x l with h|h
  . exact .inl h
  . obtain ⟨c, a⟩ := GR.mp (Gu scope.names (s.heap.objs.size + 1) cl (.inl h))
    rcases jx scope.names (s.heap.objs.size + 1) [] cl a with h2|h2
    . rw [hcl _ _ h2] at h; cases h
    . exact .inr ⟨h, c, a, h2⟩
end
def jJ(P:Vd)(w:Ve)(K:E3)(mg:Vm->Option Va)(base:Vh)(N:List Vm)(q:Vm)(scope:Scope)(f:Vb)(cd:Va)(cl:List (Vm×Vb))(A:Vi)(outer:List Env)(s:Vc)(H:Hp):Cx where
 prog:=P
 w:=w
 K:=K
 mg:=mg
 base:=base
 A:=A.deeper (fV q scope s.heap.objs.size f cd cl)
 N:=N
 s₀:=s
 H₀:=H
 env:=fV q scope s.heap.objs.size f cd cl
 outer:=outer
 stack:=fV q scope s.heap.objs.size f cd cl::outer
 ex:=[]
 calm:=true
 fn:=λx=>scope.names.lookup x == Vn .cell
 pn:=[]
 xe:=λ_ _=>False
structure Caps(H:Hp)(cl:List (Vm×Vb))(cp:List Cap):Prop where
 at_:∀e∈cp,cl.lookup e.n=Vn e.c/\H e.c=Vn (eE e.c e.o)/\∃u,e.o.data=.cell (Vn u)/\RelV e.v u
 all:∀x c,cl.lookup x=Vn c->∃e∈cp,e.n=x/\e.c=c
def Caps.ext(e:Ext H H')(h:Caps H cl cp):Caps H' cl cp:=⟨λx a=>⟨(h.at_ x a).1,e _ _ (h.at_ x a).2.1,(h.at_ x a).2.2⟩,h.all⟩
def Caps.look(h:Caps H cl cp):∀b o,(cellsOf cp).lookup b=Vn o->H b=Vn (eE b o):=λb o e=>by obtain⟨x,a,rfl,rfl⟩:=il e;exact(h.at_ x a).2.1
structure LamSc(ps:List Vm)(sc:Scope):Prop where
 kind:sc.kind=.function
 co:sc.isCoroutine=false
 gen:sc.isGenerator=false
 nd:ps.Nodup
 par:∀x∈ps,sc.names.lookup x=Vn .local\/sc.names.lookup x=Vn .cell
theorem zm{K:E3}{f:Vb}
  (S:LamSc ps scope) (C:ClOk scope cells cl) (d:Caps H cl cp) (hd:A.handled=Vo) (l:Env0 P w K mg base A outer s H) (O:vs.length=ps.length) (r:Vals vs us)
  (x:InL s s.heap.objs.size (bindL (fV q scope s.heap.objs.size f cd cl).kindOf (ps.zip us) λ_=>Vo) (cellsFrom (s.heap.objs.size+1) scope.names []) (bindC (fV q scope s.heap.objs.size f cd cl).kindOf (ps.zip us) λ_=>Vo) s1) :
  Inv (jJ P w K mg base (ps++cp.map (·.n)) q scope f cd cl A outer s (bE (cellsOf cp) H)) [] (vs.map Vn++cp.map λe=>Vn e.v) (bE (cellsOf cp) H) s1:=by
 obtain⟨h1,tk,rfl⟩:=x.same;have L:=x.keep;have noA:∀b:Vb,b∉(jJ P w K mg base (ps++cp.map (·.n)) q scope f cd cl A outer s (bE (cellsOf cp) H)).ex:=λb z=>absurd (show b∈([]:List Vb)from z) (by simp);have nn:∀b,H b=Vo->bE (cellsOf cp) H b=Vo:=λb hb=>by
  cases z:(cellsOf cp).lookup b with
  | none=>rw[cZ z];exact hb
  | some o=>exact iC z
 have obj:∀e∈cp,s.heap.get? e.c=Vn e.o:=λe m=>(l.hok _ _ (d.at_ e m).2.1).1;have clt:∀y c,cl.lookup y=Vn c->@LT.lt Nat _ c s.heap.objs.size:=λy c h=>by obtain⟨e,m,_,rfl⟩:=d.all y c h;exact E6 (obj e m)
 have F:∀y c,cl.lookup y=Vn c->bE (cellsOf cp) H c=Vo:=λy c h=>by obtain⟨e,m,_,rfl⟩:=d.all y c h;obtain⟨o,ho⟩:=Bf m;exact iC ho
 have G:∀y,scope.names.lookup y=Vn .free->∃c,cl.lookup y=Vn c/\(cellsFrom (s.heap.objs.size+1) scope.names cl).lookup y=Vn c:=λy g=>by
  obtain⟨c,I⟩:=C.has y g;obtain⟨c',B⟩:=GR.mp (Gu scope.names (s.heap.objs.size+1) cl (x:=y) (.inr (by rw[I];rfl)));rcases iL _ _ _ B with h|⟨_,h⟩
  .rw[I]at h;cases h;exact⟨c,I,B⟩
  .have:=qx C.one h;rw[g]at this;cases this
 refine⟨⟨l.mod,S.kind,rfl,rfl,Fu _,λy z c h1 h2=>?_,λy g=>?_,λy c h I=>?_,λ_=>hd,Kq l.frames,.inr ⟨rfl,rfl⟩,λb z=>absurd z (noA b),λb o e=>⟨(l.bs b o e).1,nn b (l.bs b o e).2⟩,l.bsz,λb _ _=>noA b,λb z=>absurd z (noA b),l.funs,λb hb=>nn b (l.frf b hb)⟩,
  rfl,l.bare,Un.kept L,⟨_,x.ns,λi y v h1 h2 Z=>?_⟩,λy c h=>?_,nn _ (l.hok.fresh (Fu _)),λy c h=>?_,λp J=>absurd (show p∈([]:List (Vb×Obj))from J) (by simp),(xB l.hok d.look).kept L,?_⟩
 .exact kC scope.names _ _ (λx c e=>IL (clt x c e)) C.inj h1 h2
 .rcases g with g|g
  .exact GR.mp (Gu scope.names _ _ (.inl g))
  .obtain⟨c,_,h⟩:=G y g;exact⟨c,h⟩
 .have g:scope.names.lookup y=Vn .cell:=by simpa[jJ]using h
  have B:(cellsFrom (s.heap.objs.size+1) scope.names cl).lookup y=Vn c:=I;rcases iL _ _ _ B with h2|⟨h2,_⟩
  .rw[(C.fr y c h2).1]at g;cases g
  .exact Iw h2
 .by_cases hi:i<vs.length
  .have ha:vs[i]?=Vn v:=by
    rw[Fz (by simpa using hi),E9]at h2;cases e:vs[i]? with
    | none=>rw[e]at h2;cases h2
    | some a=>rw[e]at h2;cases h2;rfl
   obtain⟨u,E,M⟩:=r.get ha;have J:ps[i]?=Vn y:=by have j:(ps++cp.map (·.n))[i]?=Vn y:=h1;rw[Fz (by lia)]at j;exact j
   refine⟨u,M,?_⟩;rcases S.par y (Fh J)with k|k
   .exact .inl ⟨k,oH S.nd J E k⟩
   .obtain⟨c,e⟩:=GR.mp (Gu scope.names (s.heap.objs.size+1) cl (.inl k));refine .inr ⟨.inl k,c,e,?_⟩;rcases jx scope.names (s.heap.objs.size+1) [] cl e with N|N
    .rw[(C.fr y c N).1]at k;cases k
    .have Q:=x.cell y c N;rw[mx S.nd J E (by show scope.names.lookup y≠_;rw[k];decide)]at Q;exact Q
  .have j:(ps++cp.map (·.n))[i]?=Vn y:=h1;rw[Fy (by lia),E9]at j;rw[Fy (by simpa using JD hi),E7,E9]at h2;rw[O]at h2;cases m:cp[i-ps.length]? with
   | none=>rw[m]at h2;cases h2
   | some e=>
    rw[m]at j h2;cases j;cases h2;have R:=Fh m;obtain⟨T,a2,u,E,M⟩:=d.at_ e R;have U:=(C.fr _ _ T).1;obtain⟨c,X,Y⟩:=G e.n U;rw[T]at X;cases X;exact⟨u,M,.inr ⟨.inr U,e.c,Y,e.o,L _ _ (obj e R),E⟩⟩
 .have h':(cellsFrom (s.heap.objs.size+1) scope.names cl).lookup y=Vn c:=h;rcases jx scope.names (s.heap.objs.size+1) [] cl h' with h2|h2
  .obtain⟨e,m,_,rfl⟩:=d.all y c h2;obtain⟨_,_,u,E,_⟩:=d.at_ e m;exact⟨Vn u,e.o,L _ _ (obj e m),E⟩
  .exact⟨_,x.cell y c h2⟩
 .have h':(cellsFrom (s.heap.objs.size+1) scope.names cl).lookup y=Vn c:=h;rcases iL _ _ _ h' with h2|⟨h2,_⟩
  .exact F y c h2
  .exact nn c (l.hok.fresh (Iw h2))
 .show(vs.map Vn++cp.map λe=>Vn e.v).length=(ps++cp.map (·.n)).length;simp[O]
def iD(f c:Vb)(q:Vm)(params:Arguments)(body:Vk)(scope:Scope)(cl:List (Vm×Vb))(cp:List Cap)(H:Hp):Prop:=H f=Vn (fN f c q params body scope cl)/\H c=Vn (gO c q)/\Caps H cl cp
theorem iD.ext{H H':Hp}(e:Ext H H'){f c:Vb}{q:Vm}{params:Arguments}{body:Vk}{scope:Scope}{cl:List (Vm×Vb)}{cp:List Cap}(h:iD f c q params body scope cl cp H):iD f c q params body scope cl cp H':=⟨e _ _ h.1,e _ _ h.2.1,h.2.2.ext e⟩
def AO{K:E3}{f:Vb}{R:List V->Hp->VK->Prop}(I:Hp->Prop)
  (S:LamSc ps scope) (C:ClOk scope cells cl) (bind:∀pm F d us,us.length=ps.length->bindArgs (PySem.W.kla_fn "<lambda>" q params body scope cl pm F d) ⟨us,[]⟩=pure (ps.zip us))
  (G:∀vs H Q,R vs H Q->vs.length=ps.length)
  (g:∀A outer s H vs Q,Room k (A.deeper (fV q scope s.heap.objs.size f (.ref c) cl))->iD f c q params body scope cl cp H->I H->R vs H Q ->
   ∃te,PE (jJ P w K mg base (ps++cp.map (·.n)) q scope f (.ref c) cl A outer s (bE (cellsOf cp) H)) body te/\te (vs.map Vn++cp.map λe=>Vn e.v) (bE (cellsOf cp) H) λv H'=>(∀b o,(cellsOf cp).lookup b=Vn o->H' b=Vo)->Q v (cq (cellsOf cp) H')) :
  FunR P w K mg base (k+1) f (λH=>iD f c q params body scope cl cp H/\I H) R:=by
 refine⟨λH h hok j=>?_,λA outer s H us vs Q m i j r B=>?_⟩
 .obtain⟨⟨pm,d,p⟩,_⟩:=hok f _ j.1.1;exact⟨_,_,_,_,p⟩
 .obtain⟨⟨L,M,a⟩,N⟩:=id j;obtain⟨⟨pm,d,p⟩,_⟩:=i.hok f _ L;obtain⟨O,_⟩:=i.hok c _ M;have lim:s.heap.NoLimit:=i.mod.nolimit.keeps λb o e=>(i.bs b o e).1;have E:=G vs H Q B;refine PySem.W.kla_callFunE m.depth p rfl S.co S.gen rfl O ?_;rw[bind _ _ _ us (by rw[<-r.length];exact E)];refine E2 ?_;refine Ec S.kind C.one (λx c h=>(C.fr x c h).1) (λz T=>?_) λs1 z=>?_
  .exact S.par z.1 (JS T).1
  refine⟨lim.keeps z.keep,PySem.W.kla_codeExpr ?_⟩;have J:=zm S C a m.hd i E r z;obtain⟨te,U,y⟩:=g A outer s H vs Q (m.deeper _) j.1 N B;refine wpAny_mono (U [] s1 _ _ _ J y) (λu s' ⟨v,H',l,X,Y⟩=>?_) λe s' hs=>hs.elim;have obj:∀b o,(cellsOf cp).lookup b=Vn o->s.heap.get? b=Vn o:=λb o e=>(i.hok _ _ (a.look b o e)).1;have nfs:∀b o,(cellsOf cp).lookup b=Vn o->b∉dZ outer:=λb o e hb=>by have:=i.frf b hb;rw[a.look b o e]at this;cases this
  have un:Un (dZ outer) [] (bE (cellsOf cp) H) H' s.heap s'.heap:=l.base;exact⟨v,cq (cellsOf cp) H',l.os,l.bare,D5 un a.look,tG l.hok (λb o e=>un.keep b o (obj b o e) (iC e) (nfs b o e) (by simp)) (λb o e=>un.free b o (obj b o e) (iC e) (by simp)),X,Y λb o e=>un.free b o (obj b o e) (iC e) (by simp)⟩
section
variable {X:Cx}
def CF:V->List V->Hp->VK->Prop:=λx vs H Q=>∃(n:Nat) (p:Vb) (xs:List V) (a:V) (d:PyData) (ds:List PyData) (j:Nat),x=.ref p/\vs=[a]/\bD H n a d/\H p=Vn (.lst xs)/\Paired (bD H n) xs ds/\n<=50/\(∃e,ds[j]?=Vn e/\Gw e d=true)/\(∀m e,m<j->ds[m]?=Vn e->Gw e d=false)/\j<2 ^ 32/\Q (.int (j:Int)) H
theorem EL{k:Nat}{l:Vi}(E:Room k l)(hA:X.A=l:=by rfl):ky X "list.index" CF:=by
 subst hA;intro pins s σ H x xs v us Q I G J h;obtain⟨n,p,ys,a,d,ds,j,rfl,rfl,h1,h2,o,L,⟨e,r,M⟩,hno,N,q⟩:=h;cases G;obtain⟨u,rfl,O⟩:=J.one;have P:bD H (n+1) (.ref p) (.list ds):=.inr ⟨p,ys,ds,rfl,.inr ⟨h2,rfl⟩,o⟩;obtain⟨as,R⟩:=bD.reads I n h1 O;obtain⟨bs,S⟩:=bD.reads I (n+1) P rfl;have w:=bD.lay n h1;have z:=jI (λ{x d}=>bD.lay (H:=H) n) o;have Y:=E.units;obtain⟨_,b,nn,T,gt⟩:=I.hok p _ h2;cases S with
 | list B Z U C=>
  rw[gt]at B;cases B;cases U;have mp:=SeqAt.readsAll_map ds _ _ z.1 C;have hlen:b.length=ds.length:=by rw[<-mp,E7]
  have W:j<ds.length:=(Fg.mp r).1;have f:j<b.toArray.size:=by rw[Fd];lia
  have hat:∀m (c:m<b.toArray.size),ds[m]?=Vn (SeqAt.readOf s.heap b.toArray[m]):=λm c=>by
   have g:m<b.length:=by simpa using c
   rw[<-mp,E9];simp[g]
  refine call_meets J6 ⟨_,gt,rfl⟩ PySem.F.entry_list_index (PySem.F.args_list_index_2 _ _) (SeqAt.list_indexAt p b.toArray nn Vo #[] u (λy=>Gw (SeqAt.readOf s.heap y) d) j f (by lia) ?_ ?_)
   ⟨gt,SeqAt.items_eqAt C R z.1 w.1 (by lia),?_⟩
  .have:=hat j f;rw[r]at this;cases this;exact M
  .intro m c i;exact hno m _ i (hat m c)
  .exact⟨.int _,H,I.tok _,⟨_,rfl⟩,q⟩
end
def Dg(hA:A.handled=Vo)(it t)(ne:t≠it)(ys):Draws P w A it [it,t] ys.size (λi v=>ys[i]?=Vn v) (λi h=>h.IsListIter it t i/\h.IsList t ys) where
 live:=λi h st=>by obtain⟨⟨o,ho,_⟩,_⟩:=st;exact⟨o,ho⟩
 frame:=λi h h' st k=>by obtain⟨⟨o,ho,r⟩,⟨u,a,q⟩⟩:=st;exact⟨⟨o,k it (by simp) o ho,r⟩,⟨u,k t (by simp) u a,q⟩⟩
 item:=λi s Q E hi st c=>wpAny_nextOf_list_item st.1 st.2 (x:=ys[i]) (by simp[hi]) λh' d b=>c _ h' s.toks (by simp[hi]) ⟨d,by obtain⟨u,a,q⟩:=st.2;exact⟨u,(b.2 t ne).trans a,q⟩⟩ b
 done:=λs Q E st e=>wpAny_nextOf_list_end hA st.1 st.2 (by simp) e
abbrev k7(h:Vh)(a:Vb):Vh:=h.push { cls:=.type "list_iterator",data:=.fields #[.ref a,.int 0 0] }
abbrev mX(h:Vh)(a:Vb):Vh:=(k7 h a).push { cls:=.type "enumerate",data:=.fields #[.none,.bool false,.ref h.objs.size,rawInt 0,.none,.none] }
open AutoSeq1 (wpAny_loadPart')in
def Ad(a:Vb)(ys:Array Va)(h:Obj):Meets (Builtin.«enumerate.__new__» ⟨[.type "enumerate",.ref a],[]⟩) (λ_ R s=>s.heap.get? a=Vn h/\s.heap.IsList a ys/\R (.ok (.ret (.ref (k7 s.heap a).objs.size))) { s with heap:=mX s.heap a }):=
 .of_wp λprog w A R s q=>by
  obtain⟨i,g,d,tk,os⟩:=s;obtain⟨ga,gt,q⟩:=q;have b:=sub_enumerate;obtain⟨o,go,e,n,gd⟩:=id gt;obtain⟨j,l,m,sl⟩:=o;simp only at e gd;subst e gd;have f:Heap.IsList (Shared.heap ⟨i,g,d,tk,os⟩) a ys:=gt
  wp_walk using wpAny_loadPart' go
  refine wpAny_stack_any λst=>E2 ?_;split
  .rename_i c _ _ _ _ _;cases(c == Value.type "enumerate")<;>(wp_walk using wpAny_loadPart' go,wpAny_pyIter_list f;exact⟨_,rfl,q⟩)
  .wp_walk using wpAny_loadPart' go,wpAny_pyIter_list f
   exact⟨_,rfl,q⟩
def DH(gt:s.heap.IsList a ys)
  (q:∀h',IsEnum h' (s.heap.objs.size+1) s.heap.objs.size 0 .none->h'.IsListIter s.heap.objs.size a 0->(∀c o,s.heap.get? c=Vn o->h'.get? c=Vn o)->Q (.ref (s.heap.objs.size+1)) { s with heap:=h' }) :
  Vf (Vg prog w) A (call (.type "enumerate") [.ref a]) Q E s:=by
 obtain⟨o,go,r⟩:=id gt;refine callType_new F.called_enumerate (by decide) (KL _) (Kd _) (λb=>F.args_object_init_2 b _) Ke (Ad a ys o) ⟨go,gt,?_⟩;have d:(k7 s.heap a).objs.size=s.heap.objs.size+1:=Gx ..;have k2:(mX s.heap a).get? (k7 s.heap a).objs.size=Vn _:=E5 _ rfl;have k1:(mX s.heap a).get? s.heap.objs.size=Vn _:=E4 _ (E5 _ rfl);rw[d]at k2 ⊢;exact⟨⟨_,k2,rfl⟩,q _ k2 ⟨_,k1,rfl,rfl⟩ λc o x=>E4 _ (E4 _ x)⟩
def jQ(K:E3)(a:Vb):It:=⟨(fG K a).go,λi H x H'=>∃p v,x=.ref p/\H p=Vo/\H'=upd H p (.tup [.int i,v])/\(fG K a).yld i H v H,(fG K a).stop⟩
theorem Ab{K:E3}{ps:Pos}(a e it)(ne:e≠it):Turn P w K (.Tuple elts kk ps) (jQ K a) [e,it] e (λi h=>(∃old,IsEnum h e it i old)/\h.IsListIter it a i) where
 mem:=by simp
 obj:=λi h st b hb=>by
  obtain⟨⟨old,ge⟩,o,go,gc,gd⟩:=st;rcases Fo.mp hb with rfl|hb
  .exact⟨_,ge,λv z=>by cases(z)⟩
  .cases Fi.mp hb;exact⟨o,go,λv z=>by rw[gd]at z;cases z⟩
 keep:=λi h h' st k=>by obtain⟨⟨old,ge⟩,f⟩:=st;exact⟨⟨old,k e (by simp) _ ge⟩,f.at λo z=>k it (by simp) o z⟩
 item:=by
  intro X m n r B i pins s σ H E I g st C;subst m n r;obtain⟨⟨old,ge⟩,f⟩:=st;obtain⟨xs,x,j,G⟩:=C;obtain⟨c,J,p,Z⟩:=I.list j;obtain⟨u,Y,ru⟩:=J.get G;have hi:i<c.toArray.size:=by have:=(Fg.mp Y).1;simpa using this
  have hA:X.A.in1.handled=Vo:=I.ok.hd B;have M:a≠it:=λz=>by obtain⟨o,ho,hcl,_⟩:=p.isList;obtain⟨o',N,d,_⟩:=f;rw[z,N]at ho;cases ho;rw[hcl]at d;exact absurd (Jj d) (by decide)
  have O:e∉[it,a]:=λz=>by
   rcases Fo.mp z with z|z
   .exact ne z
   .cases Fi.mp z;obtain⟨o,ho,hcl,_⟩:=p.isList;rw[ge]at ho;cases ho;exact absurd (Jj hcl) (by decide)
  refine wpAny_pyNext_enum_itemD (Dg hA it a M c.toArray) ge ⟨f,p.isList⟩ hi ne O λy h' tk hy Q gs l gz gk=>⟨_,rfl,?_⟩;have ey:y=u:=by
   have:c[i]?=Vn y:=by simpa using hy
   rw[Y]at this;exact(FQ this).symm
  subst ey;have lt:∀b∈[e,it],b≠s.heap.objs.size:=λb hb=>by
   rcases Fo.mp hb with rfl|hb
   .exact Ft (E6 ge)
   .cases Fi.mp hb;obtain⟨o,ho,_⟩:=f;exact Ft (E6 ho)
  have I1:Inv X pins σ (upd H s.heap.objs.size (.tup [.int i,x])) { s with heap:=h',toks:=tk+1 }:=
   Inv.turnedNew (L:=[e,it]) I (λb o hb z=>gk b o (λq=>hb (by simp[q])) (λq=>hb (by simp[q])) z) g ⟨by show 2<=sizeLine;decide,[.int i tk,y],.cons ⟨tk,rfl⟩ (.cons ru .nil),⟨_,l,rfl,_,rfl⟩⟩
  have fe:dS X pins (upd H s.heap.objs.size (.tup [.int i,x])) e:=by obtain⟨c0,c1,c2,c3,c4,c5⟩:=g e (by simp);exact⟨by rw[aB (lt e (by simp))];exact c0,c1,c2,c3,c4,c5⟩
  refine wpAny_letOwnedTupleGo_enum (s:={ s with heap:=h',toks:=tk+1 }) Q λk R bk=>?_;refine⟨.ref s.heap.objs.size,upd H s.heap.objs.size (.tup [.int i,x]),Inv.same (s:={ s with heap:=h',toks:=tk+1 }) (k:=h') I1 fe bk.extBut,rfl,⟨_,x,rfl,I.hok.fresh (Fu _),rfl,rfl,λzs S=>by rw[I.list_inj S j];exact G⟩,⟨⟨y,by simpa using R⟩,gs.1.at λo z=>bk.extBut it o (Gi ne) z⟩,λb hb=>?_⟩;rw[aB (lt b hb)];exact(g b hb).1
 done:=by intro X m n r B i pins s σ H E I g st C;subst m n r;obtain⟨⟨old,ge⟩,f⟩:=st;obtain⟨xs,j,G⟩:=C;obtain⟨c,J,p,Z⟩:=I.list j;have hA:X.A.in1.handled=Vo:=I.ok.hd B;have l:s.TypeIs (.ref e) "enumerate":=⟨_,ge,rfl⟩;have hl:=J.length;unfold pyNext;refine E1 (wpAny_attempt (F1 (name:=FP "__next__") l IJ (wpAny_call_entry IJ l KN ?_ (J4 _))));show Vf _ _ (field (Value.ref e) 2 >>= _) _ _ _;refine E1 (wpAny_field ge rfl (x:=Value.ref it) rfl ?_);refine E1 (wpAny_nextOf_list_end hA f (show s.heap.IsList a c.toArray from p.isList) (by simp;lia) λh' x he U=>?_);obtain⟨o,ho,W⟩:=U;refine E1 (wpAny_isInstance (s:={ s with heap:=h' }) (T:="StopIteration") (b:=true) ⟨o,ho,W⟩ isSubtype_stop ?_);exact E2 ⟨rfl,Inv.same (k:=s.heap) I (g it (by simp)) he⟩
 self:=λ_ _ _ _ _ st h=>by obtain⟨⟨old,ge⟩,_⟩:=st;exact wpAny_pyIter_enum ge h
section
variable {K:E3} {σ:St} {H:Hp} {Q:VK}
def nL(K:E3):List V->Hp->(It->Hp->Prop)->Prop:=λvs H R=>∃a xs,vs=[.ref a]/\ag K H a xs/\R (jQ K a) H
def pU(K:E3)(ta:TA):TI:=λσ H R=>ta σ H λvs H1=>nL K vs H1 R
theorem nX{ps:Pos}(K:E3){a:Vk}{ta:TA}{p pos:Pos}(f:Gl X "enumerate")(g:X.mg "enumerate" = Vo)(ha:PA X [a] ta)(i:X.K=K:=by rfl)(hs:starEach [a] X.env=[(false,eval a X.env)]:=by rfl):
  PI X (.Tuple elts kk ps) (.Call (.Name "enumerate" p) [a] [] pos) (pU K ta):=by
 subst i;intro pins s σ H R I h;refine Call_ (fQ I f g JZ (Gf (aM (ha pos pins s σ H _ I h) λus s1 ⟨vs,H1,c,r1,j⟩=>?_) (by rw[hs];rfl) rfl));obtain⟨l,xs,e,m,q⟩:=j;subst e;obtain⟨u,rfl,n⟩:=vals1 r1;cases n;obtain⟨d,_,o,_⟩:=c.list m;refine DH (o.isList) λh' ge r k=>?_;refine wpAny_pyIter_enum ge ?_;refine⟨s1.heap.objs.size+1,[s1.heap.objs.size+1,s1.heap.objs.size],_,_,H1,rfl,c.kept k,Ab l (s1.heap.objs.size+1) s1.heap.objs.size (λz=>by have v:@Eq Nat _ _:=z;lia),⟨⟨_,ge⟩,r⟩,λb hb=>?_,q⟩;have le:@LE.le Nat _ s1.heap.objs.size b:=by
  rcases Fo.mp hb with rfl|hb
  .exact Hs _ _
  .cases Fi.mp hb;exact Fu _
 exact c.fpOk le (c.hok.fresh le)
def nN{a:TA}(h:a σ H λvs H1=>nL K vs H1 R):pU K a σ H R:=h
def n8(ha:ag K H a xs)(h:R (jQ K a) H):nL K [.ref a] H R:=⟨a,xs,rfl,ha,h⟩
theorem sF(Pv:Nat->List V->Hp->Prop)(z:xs.length<=sizeLine)(h0:Pv 0 [] H)(l:∀i zs H,Pv i zs H->ag K H a xs/\zs.length<=i)
  (hs:∀i u zs H p H',xs[i]?=Vn u->Pv i zs H->Ext H H'->H' p=Vn (.tup [.int i,u])->H p=Vo->g (.ref p) (dW n js σ) H' λc o=>tc c o λb h=>if b=true then te c h λv q=>Pv (i+1) (zs++[v]) q else Pv (i+1) zs h)
  (hd:∀zs H p,Pv xs.length zs H->H p=Vo->Q (.ref p) (upd H p (.lst zs))):iN (jQ K a) n js g tc te σ H Q:=by
 refine⟨λi m zs H=>m=xs.length-i/\i<=xs.length/\Pv i zs H,⟨xs.length,by simp,GO _,h0⟩,?_⟩;rintro i m zs H ⟨rfl,hi,p⟩;obtain⟨d,A⟩:=l i zs H p;by_cases hlt:i<xs.length
 .refine .inr ⟨⟨xs,xs[i],d,by simp[hlt]⟩,by lia,Pv (i+1),λr H' f=>⟨xs.length-(i+1),by lia,rfl,hlt,f⟩,λx H' y=>?_⟩;obtain⟨pp,u,rfl,j,rfl,s⟩:=y;exact hs i u zs H pp _ (s.2 xs d) p (aY j) aF j
 .have e:i=xs.length:=by lia
  exact .inl ⟨⟨xs,d,by lia⟩,λf w=>hd zs H f (e ▸ p) w⟩
end
end L2
namespace L2.Og.Tb
open PySem
def nx(m i:Nat):Nat:=(i*5+1) % (m+1)
def it(m:Nat):Nat->Nat->Nat
 | 0,i=>i
 | n+1,i=>it m n (nx m i)
theorem lR(m:Nat):∀a b i,it m (a+b) i=it m b (it m a i)
 | 0,b,i=>by rw[Hd];rfl
 | a+1,b,i=>by rw[La];exact lR m a b (nx m i)
def pF(m:Nat):Nat->Nat->List Nat
 | 0,_=>[]
 | n+1,i=>i::pF m n (nx m i)
theorem rS{m:Nat}:∀{n i j:Nat},j∈pF m n i->∃k,k<n/\it m k i=j
 | 0,_,_,h=>by cases h
 | n+1,i,j,h=>by
  rcases Fo.mp h with rfl|h
  .exact⟨0,Nat.succ_pos _,rfl⟩
  .obtain⟨k,a,e⟩:=rS h;exact⟨k+1,Nat.succ_lt_succ a,e⟩
def good(m:Nat):Bool:=(F2 (m+1)).all (λj=>(pF m (m+1) 0).contains j) && it m (m+1) 0 == 0
def zy:good 7=true:=by decide +kernel
def CV:good 31=true:=by decide +kernel
def B4:good 127=true:=by decide +kernel
def Ez:good 511=true:=by decide +kernel
def Mask(m:Nat):Prop:=m=7\/m=31\/m=127\/m=511
theorem Mask.good{m:Nat}(h:Mask m):good m=true:=by
 rcases h with rfl|rfl|rfl|rfl
 .exact zy
 .exact CV
 .exact B4
 .exact Ez
theorem wX(h:Mask m)(a:j<=m):∃k,k<=m/\it m k 0=j:=by have:=h.good;unfold Tb.good at this;rw[FO,FK]at this;have h1:=this.1 j (GK.mpr (by lia));rw[Hi]at h1;obtain⟨k,b,e⟩:=rS h1;exact⟨k,by lia,e⟩
def round0(h:Mask m):it m (m+1) 0=0:=by have:=h.good;unfold Tb.good at this;rw[FO]at this;exact eq_of_beq this.2
def reach(h:Mask m)(hi:i<=m)(e:j<=m):∃k,k<=m/\it m k i=j:=by
 obtain⟨a,ha,c⟩:=wX h hi;obtain⟨b,hb,d⟩:=wX h e;rcases FW b a with hlt|hge
 .refine⟨m+1-a+b,by omega,?_⟩;rw[<-c,<-lR,show a+(m+1-a+b)=(m+1)+b by omega,lR,round0 h];exact d
 .refine⟨b-a,by omega,?_⟩;rw[<-c,<-lR,show a+(b-a)=b by omega];exact d
def lp(m:Nat):Nat->Nat×Nat->Nat×Nat
 | 0,s=>s
 | n+1,s=>lp m n (G9 m s.1 s.2)
theorem nK(m:Nat):∀n s,lp m (n+1) s=G9 m (lp m n s).1 (lp m n s).2
 | 0,s=>rfl
 | n+1,s=>by show lp m (n+1) (G9 m s.1 s.2)=_;rw[nK m n];rfl
theorem we(m:Nat):∀n s,(lp m n s).2=s.2 / 32 ^ n
 | 0,s=>by simp[lp]
 | n+1,s=>by rw[nK m n s];show(lp m n s).2 / 32=_;rw[we m n s,Nat.div_div_eq_div_mul,Nat.pow_succ]
theorem xk(m):∀n s,s.1<=m->(lp m n s).1<=m
 | 0,s,h=>h
 | n+1,s,h=>by rw[nK m n s];show(_ % (m+1))<=m;have:=IT ((lp m n s).1*5+1+(lp m n s).2 / 32) (show 0<m+1 by lia);lia
theorem tF(m:Nat):∀n i,(lp m n (i,0)).1=it m n i
 | 0,i=>rfl
 | n+1,i=>by show(lp m n (G9 m i 0)).1=it m n (nx m i);exact tF m n _
theorem vo(m:Nat):∀a b s,lp m (a+b) s=lp m b (lp m a s)
 | 0,b,s=>by rw[Hd];rfl
 | a+1,b,s=>by rw[La];exact vo m a b _
theorem vK(h:Mask m){i p j:Nat}(hi:i<=m)(a:p<2 ^ 64)(b:j<=m):∃n,n<=m+13/\(lp m n (i,p)).1=j:=by
 have c:(lp m 13 (i,p)).2=0:=by rw[we];exact Nat.div_eq_of_lt (FH a (by decide))
 obtain⟨k,d,e⟩:=reach h (xk m 13 (i,p) hi) b;refine⟨13+k,by lia,?_⟩;rw[vo];have:lp m 13 (i,p)=((lp m 13 (i,p)).1,0):=by rw[<-c]
 rw[this,tF];exact e
theorem qY(h):HH h<2 ^ 64:=by unfold HH;lia
def c7(t:SetTable):Nat->SetTable.Probe->SetTable.Probe
 | 0,p=>p
 | n+1,p=>c7 t n (t.advance p)
theorem ow(t:SetTable):∀a b p,c7 t (a+b) p=c7 t b (c7 t a p)
 | 0,b,p=>by rw[Hd];rfl
 | a+1,b,p=>by rw[La];exact ow t a b _
def at_(t:SetTable)(s:Nat×Nat):SetTable.Probe:={ j:=s.1,more:=Hl t.mask s.1-s.1,i:=s.1,perturb:=s.2,dummy:=Vo }
theorem sQ(t:SetTable):∀(r:Nat) (p:SetTable.Probe),p.more=r->c7 t (r+1) p={ p with j:=(G9 t.mask p.i p.perturb).1,more:=Hl t.mask (G9 t.mask p.i p.perturb).1-(G9 t.mask p.i p.perturb).1,i:=(G9 t.mask p.i p.perturb).1,perturb:=(G9 t.mask p.i p.perturb).2 }
 | 0,p,h=>by show t.advance p=_;unfold J7;rw[F5 (by lia)]
 | r+1,p,h=>by
  show c7 t (r+1) (t.advance p)=_;have e:t.advance p={ p with j:=p.j+1,more:=p.more-1 }:=by unfold J7;rw[F6 (by lia)]
  rw[e,sQ t r _ (by show p.more-1=r;lia)]
theorem CS(t)(s):∃k,k<=10/\c7 t k (at_ t s)=at_ t (G9 t.mask s.1 s.2):=by
 refine⟨Hl t.mask s.1-s.1+1,?_,?_⟩
 .unfold Hl;split<;>lia
 .exact(sQ t (Hl t.mask s.1-s.1) (at_ t s) rfl).trans rfl
theorem rQ(t:SetTable):∀(n:Nat) (s:Nat×Nat),∃k,k<=10*n/\c7 t k (at_ t s)=at_ t (lp t.mask n s)
 | 0,s=>⟨0,Fu _,rfl⟩
 | n+1,s=>by obtain⟨k1,h1,a⟩:=CS t s;obtain⟨k2,h2,b⟩:=rQ t n (G9 t.mask s.1 s.2);refine⟨k1+k2,by lia,?_⟩;rw[ow,a,b];rfl
def DJ(t)(h):t.probeStart h=at_ t (HH h % (t.mask+1),HH h):=rfl
theorem Dp(a:Mask t.mask)(b:j<=t.mask)(h):∃K,K<10*HW t.mask/\(c7 t K (t.probeStart h)).j=j:=by
 have h1:HH h % (t.mask+1)<=t.mask:=by have:=IT (HH h) (show 0<t.mask+1 by lia);lia
 obtain⟨n,d,e⟩:=vK a h1 (qY h) b;obtain⟨K,f,c⟩:=rQ t n (HH h % (t.mask+1),HH h);refine⟨K,by unfold HW;lia,?_⟩;rw[DJ,c];exact e
def sE{t:SetTable}(h:t.slot j=.live i):t.place[i]?=Vn j:=by
 unfold SetTable.slot at h;dsimp only at h;split at h
 .rename_i hq;cases h;exact eq_of_beq hq
 .split at h<;>cases h
def xX(j):SetTable.has #[] j=false:=rfl
def wZ{t:SetTable}(hd:t.dummies = #[])(j):t.slot j=.empty\/∃i,t.slot j=.live i:=by
 unfold SetTable.slot;dsimp only;split
 .exact .inr ⟨_,rfl⟩
 .rw[hd,xX];exact .inl rfl
theorem xt:∀(n:Nat) (l:List Nat),(∀j,j<n->j∈l)->n<=l.length
 | 0,l,_=>GO _
 | n+1,l,h=>by have a:=h n (IY n);have:=xt n (l.erase n) λj b=>(Ks (by lia)).mpr (h j (by lia));rw[Ie a]at this;have:0<l.length:=He a;lia
theorem Bh{t:SetTable}(hd:t.dummies = #[])(h:t.place.size<=t.mask):∃j,j<=t.mask/\t.slot j=.empty:=by
 rcases Classical.em (∃j,j<=t.mask/\t.slot j=.empty)with h1|h1
 .exact h1
 .exfalso;have:=xt (t.mask+1) t.place.toList λj a=>by
   rcases wZ hd j with h2|⟨i,h2⟩
   .exact absurd ⟨j,by lia,h2⟩ h1
   .have:=sE h2;rw[<-G5]at this;exact Fh this
  rw[Fc]at this;lia
theorem mN(t:SetTable):∀n p,(c7 t n p).dummy=p.dummy
 | 0,p=>rfl
 | n+1,p=>by show(c7 t n (t.advance p)).dummy=_;rw[mN t n];unfold J7;split<;>rfl
theorem CH(hd:t.dummies = #[])(hash)(h):∀K fuel p,K<fuel->p.dummy=Vo->t.slot (c7 t K p).j=.empty ->
  (∃j,IM t hash h fuel p=Vn (.empty j Vo))\/∃k j i,k<K/\IM t hash h fuel p=Vn (.candidate j i (c7 t (k+1) p))/\t.slot j=.live i:=by
 intro K;induction K with
 | zero=>
  intro fuel p g a hs;obtain⟨f,rfl⟩:∃f,fuel=f+1:=⟨fuel-1,by lia⟩;refine .inl ⟨p.j,?_⟩;have b:t.slot p.j=.empty:=hs;unfold IM;rw[b];rw[a]
 | succ K l=>
  intro fuel p g a hs;obtain⟨f,rfl⟩:∃f,fuel=f+1:=⟨fuel-1,by lia⟩;unfold IM;rcases wZ hd p.j with h1|⟨i,h1⟩
  .rw[h1];rw[a];exact .inl ⟨p.j,rfl⟩
  .rw[h1];dsimp only;by_cases d:(hash i == h)=true
   .rw[F6 d];exact .inr ⟨0,p.j,i,Nat.succ_pos _,rfl,h1⟩
   .rw[F5 d];have c:(t.advance p).dummy=Vo:=by have:=mN t 1 p;rw[a]at this;exact this
    rcases l f (t.advance p) (by lia) c hs with⟨j,e⟩|⟨k,j,m,o,e,n⟩
    .exact .inl ⟨j,e⟩
    .exact .inr ⟨k+1,j,m,by lia,e,n⟩
theorem ye{α:Type}:∀{l:List (Option α)} {j:Nat} {k:α},l[j]?=Vn Vo->((l.set j (Vn k)).filterMap id).Perm (k::l.filterMap id)
 | [],j,k,h=>by cases h
 | x::l,0,k,h=>by
  have:x=Vo:=by simpa using h
  subst this;exact .refl _
 | x::l,j+1,k,h=>by
  have h':l[j]?=Vn Vo:=by simpa using h
  have a:=ye (k:=k) h';cases x with
  | none=>exact a
  | some y=>exact(List.Perm.cons y a).trans (.swap _ _ _)
theorem zA{α:Type}(l:List (Option α)):(l.filterMap id).length+(l.filter (·.isNone)).length=l.length:=by
 induction l with
 | nil=>rfl
 | cons x l a=>
  cases x<;>simp at a ⊢<;>lia
theorem BZ(l:Mask m)(owner)(c:owner.size=m+1)(d:owner[j]?=Vn Vo):∀fuel n i p,i<=m->n<fuel->(lp m n (i,p)).1=j ->
  ∃a,Iy m owner fuel i p=Vn a/\owner[a]?=Vn Vo:=by
 intro fuel;induction fuel with
 | zero=>intro n i p _ h;lia
 | succ fuel e=>
  intro n i p hi o b;unfold Iy;split
  .rename_i k hk;have h1:=List.find?_some hk;have h2:=GK.mp (Jt hk);refine⟨i+k,rfl,?_⟩;have hb:i+k<owner.size:=by rw[c];unfold Hl at h2;split at h2<;>lia
   rw[GW hb];have:owner.getD (i+k) (Vn 0)=owner[i+k]:=by rw[Ja,GW hb];rfl
   rw[this]at h1;congr 1;cases f:owner[i+k]with
   | none=>rfl
   | some y=>rw[f]at h1;cases h1
  .rename_i hk;cases n with
   | zero=>
    exfalso;have g:i=j:=b;have:=LM.mp hk 0 (GK.mpr (by unfold Hl;split<;>lia));rw[Lb,g,Ja,d]at this;simp at this
   | succ n=>
    have:=xk m 1 (i,p) hi;exact e n (G9 m i p).1 (G9 m i p).2 this (by lia) b
def ma(mask:Nat)(acc:Option (Array (Option Nat)×Nat))(h:Int):Option (Array (Option Nat)×Nat):=do
 let (owner,k) <-acc;let j <-Iy mask owner (HW mask) (HH h % (mask+1)) (HH h)
 pure (owner.setIfInBounds j (Vn k),k+1)
theorem El{l:List (Option Nat)}(h:(l.filterMap id).length<l.length):∃j:Nat,l[j]?=Vn Vo:=by
 have:=zA l;have h1:0<(l.filter (·.isNone)).length:=by lia
 obtain⟨x,b⟩:=List.exists_mem_of_length_pos h1;obtain⟨a,c⟩:=GC.mp b;have:x=Vo:=by cases x<;>simp_all
 subst this;obtain⟨j,d⟩:=FX a;exact⟨j,d⟩
theorem xH{m:Nat}(c:Mask m):∀(hs:List Int) (owner:Array (Option Nat)) (k:Nat),owner.size=m+1->(owner.toList.filterMap id).Perm (F2 k)->k+hs.length<=m ->
  ∃a,hs.foldl (ma m) (Vn (owner,k))=Vn (a,k+hs.length)/\a.size=m+1/\(a.toList.filterMap id).Perm (F2 (k+hs.length))
 | [],owner,k,h1,h2,g=>⟨owner,rfl,h1,h2⟩
 | h::hs,owner,k,h1,h2,g=>by
  rw[FC]at g ⊢;have hlt:(owner.toList.filterMap id).length<owner.toList.length:=by rw[h2.length_eq,G6,Fc,h1];lia
  obtain⟨j,d⟩:=El hlt;rw[G5]at d;have e:j<=m:=by have:=(Jk.mp d).1;lia
  have hi:HH h % (m+1)<=m:=by have:=IT (HH h) (show 0<m+1 by lia);lia
  obtain⟨n,r,i⟩:=vK c hi (qY h) e;obtain⟨f,e',b⟩:=BZ c owner h1 d (HW m) n _ _ hi (by unfold HW;lia) i;have step:ma m (Vn (owner,k)) h=Vn (owner.setIfInBounds f (Vn k),k+1):=by unfold ma;simp[e']
  rw[KW,step];have l:((owner.setIfInBounds f (some k)).toList.filterMap id).Perm (F2 (k+1)):=by rw[Array.toList_setIfInBounds];rw[<-G5]at b;refine(ye b).trans ?_;rw[Hm];exact(List.Perm.cons k h2).trans (Kg (l₁:=[k]))
  obtain⟨o',o,p,q⟩:=xH c hs (owner.setIfInBounds f (Vn k)) (k+1) (by simpa using h1) l (by lia);exact⟨o',by rw[o];congr 2;lia,p,by rw[show k+(hs.length+1)=k+1+hs.length by lia];exact q⟩
theorem zN(t:SetTable)(f:Mask m)(g:Hg wanted-1=m)(l:hashes.size<=m):
  ∃t' order,t.relaid hashes wanted=Vn (t',order)/\t'.place.size=hashes.size/\t'.dummies = #[]/\t'.mask=m/\order.toList.Perm (F2 hashes.size):=by
 obtain⟨o',e,h,d⟩:=xH f hashes.toList (Array.replicate (m+1) none) 0 (by simp) (by simp) (by rw[Fc];lia);rw[Fc,Hd]at e d;have b:SetTable.layClean m hashes=some o':=by show(hashes.foldl (ma m) (some (Array.replicate (m+1) none,0))).map (·.1)=some o';rw[<-Array.foldl_toList,e];rfl
 have a:((F2 (m+1)).filterMap λj=>(o'.getD j Vo).map (j,·)).map (·.2)=o'.toList.filterMap id:=by
  rw[List.map_filterMap];have:o'.toList=(F2 (m+1)).map λj=>o'.getD j Vo:=by
   apply List.ext_getElem
   .rw[Fc,E7,G6,h]
   .intro i h1 h2;rw[Fc]at h1;simp[h1]
  rw[this,Jf];congr 1;funext j;show((o'.getD j Vo).map (j,·)).map (·.2)=o'.getD j Vo;cases o'.getD j Vo<;>rfl
 have c:t.relaid hashes wanted=Vn (({ mask:=m,place:=(((F2 (m+1)).filterMap λj=>(o'.getD j Vo).map (j,·)).map (·.1)).toArray,dummies:=#[],finger:=t.finger,led:=t.led,moves:=t.movedTo m,plain:=t.plain }:SetTable),(((F2 (m+1)).filterMap λj=>(o'.getD j Vo).map (j,·)).map (·.2)).toArray):=by unfold SetTable.relaid;rw[g];unfold SetTable.laid;rw[b];rfl
 refine⟨_,_,c,?_,rfl,rfl,?_⟩
 .rw[Fd,E7];have:=congrArg Ju a;rw[E7,d.length_eq,G6]at this;exact this
 .rw[List.toList_toArray,a];exact d
theorem oR(xs)(p)(x:α):(HZ xs p x).size=xs.size+1:=by unfold HZ;simp;lia
def EJ{xs:Array α}{p:Nat}{x e:α}(h:e∈(HZ xs p x).toList):e=x\/e∈xs.toList:=by
 unfold HZ at h;simp only[Array.toList_append,Array.toList_push,Array.toList_extract,Fx,Fi]at h;rcases h with(h|h)|h
 .exact .inr (Gs (by simpa using h))
 .exact .inl h
 .exact .inr (Kt (Gs h))
def Bt:Hg 20-1=31:=by decide +kernel
def zX:Hg 76-1=127:=by decide +kernel
def ze:Hg 308-1=511:=by decide +kernel
end L2.Og.Tb
namespace L2.Og
open PySem PySem.Spec PyProof.Rows
section
variable {P:Vd} {w:Ve} {A:Vi} {E:Va->Vc->Prop} {s:Vc} {K:Type} [DecidableEq K] {knd:KeyKind P w K}
def yb{ks:List K}{vs:List Va}(h:ItemsAre knd ks vs):∀v∈vs,∀b,v≠.ref b:=λv a b e=>by have:=h.byValue v a;subst e;cases this
def DG(n){v:Va}(h:∀b,v≠.ref b):ofAClassStatement n v=pure false:=by
 cases v with
 | ref b=>exact absurd rfl (h b)
 | _=>unfold ofAClassStatement;rfl
def uh{ks:List K}{b:Vb}{Q:Bool->Vc->Prop}(c:IsTupleKey knd s.heap ks b)(h:Q false s):Vf (Vg P w) A (ofAClassStatement 8 (.ref b)) Q E s:=by
 have d:=c.typeIs;obtain⟨o,items,n,ho,f,hd,hi⟩:=c;unfold ofAClassStatement;refine E1 (wpAny_typeOf d ?_);refine E1 (E2 ?_);refine E1 (wpAny_seqItems ho hd ?_);refine E1 ?_;rw[<-LN];refine wpAny_forIn_list _ (λrest r s'=>r.1=none/\s'=s/\∀v∈rest,∀b,v≠.ref b) _ ?_ ?_ _ _ ⟨rfl,rfl,yb hi⟩
 .rintro v rest r s' ⟨a,rfl,hall⟩;rw[DG _ (hall v Fe)];refine E1 (E2 ?_);exact E2 ⟨rfl,rfl,λu e=>hall u (Fb _ e)⟩
 .rintro⟨r1,g⟩ s' ⟨a,rfl,_⟩;subst a;exact E2 h
def zQ{ks:List K}{b:Vb}{l:List Va}{Q:Bool->Vc->Prop}(f:IsTupleKey knd s.heap ks b)(g:∀y∈l,∃a c,y=.ref a/\IsTupleKey knd s.heap c a)(h:Q false s):Vf (Vg P w) A (searchCouldBeSeen (.ref b) l) Q E s:=by
 refine E1 ?_;refine wpAny_forIn_list _ (λrest r s'=>r.1=Vo/\s'=s/\∀y∈rest,∃a c,y=.ref a/\IsTupleKey knd s.heap c a) _ ?_ ?_ _ _ ⟨rfl,rfl,g⟩
 .rintro v rest r s' ⟨e,rfl,hall⟩;obtain⟨a,c,rfl,d⟩:=hall v Fe;have next:∀y∈rest,∃a c,y=.ref a/\IsTupleKey knd s'.heap c a:=λy i=>hall y (Fb _ i)
  dsimp only;split
  .exact E2 ⟨rfl,rfl,next⟩
  .refine E1 (wpAny_eqIsQuiet_tuple f ?_);refine E1 (wpAny_eqIsQuiet_tuple d ?_);refine E1 (uh f ?_);refine E1 (uh d ?_);exact E2 ⟨rfl,rfl,next⟩
 .rintro⟨r1,j⟩ s' ⟨e,rfl,_⟩;subst e;exact E2 h
theorem yX{b:Vb}{k:List K}{h:Int}{es:Array (Int×Va)}{t:SetTable}(M:A.units<cLine)(z:IsTupleKey knd s.heap k b)(ho:s.heap.get? a=Vn o)(hd:o.data=.set es ep t)(p:t.fits es.size=true)(R:Tb.Mask t.mask)(B:t.dummies = #[])
  (hall:∀e∈es.toList,∃l d,e.2=.ref l/\IsTupleKey knd s.heap d l/\d≠k) {Q:SetFound->Vc->Prop} (S:∀j,Q (.free j false) s) :
  ∀(K fuel:Nat) (c:Option SetTable.Probe),K<fuel->K<10*HW t.mask->(c.getD (t.probeStart h)).dummy=Vo->t.slot (Tb.c7 t K (c.getD (t.probeStart h))).j=.empty ->
   Vf (Vg P w) A (setSearchFrom a (.ref b) h true fuel c) Q E s:=by
 intro K;induction K using HJ with
 | ind K T=>
  intro fuel c hfu U q hs;obtain⟨f,rfl⟩:∃f,fuel=f+1:=⟨fuel-1,by lia⟩;refine E1 (F0 ho hd p ?_);dsimp only;have W:t.gaveWay=false:=by unfold SetTable.gaveWay;rcases R with e|e|e|e<;>rw[e]<;>rfl
  have C:t.place.size=es.size:=by simp only[Jz,FO,beq_iff_eq]at p;exact p.1
  have u:t.sameMemory t.moves t.mask=Vn true:=by unfold SetTable.sameMemory;rw[F6 (beq_self_eq_true _)]
  rw[W];generalize n:t.probe _ h (c.getD (t.probeStart h))=r;obtain⟨g,n⟩:∃g,IM t g h (10*HW t.mask) (c.getD (t.probeStart h))=r:=⟨_,n⟩;rcases Tb.CH B g h K _ _ U q hs with⟨j,e⟩|⟨d,j,i,X,e,F⟩
  .rw[e]at n;subst n;exact E2 (S j)
  .rw[e]at n;subst n;have G:=Tb.sE F;have hi:i<es.size:=by rw[<-C];exact(Jk.mp G).1
   have hmem:es[i]∈es.toList:=by simp
   obtain⟨l,k2,H,v,hne⟩:=hall _ hmem;have m:es[i]?=some (es[i].1,.ref l):=by rw[GW hi,<-H]
   have I:∀y∈((es.filter λx=>x.1 == h).toList.map λx=>x.2),∃l d,y=Value.ref l/\IsTupleKey knd s.heap d l:=λy H=>by
    obtain⟨N,J,rfl⟩:=F7.mp H;have L:N∈es.toList:=by have:=JK.mp J;exact JK.mpr (Array.mem_filter.mp this).1
    obtain⟨b3,k3,h1,h2,_⟩:=hall N L;exact⟨b3,k3,h1,h2⟩
   have again:Vf (Vg P w) A (setSearchFrom a (.ref b) h true f (Vn (Tb.c7 t (d+1) (c.getD (t.probeStart h))))) Q E s:=by
    refine T (K-(d+1)) (by omega) f _ (by omega) (by omega) ?_ ?_
    .show(Tb.c7 t (d+1) _).dummy=Vo;rw[Tb.mN];exact q
    .show t.slot (Tb.c7 t (K-(d+1)) (Tb.c7 t (d+1) _)).j=_;rw[<-Tb.ow,show d+1+(K-(d+1))=K by omega];exact hs
   have same:isSame (Value.ref l) (Value.ref l)=pure true:=by unfold isSame;simp
   dsimp only;cases O:t.led
   .simp only[Bool.not_false,if_true];refine E1 (zQ z I ?_);simp only[FV,if_false];rw[m];dsimp only;refine E1 (wpAny_holding (wpAny_eqBool_tuple M v z ?_));rw[F3 hne];refine E1 (F0 ho hd p ?_);dsimp only;simp only[Jh,FV,if_false,u,if_true,F,m,same];exact E1 (E2 (E1 (E2 again)))
   .simp only[Bool.not_true,FV,if_false];rw[m];dsimp only;refine E1 (wpAny_holding (wpAny_eqBool_tuple M v z ?_));rw[F3 hne];refine E1 (F0 ho hd p ?_);dsimp only;simp only[Jh,FV,if_false,u,if_true,F,m,same];exact E1 (E2 (E1 (E2 again)))
def gm(knd:KeyKind P w K)(h:Vh)(a:Vb)(ks:List (List K)):Prop:=
 ∃o es ep t,h.get? a=Vn o/\o.ExactSet/\o.data=.set es ep t/\t.place.size=es.size/\t.dummies = #[]/\Tb.Mask t.mask/\es.size*5<t.mask*3/\es.size=ks.length/\∀e∈es.toList,∃b k,e.2=.ref b/\k∈ks/\IsTupleKey knd h k b
def pI{b:Vb}{k:List K}{es:Array (Int×Va)}{t:SetTable}(e:IsTupleKey knd h k b)(ho:h.get? a=Vn o)(hd:o.data=.set es ep t)(hs:Hn a h h'):IsTupleKey knd h' k b:=by
 obtain⟨o',items,n,c,f,d,hi⟩:=e;have hne:b≠a:=by rintro rfl;rw[ho]at c;cases c;rw[hd]at d;cases d
 exact⟨o',items,n,(hs.2 b hne).trans c,f,d,hi⟩
def ER(n){v:Va}(h:∀b,v≠.ref b):∃c,hashByValue n v=pure c:=by
 cases v with
 | ref b=>exact absurd rfl (h b)
 | _=>exact⟨_,by cases n<;>unfold hashByValue<;>rfl⟩
def yS{ks:List K}{b:Vb}{Q:Bool->Vc->Prop}(e:IsTupleKey knd s.heap ks b)(h:∀c,Q c s):Vf (Vg P w) A (hashByValue 8 (.ref b)) Q E s:=by
 have f:=e.typeIs;obtain⟨o,items,n,ho,i,hd,hi⟩:=e;refine E1 (wpAny_specialOf f F.slot_tuple_hash.lookup ?_);refine E1 (wpAny_seqItems ho hd ?_);dsimp only[Option.getD_some];refine E1 ?_;rw[<-LN];refine wpAny_forIn_list _ (λrest r s'=>(r.1=none\/∃c,r.1=some c)/\s'=s/\∀v∈rest,∀b,v≠.ref b) _ ?_ ?_ _ _ ⟨.inl rfl,rfl,yb hi⟩
 .rintro v rest r s' ⟨a,rfl,hall⟩;obtain⟨c,d⟩:=ER 7 (hall v Fe);rw[d];refine E1 (E2 ?_);cases c
  .exact E2 (E2 (h false))
  .exact E2 ⟨.inl rfl,rfl,λu g=>hall u (Fb _ g)⟩
 .rintro⟨r1,j⟩ s' ⟨a,rfl,_⟩;rcases a with rfl|⟨c,rfl⟩
  .exact E2 (h true)
  .exact E2 (h c)
def Bp{α:Type}{es:Array α}{order:Array Nat}(h:order.toList.Perm (F2 es.size)):(order.filterMap (es[·]?)).size=es.size/\∀e∈(order.filterMap (es[·]?)).toList,e∈es.toList:=by
 have key:∀l:List Nat,(∀i∈l,i<es.size)->(l.filterMap (es[·]?)).length=l.length/\∀e∈l.filterMap (es[·]?),e∈es.toList:=by
  intro l;induction l with
  | nil=>intro _;exact⟨rfl,λe c=>by cases c⟩
  | cons x l d=>
   intro b;obtain⟨i1,i2⟩:=d λi hi=>b i (Fb _ hi);have f:=b x Fe;have e:(x::l).filterMap (es[·]?)=es[x]::l.filterMap (es[·]?):=by rw[Ha];simp[f]
   rw[e];refine⟨by rw[FC,FC,i1],λy a=>?_⟩;rcases Fo.mp a with rfl|a
   .simp
   .exact i2 y a
 have hlt:∀i∈order.toList,i<es.size:=λi hi=>GK.mp (h.mem_iff.mp hi);obtain⟨k1,k2⟩:=key order.toList hlt;rw[KO];refine⟨?_,k2⟩;rw[<-Fc,KO,k1,h.length_eq,G6]
theorem AD{es c:Array (Int×Va)}{t d:SetTable}{ks1:List (List K)}{Q:Bool->Vc->Prop}(ho:s.heap.get? a=Vn o)(hex:o.ExactSet)(hd:o.data=.set es ep t)(j:c.size=n+1)(v:d.place.size=c.size)(r:d.dummies = #[])
  (x:Tb.Mask d.mask) (y:n*5<d.mask*3) (hn:n<200) (hlen:ks1.length=n+1) (z:∀e∈c.toList,∃b k,e.2=.ref b/\k∈ks1/\IsTupleKey knd s.heap k b)
  (h:∀h',Hn a s.heap h'->gm knd h' a ks1->Q true { s with heap:=h' }) :
  Vf (Vg P w) A (do
   storeSet a c d
   if(!false && d.tooFull)=true then do
    setRelay a (IU (n+1))
    pure true
   else pure true) Q E s:=by
 have L:n+1<=sizeLine:=FI (show n+1<=1000 by lia) (by decide);refine E1 (wpAny_storeSet_of ho hd ?_ (by lia));have i:(s.heap.update a (JF c d)).get? a=Vn { o with data:=.set c (ep+1) d }:=by have:=G0 (JF c d) ho (by rw[putSet_of c d hd];rfl);rw[putSet_of c d hd]at this;exact this
 have g:=Hb s.heap a (JF c d);generalize s.heap.update a (JF c d)=h1 at i g;have l:∀e∈c.toList,∃b k,e.2=.ref b/\k∈ks1/\IsTupleKey knd h1 k b:=λe M=>by obtain⟨b,k,N,O,R⟩:=z e M;exact⟨b,k,N,O,pI R ho hd g⟩
 have f:d.fill=n+1:=by unfold K7;rw[r,v,j];rfl
 by_cases G:d.tooFull=true
 .rw[G];have B:d.mask*3<=(n+1)*5:=by unfold Lh at G;rw[f]at G;simpa using G
  obtain⟨m,U,W,X,hlt⟩:∃m,Tb.Mask m/\Hg (IU (n+1))-1=m/\n+1<=m/\(n+1)*5<m*3/\Hg (IU (n+1))<=sizeLine:=by
   have Y:IU (n+1)=(n+1)*4:=by unfold IU;rw[F5 (by lia)]
   rcases x with e|e|e|e<;>rw[e]at y B
   .obtain rfl:n=4:=by lia
    exact⟨31,.inr (.inl rfl),Tb.Bt,by lia,by lia,by decide +kernel⟩
   .obtain rfl:n=18:=by lia
    exact⟨127,.inr (.inr (.inl rfl)),Tb.zX,by lia,by lia,by decide +kernel⟩
   .obtain rfl:n=76:=by lia
    exact⟨511,.inr (.inr (.inr rfl)),Tb.ze,by lia,by lia,by decide +kernel⟩
   .omega
  have C:d.fits c.size=true:=by simp only[Jz,FO,beq_iff_eq,decide_eq_true_eq];refine⟨v,?_⟩;rw[f];rcases x with e|e|e|e<;>lia
  obtain⟨F,order,H,I,S,J,p⟩:=Tb.zN d (hashes:=c.map (·.1)) U W (by rw[Ku];lia);rw[Ku]at I p;obtain⟨r1,Z⟩:=Bp p;refine E1 ?_;unfold setRelay;refine E1 (F0 (s:={ s with heap:=h1 }) i rfl C ?_);dsimp only;rw[F5 (Nat.not_lt.mpr hlt.2),H];refine E1 ?_;show Vf _ _ (do
   if(order.filterMap (c[·]?)).size != c.size then unsupported "internal:set-table-lost-an-element"
   pure (order.filterMap (c[·]?),F)) _ _ _
  rw[r1];simp only[bne_self_eq_false,FV,if_false];refine E2 ?_;dsimp only;refine wpAny_storeSet_of (s:={ s with heap:=h1 }) i rfl ?_ (by rw[r1];lia);have T:(h1.update a (JF (order.filterMap (c[·]?)) F)).get? a=Vn { o with data:=.set (order.filterMap (c[·]?)) (ep+1+1) F }:=by have:=G0 (JF (order.filterMap (c[·]?)) F) i (by rw[putSet_of _ _ (o:={ o with data:=.set c (ep+1) d }) rfl];rfl);rw[putSet_of _ _ (o:={ o with data:=.set c (ep+1) d }) rfl]at this;exact this
  have u:=Hb h1 a (JF (order.filterMap (c[·]?)) F);refine E2 (h _ (g.trans u) ⟨_,_,_,F,T,hex,rfl,by rw[r1];exact I,S,by rw[J];exact U,by rw[r1,J,j];exact hlt.1,by rw[r1,j,hlen],λe M=>?_⟩);obtain⟨b,k,N,O,R⟩:=l e (Z e M);exact⟨b,k,N,O,pI R i rfl u⟩
 .have q:d.tooFull=false:=by simpa using G
  rw[q];simp only[Jh,FV,if_false];have B:(n+1)*5<d.mask*3:=by unfold Lh at q;rw[f]at q;simpa using q
  exact E2 (h h1 g ⟨_,c,_,d,i,hex,rfl,v,r,x,by rw[j];exact B,by rw[j,hlen],l⟩)
theorem Dd{b:Vb}{k:List K}{ks:List (List K)}{d:Int}{Q:Bool->Vc->Prop}(F:A.units<cLine)(v:IsTupleKey knd s.heap k b)(G:gm knd s.heap a ks)(hnew:k∉ks)(hsz:ks.length<200)
  (h:∀h',Hn a s.heap h'->gm knd h' a (k::ks)->Q true { s with heap:=h' }):Vf (Vg P w) A (setAddHashed a (.ref b) d) Q E s:=by
 obtain⟨o,es,ep,t,ho,hex,hd,r,f,u,m,hlen,hall⟩:=G;have hle:es.size<=t.mask:=by lia
 have x:t.fits es.size=true:=by simp only[Jz,FO,beq_iff_eq,decide_eq_true_eq];refine⟨r,?_⟩;unfold K7;rw[f,r];simpa using hle
 obtain⟨S,y,B⟩:=Tb.Bh f (by rw[r];exact hle);obtain⟨N,H,I⟩:=Tb.Dp u y d;have n:∀e∈es.toList,∃g i,e.2=.ref g/\IsTupleKey knd s.heap i g/\i≠k:=λe p=>by obtain⟨g,i,h1,h2,J⟩:=hall e p;exact⟨g,i,h1,J,λz=>hnew (z ▸ h2)⟩
 refine wpAny_holding (E1 (F0 ho hd x ?_));dsimp only;have C:10*HW t.mask<100000:=by unfold HW;rcases u with e|e|e|e<;>rw[e]<;>decide
 refine E1 (yX F v ho hd x u f n (λj=>?_) N 100000 Vo (by lia) H rfl (by show t.slot (Tb.c7 t N (t.probeStart d)).j=_;rw[I];exact B));refine E1 (F0 ho hd x ?_);dsimp only;have l:(t.put j).1.place.size=es.size+1/\(t.put j).1.dummies = #[]/\(t.put j).1.mask=t.mask:=by
  refine⟨?_,?_,rfl⟩
  .show(HZ t.place (SetTable.below t.place j) j).size=_;rw[Tb.oR,r]
  .show(if SetTable.has t.dummies j=true then _ else t.dummies) = #[];rw[f,Tb.xX];rfl
 have q:∀e∈(HZ es (t.put j).2 (d,Value.ref b)).toList,∃g i,e.2=.ref g/\i∈k::ks/\IsTupleKey knd s.heap i g:=λe p=>by
  rcases Tb.EJ p with rfl|p
  .exact⟨b,k,rfl,Fe,v⟩
  .obtain⟨g,i,L,M,O⟩:=hall e p;exact⟨g,i,L,Fb _ M,O⟩
 have fin:∀c:Bool,Vf (Vg P w) A (do
   storeSet a (HZ es (t.put j).2 (d,Value.ref b)) (if c=true then(t.put j).1 else{ (t.put j).1 with plain:=false })
   if(!false && (if c=true then(t.put j).1 else{ (t.put j).1 with plain:=false }).tooFull)=true then do
    setRelay a (IU (es.size+1))
    pure true
   else pure true) Q E s:=λc=>by
  refine AD ho hex hd (Tb.oR _ _ _) ?_ ?_ ?_ ?_ (by lia) (by rw[FC,hlen]) q h
  .rw[Tb.oR];cases c<;>exact l.1
  .cases c<;>exact l.2.1
  .cases c<;>exact u
  .cases c<;>exact m
 cases R:(t.put j).1.plain
 .exact E1 (E2 (fin true))
 .exact E1 (yS v fin)
end
section
variable {P:Vd} {w:Ve} {A:Vi} {K:Type} [DecidableEq K] {knd:KeyKind P w K} {I:Vb} {fp wr:List Vb} {G:Array GenState->Array GenState->Prop} {n:Nat} {Pz:Nat->Va->Prop} {St:Nat->Vc->Prop}
def gm.moved{ks:List (List K)}{wr:List Vb}(i:gm knd h a ks)(f:∀b o,b∉wr->h.get? b=Vn o->h'.get? b=Vn o)(ha:a∉wr)(j:∀b∈wr,∀o,h.get? b=Vn o->∃vs,o.data=.fields vs):gm knd h' a ks:=by obtain⟨o,es,ep,t,ho,hex,hd,h1,h2,l,n,p,hall⟩:=i;refine⟨o,es,ep,t,f a o ha ho,hex,hd,h1,h2,l,n,p,λe q=>?_⟩;obtain⟨b,k,r,s,o',items,m,c,u,d,hi⟩:=hall e q;refine⟨b,k,r,s,o',items,m,f b o' (λhb=>?_) c,u,d,hi⟩;obtain⟨vs,g⟩:=j b hb o' c;rw[d]at g;cases g
theorem Aa(W:WalksS P w A.in1 I fp wr G n Pz St)(S:Vb)(hS:S∉fp)(hu:A.in1.units<cLine)(bs:List Vb)(kk:List (List K))(E:kk.length=n)(H:kk.Nodup)(hsz:n<200)
  (r:∀i v,Pz i v->∃b,v=.ref b/\bs[i]?=Vn b) (hwr:∀i s,St i s->∀b∈wr,∀o,s.heap.get? b=Vn o->∃vs,o.data=.fields vs) {R:Result->Vc->Prop} :
  ∀(m i:Nat) (s:Vc),n-i=m->i<=n->St i s->gm knd s.heap S (kk.take i).reverse->(∀(j:Nat) (b:Vb) (k:List K),bs[j]?=Vn b->kk[j]?=Vn k->IsTupleKey knd s.heap k b) ->
   (∀s',Moved (S::wr) G s s'->gm knd s'.heap S kk.reverse->R (.ok (.ret .none)) s') ->
   codeAny (Vg P w) A (.builtin "set.update.loop" ⟨[.ref S,.ref I],[]⟩) R s:=by
 have u:S∉wr:=λz=>hS (W.sub _ z);have more:∀b∈wr,b∈S::wr:=λb z=>Fb _ z;intro m;induction m with
 | zero=>
  intro i s hm hi d a f J;obtain rfl:i=n:=by lia
  refine codeAny_builtin J8 ?_;rw[HX Il _];show Vf _ A.in1 (pyNext (.ref I) >>= _) _ _ s;refine E1 (W.done s _ _ d λs' p=>?_);rw[<-E,FD]at a;exact E2 (J s' (p.mono more) (a.moved p.heap u (hwr _ s d)))
 | succ m ih=>
  intro i s hm hi d a f J;have hlt:i<n:=by lia
  refine codeAny_builtin J8 ?_;rw[HX Il _];show Vf _ A.in1 (pyNext (.ref I) >>= _) _ _ s;refine E1 (W.item i s _ _ hlt d λv s' hP x p=>?_);obtain⟨b,rfl,hb⟩:=r i v hP;have h:kk[i]?=Vn kk[i]:=E8 (by lia);have g:=a.moved p.heap u (hwr _ s d);have hkeys':∀(j:Nat) (b:Vb) (k:List K),bs[j]?=Vn b->kk[j]?=Vn k->IsTupleKey knd s'.heap k b:=λj b k L M=>by obtain⟨o',items,q,y,B,C,N⟩:=f j b k L M;refine⟨o',items,q,p.heap b o' (λO=>?_) y,B,C,N⟩;obtain⟨vs,hv⟩:=hwr _ s d b O o' y;rw[C]at hv;cases hv
  show Vf _ A.in1 (holding [Value.ref b] (setAdd S (.ref b)) >>= _) _ _ s';refine E1 (wpAny_holding ?_);unfold setAdd;refine wpAny_holding (E1 (wpAny_pyHash_tuple hu (hkeys' i b _ hb h) ?_));have hnew:kk[i]∉(kk.take i).reverse:=by rw[List.mem_reverse];intro z;obtain⟨q,hq,e⟩:=JM.mp z;rw[FZ]at hq;rw[List.getElem_take]at e;have:=(List.getElem_inj H).mp e;lia
  have Q:(kk.take (i+1)).reverse=kk[i]::(kk.take i).reverse:=by rw[GA,h,K3];rfl
  refine Dd (s:={ s' with toks:=s'.toks+(kk[i].length+1) }) hu (hkeys' i b _ hb h) g hnew (by rw[Gh,FZ];lia) λh' T l=>?_;obtain⟨oS,a1,a2,tS,U,_,X,_⟩:=id g;refine E2 ⟨plainId_quiet Il _,ih (i+1) _ (by lia) hlt (W.frame _ s' _ _ x (Hs _ _) λc B o e=>?_) (by rw[Q];exact l) (λj c k L M=>pI (hkeys' j c k L M) U X T) λY Z a0=>?_⟩
  .rw[T.2 c (λz:c=S=>hS (z ▸ B))];exact e
  .refine J Y (Moved.trans W.gtrans ((p.mono more).then_heap (Hs _ _) λc o B e=>?_) Z) a0;rw[T.2 c (λz:c=S=>B (by rw[z];exact Fe))];exact e
end
end L2.Og
namespace L2.Og
open PySem PySem.Spec PyProof.Rows
section
variable {P:Vd} {w:Ve} {A:Vi} {E:Va->Vc->Prop} {s:Vc} {K:Type} [DecidableEq K] {knd:KeyKind P w K}
abbrev gE(led:Bool):Obj:={ cls:=.type "set",dict:=Vo,data:=.set #[] 0 (.fresh 0 0 led) }
def va(knd:KeyKind P w K)(s:Vc)(kk:List (List K))(h':Vh):Prop:=
 gm knd h' s.heap.objs.size kk.reverse/\∀b o,b<s.heap.objs.size->s.heap.get? b=Vn o->h'.get? b=Vn o
def Eh:isSubtype (.type "tuple") (.type "frozenset")=pure false:=by
 rw[isSubtype_type]
 kernel_rfl
theorem BR{t:Vb}{bs:List Vb}{kk:List (List K)}(hA:A.handled=Vo)(hu:A.units+5<cLine)(gt:s.heap.IsTuple t ys)(hb:ys.toList=bs.map Value.ref)
  (N:kk.length=ys.size) (p:kk.Nodup) (O:ys.size<200) (f:∀(j:Nat) (b:Vb) (k:List K),bs[j]?=Vn b->kk[j]?=Vn k->IsTupleKey knd s.heap k b)
  (h:∀(h':Vh) (tk:Nat),va knd s kk h'->Q (.ref s.heap.objs.size) { s with heap:=h',toks:=tk }):Vf (Vg P w) A (call (.type "set") [.ref t]) Q E s:=by
 have x1:=IB.notType;have x2:=IB.canCreate;have x3:=F.typeCall_set_1 (.ref t);have x4:=IB.made;have x5:=IB.sub;obtain⟨c,tl,x6⟩:=IB.mro;refine wpAny_call (codeAny_of_tree ?_);show Vf _ _ (callAny (.type "set") _) _ _ _;refine E2 ⟨Code.quiet_builtin _ (by decide +kernel),codeAny_builtin F.entry_type_call ?_⟩;rw[Around.under_plain (weight_type_call_type "set" [.ref t] []) rfl]
 repeat (any_goals (first|assumption|wp_step))
 refine codeAny_mono (code_set_new_1 (.ref t) (E:=E) (Q₁:=λv s1=>∃led,v=.ref s.heap.objs.size/\s1={ s with heap:=s.heap.push (gE led) }) λled=>⟨led,rfl,rfl⟩) λr s1 u=>?_;cases r with
 | error e=>exact u
 | ok fl=>
  cases fl with
  | ret v=>
   obtain⟨led,rfl,rfl⟩:=u;have M:(s.heap.push (gE led)).get? s.heap.objs.size=Vn (gE led):=E5 _ rfl;have S:Shared.TypeIs { s with heap:=s.heap.push (gE led) } (.ref s.heap.objs.size) "set":=⟨_,M,rfl⟩;have x7:=IB.init.lookup;have x8:=IB.init.bind (.ref s.heap.objs.size)
   repeat (any_goals (first|assumption|wp_step))
   refine codeAny_mono (codeAny_call_builtin (R:=wants (λr s2=>r=.none/\∃h' tk,s2={ s with heap:=h',toks:=tk }/\va knd s kk h') E) IB.init.plain F.entry_set_init (check_set_init_1 S ?_)) λT s2 a=>?_
   .have x:(s.heap.push (gE led)).IsTuple t ys:=gt.push _;have hlt:t<s.heap.objs.size:=by obtain⟨o,ho,_⟩:=gt;exact E6 ho
    obtain⟨ol,U,hcl,nl,g⟩:=id x;obtain⟨c0,d0,dt,sl⟩:=ol;simp only at hcl g;subst hcl g;have y1:=F.sub_tuple_set;have y2:=Eh;have y3:(Value.type "tuple" == Value.type "dict")=false:=by decide
    unfold Builtin.«set.__init__» noKeywords Builtin.Frozenset.updateFrom;generalize hit:pyIter=PI
    wp_walk
    subst hit;refine wpAny_pyIter_tuple x ?_;refine E1 (wpAny_runValue ?_);have l:(s.heap.push (gE led)).objs.size=s.heap.objs.size+1:=Gx _ _;have y:A.in1.in1.in1.handled=Vo:=by simp[hA]
    have hne:t≠(s.heap.push (gE led)).objs.size:=by rw[l];exact Ft (IL hlt)
    have B:s.heap.objs.size∉[(s.heap.push (gE led)).objs.size,t]:=by
     intro z;rcases Fo.mp z with z|z
     .rw[l]at z;exact Ft (IY _) z
     .exact HL hlt (Fi.mp z)
    have C:∀i:Nat,ys[i]?=(bs[i]?).map Value.ref:=λi=>by rw[<-G5,hb,E9]
    refine Aa (knd:=knd) ((Walks.tuple y _ t hne ys).toS) s.heap.objs.size B (by simp only[Around.in1_units];lia) bs kk N p O (λi v W=>?_) (λi s' hs b G o ho=>?_) (ys.size-0) 0 _ (by lia) (GO _) ⟨⟨_,E5 _ rfl,rfl,rfl⟩,x.push _⟩ ⟨gE led,#[],0,_,E4 _ M,⟨rfl,rfl,rfl⟩,rfl,rfl,rfl,  .inl rfl,(show 0*5<7*3 by decide),rfl,λe X=>by simp at X⟩ (λj b k l Y=>?_) λs' n d=>?_
    .have m:ys[i]?=Vn v:=W;rw[C i]at m;obtain⟨b,e,rfl⟩:=Fj.mp m;exact⟨b,rfl,e⟩
    .cases Fi.mp G;obtain⟨o',H,_,I⟩:=hs.1;rw[H]at ho;cases ho;exact⟨_,I⟩
    .obtain⟨o,items,q,ho,r⟩:=f j b k l Y;exact⟨o,items,q,E4 _ (E4 _ ho),r⟩
    .obtain⟨h',Z,d',J,L⟩:=s';have q1:Z=s.gens:=n.gens;have q2:d'=s.drawn:=n.drawn;have q3:L=s.os:=n.os;subst q1 q2 q3;show Vf _ _ _ _ _ _;refine E2 ?_;show Vf _ _ (ret Value.none) _ _ _;refine E2 ⟨rfl,h',J,rfl,d,λb o hb e=>n.heap b o (λz=>?_) (E4 _ (E4 _ e))⟩;rcases Fo.mp z with z|z
     .exact Ft hb z
     .have z:=Fi.mp z;rw[l]at z;exact Ft (IL hb) z
   .cases T with
    | error e=>exact a
    | ok f2=>
     cases f2 with
     | ret r=>
      obtain⟨rfl,h',tk,rfl,d⟩:=a
      repeat (any_goals (first|assumption|wp_step))
      exact h _ _ d
     | _=>exact a.elim
  | _=>exact u.elim
end
end L2.Og
namespace L2.Og
open PySem PySem.Spec PyProof.Rows
def jl(a:Vb)(n:Nat):HO:=.ext λh=>∃o es ep t,h.get? a=Vn o/\o.ExactSet/\o.data=.set es ep t/\t.fits es.size=true/\es.size=n
theorem yv(S:gm (bS P w) h a ks):bN P w H h a (jl a ks.length):=by
 obtain⟨o,es,ep,t,ho,hex,hd,g,b,j,c,hlen,_⟩:=S;refine⟨⟨o,es,ep,t,ho,hex,hd,?_,hlen⟩,⟨o,ho⟩,λh1 h2 z k=>?_⟩
 .simp only[Jz,FO,beq_iff_eq,decide_eq_true_eq];refine⟨g,?_⟩;unfold K7;rw[b,g];have:es.size<=t.mask:=by lia
  simpa using this
 .obtain⟨o',d,e,i,f,r⟩:=z;exact⟨o',d,e,i,k _ f,r⟩
def cx(H:Hp)(p:Vb)(kk:List (List Key)):Prop:=∃bs:List Vb,H p=Vn (.tup (bs.map V.ref))/\bs.length=kk.length/\∀(j:Nat) (b:Vb) (k:List Key),bs[j]?=Vn b->kk[j]?=Vn k->H b=Vn (.tup (k.map kV))
theorem uB:∀{bs:List Vb} {us:List Va},Vals (bs.map V.ref) us->us=bs.map Value.ref
 | [],_,.nil=>rfl
 | b::bs,_,.cons r t=>by rw[GY,<-uB (bs:=bs) t];exact congrArg (· :: _) r
section
variable {X:Cx}
def wg:List V->Hp->VK->Prop:=λxs H Q=>∃p a,xs=[.ref p]/\cx H p a/\a.Nodup/\a.length<200/\∀l,H l=Vo->Q (.ref l) (upd H l (jl l a.length))
theorem call_setT(c:Room k X.A):cS X (.type "set") wg:=by
 intro pins s σ H xs us Q I r h;obtain⟨p,kk,rfl,⟨bs,h1,h2,f⟩,a,g,q⟩:=h;obtain⟨u,rfl,i⟩:=vals1 r;cases i;obtain⟨_,l,m,gt⟩:=I.hok p _ h1;have v:=uB m;subst v;have C:=c.units;have hA:=c.hd;refine BR (knd:=bS X.prog X.w) hA (by lia) (gt) rfl (by simp[h2]) a (by simp[h2];exact g) (λj b k x y=>?_) λh' tk d=>?_
 .obtain⟨_,E,z,o,ho,B,n,hd⟩:=I.hok b _ (f j b k x y);exact⟨o,_,n,ho,B,hd,oD z⟩
 .have hok:=yv (H:=upd H s.heap.objs.size (jl s.heap.objs.size kk.length)) d.1;rw[Gh]at hok;exact⟨.ref s.heap.objs.size,_,I.laid (λb o e=>d.2 b o (E6 e) e) (Fu _) hok,rfl,q _ (I.hok.fresh (Fu _))⟩
def tW:List V->Hp->VK->Prop:=λxs H Q=>∃p n,xs=[.ref p]/\H p=Vn (jl p n)/\n<200/\Q (.int n) H
theorem call_lenSet:cS X (.builtin "len") tW:=by intro pins s σ H xs us Q I r h;obtain⟨p,n,rfl,a,d,q⟩:=h;obtain⟨u,rfl,b⟩:=vals1 r;cases b;obtain⟨⟨o,es,ep,t,ho,hex,hd,c,hs⟩,_⟩:=I.hok p _ a;refine call_len_set ho hex hd c (by lia) ⟨.int n,H,I.tok _,⟨s.toks+1,by rw[hs]⟩,q⟩
def rd_setOf{Q:VK}{kk:List (List Key)}(h:cx H p kk)(a:kk.Nodup)(b:kk.length<200)(q:∀l H',Ext H H'->H' l=Vn (jl l kk.length)->Q (.ref l) H'):wg [.ref p] H Q:=
 ⟨p,kk,rfl,h,a,b,λl c=>q l _ (aY c) aF⟩
def rd_lenSet{Q:VK}(h:H p=Vn (jl p n))(a:n<200)(q:Q (.int n) H):tW [.ref p] H Q:=⟨p,n,rfl,h,a,q⟩
end
end L2.Og
namespace L2.Ti
open PySem PySem.Spec PyProof.Rows
end L2.Ti
namespace L2
open PySem PySem.Spec PyProof.Rows
section
variable {X:Cx} {pins:List (Vb×Obj)} {σ:St} {H:Hp} {s:Vc}
def fE{i:Nat}{y:Vm}{py:Pos}{pos c:Pos}(own:List Vm)(js:List Nat){M:TI}{te:TE}(U:X.N.Nodup)(d:X.N[i]?=Vn y)(Z:Loc X.env.scope y)
  (hi:PI X tg iter M) (hg:∀z,PG (di X sc own js z) tg g) (ht:∀z,j4 (di X sc own js z) ifs tc)
  (he:∀z,PE (di X sc own js z) elt te) (f:swapsWith (.ListComp elt [⟨tg,iter,ifs,0⟩] sc pos) (Vn (.Name y py)) c.line X.env=pure true:=by rfl) (hc:X.calm=true:=by rfl) (O:sc.kind=.function:=by rfl) (hb:fK sc X.env.scope=true:=by rfl) (hj:kP sc X.N js=true:=by rfl)
  (hs:∀x,foldedSetIterable iter X.env x=pure x:=by intro _;rfl) (j:X.fn y=true\/X.env.scope.names.lookup y=Vn .local:=by first|exact .inl rfl|exact .inr rfl|assumption) :
  PS X (.Assign [.Name y py] (.ListComp elt [⟨tg,iter,ifs,0⟩] sc pos) c) (me (mS own.length js M g tc te) (jY i)):=by
 intro pins s σ H l I h;rw[exec_Assign_Name_used _ _ _ _ f];refine E1 (wpAny_standAt (E1 ?_));refine E1 (wpAny_mono (wpAny_comprehension_free rfl hs (nG λp n j=>I.ok.has p.1 (kA hb n j)) O (λp n hl=>ya hb n hl)
  (aM (hi pins s σ H _ I h) λv s1 h1=>aM h1 λa0 s2 h2=>?_)) (λ_ s' hq=>E2 (E2 hq)) λ_ _ e=>e)
 obtain⟨it,fp,tn,J,H2,e,I2,T,r,P,W,w0,turn⟩:=h2;subst e;refine xi (Q:=λx H1=>jY i x σ H1 l.nx) O hb hj (λ_=>hg _) (λ_=>ht _) (λ_=>he _) I2 (λC=>Turn.at_ T hc) r P w0 turn ?_;intro D C s' ys H' nD I' hC ⟨m,hm⟩ a1 q;refine wpAny_assign_Name (tZ I' U d Z (v:=.ref D) rfl (λu B ⟨a,E,ha⟩=>?_) j);obtain⟨f0,R,P,f3,S,f5⟩:=hC;have F:a≠C:=by
  rcases ha with rfl|ha
  .exact Gi R
  .exact S y a ha
 refine⟨m,hm.sameBut E (Gi F),λh' G=>?_⟩;exact⟨_,_,B.turned (λb o L e=>(G.2 b L).trans e) f0 R f3 S f5,q⟩
end
section
variable {X:Cx}
theorem zu{xs:Array (Int×Tok)}(g:A.handled=Vo)(a:s.heap.IsTuple l (intItems xs))(hne:0<xs.size)
  (h:∀v h' tk,(intItems xs)[argBest (λi j=>decide (numAt xs i>numAt xs j)) (xs.size-1)]?=Vn v->(∀b o,s.heap.get? b=Vn o->h'.get? b=Vn o)->Q v { s with heap:=h',toks:=tk }) :
  Vf (Vg prog w) A (call (Value.builtin "max") [Value.ref l]) Q E s:=by
 have hlt:l<s.heap.objs.size:=by obtain⟨o,e,_⟩:=a;exact E6 e
 have hs:(intItems xs).size=xs.size:=Ku;refine call_max_walk (iter_tuple a ⟨s.heap.objs.size,[s.heap.objs.size,l],[s.heap.objs.size],(intItems xs).size,λi v=>(intItems xs)[i]?=Vn v,λi h=>h.IsTupleIter s.heap.objs.size l i/\h.IsTuple l (intItems xs),_,rfl,Walks.tuple (A:=A.in1) g _ l (Ft hlt) _,?_,?_,by lia,CmpOf.ints_gt (numAt xs) λ_ _=>intItems_at,λv h' tk f m=>?_⟩)
 .refine⟨⟨_,E5 s.heap rfl,rfl,rfl⟩,?_⟩;obtain⟨o,e,c,d⟩:=a;exact⟨o,E4 _ e,c,d⟩
 .intro b hb;rw[Gx];rcases Fo.mp hb with rfl|hb
  .exact IY _
  .cases Fi.mp hb;exact IL hlt
 .rw[hs]at f;refine h v h' tk f λb o hb=>m b o (λz=>?_) ?_
  .cases Fi.mp z;exact absurd (E6 hb) (Gy _)
  .exact E4 _ hb
def pR(K:E3):List V->Hp->VK->Prop:=λxs H Q=>∃(p:Vb) (ns:List Int),xs=[.ref p]/\ay K H p (ns.map V.int)/\0<ns.length/\∀M,M∈ns->(∀a,a∈ns->a<=M)->Q (.int M) H
def Ak(K:E3)(j:X.calm=true)(l:X.K=K:=by rfl):cS X (.builtin "max") (pR K):=by
 subst l;intro pins s σ H xs us Q I r h;obtain⟨p,ns,rfl,m,A,q⟩:=h;obtain⟨u,rfl,n⟩:=vals1 r;cases n;obtain⟨c,o,pl,d⟩:=I.tuple m;have i1:IntsAre c ns:=intsAre_of o;obtain⟨a,g⟩:=i1.allInts.items;have e:ns=a.toList.map (·.1):=(i1.numsOf.symm.trans (by rw[<-g])).trans (nums_intItems a);have f:a.toList.length=a.size:=Fc;have ln:ns.length=a.size:=by rw[e,E7,f]
 have v:s.heap.IsTuple p (intItems a):=g ▸ pl;refine zu (I.ok.hd j) v (by omega) λbest h' tk b kept=>?_;obtain⟨tok,w⟩:=intItems_at b;subst w;have am:=argBest_gt (numAt a) (a.size-1);refine⟨.int _,H,I.kept kept,⟨tok,rfl⟩,q _ ?_ λz d=>?_⟩
 .rw[e];rw[numAt_eq];exact getD_mem (by rw[E7,f];omega)
 .rw[e]at d;obtain⟨k,i,x⟩:=mem_getD d;subst x;have y:k<a.size:=by rw[E7,f]at i;exact i
  have:=am.2 k (by omega);rw[numAt_eq]at this;exact this
def uk(K:E3):List V->Hp->VK->Prop:=λxs H Q=>∃(p:Vb) (ns:List Int),xs=[.ref p]/\ag K H p (ns.map V.int)/\0<ns.length/\∀M,M∈ns->(∀a,a∈ns->M<=a)->Q (.int M) H
def Dl(K:E3)(j:X.calm=true)(l:X.K=K:=by rfl):cS X (.builtin "min") (uk K):=by
 subst l;intro pins s σ H xs us Q I r h;obtain⟨p,ns,rfl,m,A,q⟩:=h;obtain⟨u,rfl,n⟩:=vals1 r;cases n;obtain⟨c,o,pl,d⟩:=I.list m;have i1:IntsAre c ns:=intsAre_of o;obtain⟨a,g⟩:=i1.allInts.items;have e:ns=a.toList.map (·.1):=(i1.numsOf.symm.trans (by rw[<-g])).trans (nums_intItems a);have f:a.toList.length=a.size:=Fc;have ln:ns.length=a.size:=by rw[e,E7,f]
 have v:s.heap.IsList p (intItems a):=g ▸ pl.isList;refine min_intList (I.ok.hd j) v (by omega) λbest h' tk b kept=>?_;obtain⟨tok,w⟩:=intItems_at b;subst w;have am:=argBest_lt (numAt a) (a.size-1);refine⟨.int _,H,I.kept kept,⟨tok,rfl⟩,q _ ?_ λz d=>?_⟩
 .rw[e];rw[numAt_eq];exact getD_mem (by rw[E7,f];omega)
 .rw[e]at d;obtain⟨k,i,x⟩:=mem_getD d;subst x;have y:k<a.size:=by rw[E7,f]at i;exact i
  have:=am.2 k (by omega);rw[<-numAt_eq];exact this
def Ek{K:E3}{Q:VK}{ns:List Int}(e:ay K H p (ns.map V.int))(b:0<ns.length)(h:∀M,M∈ns->(∀a,a∈ns->a<=M)->Q (.int M) H):pR K [.ref p] H Q:=⟨p,ns,rfl,e,b,h⟩
def DO{K:E3}{Q:VK}{ns:List Int}(e:ag K H p (ns.map V.int))(b:0<ns.length)(h:∀M,M∈ns->(∀a,a∈ns->M<=a)->Q (.int M) H):uk K [.ref p] H Q:=⟨p,ns,rfl,e,b,h⟩
end
end L2
namespace L2.Md
open PySem PySem.Spec PyProof.Rows
def qX(P:Nat->Va->Prop)(val:Nat->Int)(j:Nat):Option Va->Prop
 | none=>j=0
 | some v=>∃i,i<j/\P i v/\∀a,a<j->val a<=val i
def two:Option Va->Array Va
 | none=>#[]
 | some v=>#[v,v]
section
variable {prog:Vd} {w:Ve} {A:Vi} {R:Result->Vc->Prop} {I:Vb} {fp wr:List Vb} {n:Nat} {P:Nat->Va->Prop} {St:Nat->Vh->Prop}
theorem loop(W:Walks prog w A.in1 I fp wr n P St)(val:Nat->Int)(S:∀i v,P i v->∃t,v=.int (val i) t)(B:Vb)(H:B∉fp)(d:Va):∀(k j:Nat) (s:Vc) (o:Option Va) (c:Nat),n-j=k->j<=n->St j s.heap->qX P val j o ->
  s.heap.get? B=Vn { cls:=.type "list",dict:=Vo,data:=.seq (two o) c,slots:=#[] } ->
  (∀v h' tk,(n=0/\v=d)\/qX P val n (Vn v)->(∀b u,b∉wr->b≠B->s.heap.get? b=Vn u->h'.get? b=Vn u)->R (.ok (.ret v)) { s with heap:=h',toks:=tk }) ->
  codeAny (Vg prog w) A (.builtin "max.loop" ⟨[.ref I,.none,.ref B],[("default",d)]⟩) R s:=by
 have N:=λh=>H (W.sub _ h);have nm:(toString "max" ++ toString ".loop":String) = "max.loop":=by decide
 have cm:=CmpOf.ints_gt (prog:=prog) (w:=w) (A:=A.in1) (P:=P) val S;intro k;induction k with
 | zero=>
  intro j s o c T U p hb y x;have e:j=n:=by lia
  subst e;refine codeAny_builtin F.entry_max_loop ?_;rw[HX Ht _];show Vf _ A.in1 (seqItems? (.ref B) >>= _) _ _ s;refine E1 (wpAny_seqItems y rfl ?_);show Vf _ A.in1 (tryCatch (pyNext (.ref I)) _ >>= _) _ _ s;refine E1 (wpAny_tryCatch (W.done s _ _ p λh' tk kp=>?_));cases o with
  | none=>
   have hb:j=0:=hb;refine E1 (wpAny_rule ?_);exact E2 (x d h' tk (.inl ⟨hb,rfl⟩) λb u h1 _ e=>kp b u h1 e)
  | some v=>
   have f:=kp B _ N y;show Vf _ A.in1 (updateSeq B (λ_=>#[]) >>= _) _ _ _;have J:h'.get? B=Vn { cls:=.type "list",dict:=Vo,data:=.seq #[v,v] c,slots:=#[] }:=f;refine E1 (wpAny_updateSeq J rfl (E1 (wpAny_letGo (E2 ?_))));exact x v _ tk (.inr hb) λb u h1 h2 e=>(Gk _ _ (Gi h2)).trans (kp b u h1 e)
 | succ k L=>
  intro j s o c T U p hb y x;have lt:j<n:=by lia
  refine codeAny_builtin F.entry_max_loop ?_;rw[HX Ht _];show Vf _ A.in1 (seqItems? (.ref B) >>= _) _ _ s;refine E1 (wpAny_seqItems y rfl ?_);show Vf _ A.in1 (tryCatch (pyNext (.ref I)) _ >>= _) _ _ s;refine E1 (wpAny_tryCatch (W.item j s _ _ lt p λv h' tk pv r kp=>?_));have f:=kp B _ N y;cases o with
  | none=>
   have hb:j=0:=hb;subst hb;show Vf _ A.in1 (updateSeq B (λ_=>#[v,v]) >>= _) _ _ _;refine E1 (wpAny_updateSeq f rfl ?_);rw[nm];refine E2 ⟨plainId_quiet Ht _,L 1 _ (Vn v) _ (by lia) lt (W.frame _ _ _ r λb M u e=>(Gk _ _ (λz:B=b=>H (by rw[z];exact M))).trans e) ⟨0,by lia,pv,λa ha=>by rw[show a=0 by lia];exact HY _⟩ (G0 _ f rfl) λC l g q m=>?_⟩;exact x C l g q λb u h1 h2 e=>m b u h1 h2 ((Gk _ _ (Gi h2)).trans (kp b u h1 e))
  | some E=>
   obtain⟨i,hi,O,G⟩:=id hb;have f:h'.get? B=Vn { cls:=.type "list",dict:=Vo,data:=.seq #[E,E] c,slots:=#[] }:=f;show Vf _ A.in1 (tryCatch (holding [v,v] (richCompare .Gt v E >>= _)) _ >>= _) _ _ _;refine E1 (wpAny_tryCatch (wpAny_holding (E1 (cm j i v E _ _ _ pv O ?_))));refine E1 (wpAny_holding (wpAny_truthy_bool ?_));refine E1 (wpAny_letGo (E2 ?_));dsimp only;by_cases Q:val j>val i
   .rw[F4 Q];simp only[if_true];refine E1 (wpAny_updateSeq f rfl (E1 (wpAny_letGo ?_)));rw[nm];refine E2 ⟨plainId_quiet Ht _,L (j+1) _ (Vn v) _ (by lia) lt (W.frame _ _ _ r λb M u e=>(Gk _ _ (λz:B=b=>H (by rw[z];exact M))).trans e) ⟨j,by lia,pv,λa ha=>?_⟩ (G0 _ f rfl) λC l g q m=>?_⟩
    .by_cases e:a=j
     .subst e;exact HY _
     .have:=G a (by lia);lia
    .exact x C l g q λb u h1 h2 e=>m b u h1 h2 ((Gk _ _ (Gi h2)).trans (kp b u h1 e))
   .rw[F3 Q];simp only[FV,if_false];refine E1 (wpAny_letGo ?_);rw[nm];refine E2 ⟨plainId_quiet Ht _,L (j+1) _ (Vn E) c (by lia) lt r ⟨i,by lia,O,λa ha=>?_⟩ f λC l g q m=>?_⟩
    .by_cases e:a=j
     .subst e;lia
     .exact G a (by lia)
    .exact x C l g q λb u h1 h2 e=>m b u h1 h2 (kp b u h1 e)
end
def Ej(a d):argsOk "max" ⟨[a],[("default",d)]⟩:=by kernel_rfl
section
variable {P:Vd} {w:Ve} {A:Vi} {E:Va->Vc->Prop} {s:Vc}
def Bw{id:String}(c:builtinKind id=Vo)(d:plainId id=true)(hb:entryFor table id=Vn b)(ha:argsOk id ⟨args,kw⟩)
  (a:Vf (Vg P w) A.in1 (b ⟨args,kw⟩) (λfin s'=>match fin with
   | .done f=>(match (Except.ok f:Result)with|.ok (.ret v)=>Q v s'|.ok _=>False|.error e=>E e s')
   | .again c'=>c'.quiet=true/\codeAny (Vg P w) A c' (λr s'=>match r with|.ok (.ret v)=>Q v s'|.ok _=>False|.error e=>E e s') s') E s):Vf (Vg P w) A (call (.builtin id) args kw) Q E s:=by
 refine wpAny_call (codeAny_call_builtin d hb ?_);simp only[checkBuiltinCall,c];cases hs:Manifest.signature? id with
 | none=>exact E2 a
 | some sig=>
  have h2:Bind.checkArgs id sig ⟨args,kw⟩=pure ():=by simpa only[argsOk,hs]using ha
  show Vf _ A.in1 (Bind.checkArgs id sig ⟨args,kw⟩) _ _ s;rw[h2];exact E2 a
theorem max_d{xs:Array (Int×Tok)}{d:Va}(j:A.handled=Vo)(m:s.heap.IsList l (intItems xs))
  (h:∀v h' tk,(xs.size=0/\v=d)\/(∃i,i<xs.size/\(∃t,v=.int (numAt xs i) t)/\∀a,a<xs.size->numAt xs a<=numAt xs i)->(∀b o,s.heap.get? b=Vn o->h'.get? b=Vn o)->Q v { s with heap:=h',toks:=tk }) :
  Vf (Vg P w) A (call (.builtin "max") [.ref l] [("default",d)]) Q E s:=by
 have nm:(toString "max" ++ toString ".loop":String) = "max.loop":=by decide
 refine Bw F.kind_max F.plain_max F.entry_max (Ej _ _) ?_;refine E1 (wpAny_of_eq (show Builtin.Builtins.bindParams "max" ["key","default"] 0 ⟨[],[("default",d)]⟩=pure [Vo,Vn d]from rfl) ?_);refine E1 (E2 ?_);refine E1 (iter_intList m λg e st hfp c=>?_);subst e;refine E1 (wpAny_newObj_type ?_);have W:=LJ (prog:=P) (w:=w) (A:=A.in1) j _ l c (intItems xs);have sz:(intItems xs).size=xs.size:=by simp[intItems]
 rw[sz]at W;refine E2 ⟨plainId_quiet Ht _,loop W (numAt xs) (λ_ _=>intItems_at) _ (λf=>Gy _ (hfp _ f)) d _ 0 _ Vo _ rfl (GO _) (W.frame _ _ _ st λb _ o e=>E4 _ e) rfl (E5 _ rfl) λv h' tk n kp=>?_⟩;refine h v h' tk ?_ λb o e=>?_
 .rcases n with q|⟨i,h1,h2,p⟩
  .exact .inl q
  .exact .inr ⟨i,h1,intItems_at h2,p⟩
 .have hlt:=E6 e;refine kp b o (λf=>?_) (λz=>?_) (E4 _ (E4 _ e))
  .rw[Fi.mp f]at hlt;exact Gy _ hlt
  .rw[z]at hlt;have:(s.heap.push { cls:=.type "list_iterator",data:=.fields #[.ref l,.int 0 0] }).objs.size=s.heap.objs.size+1:=Gx ..;have h2:(s.heap.push { cls:=.type "list_iterator",data:=.fields #[.ref l,.int 0 0] }).objs.size<s.heap.objs.size:=hlt;lia
end
end L2.Md
namespace L2
open PySem PySem.Spec PyProof.Rows
section
variable {X:Cx}
def kD(K:E3):List V->V->Hp->VK->Prop:=λxs d H Q=>∃(p:Vb) (ns:List Int) (z:Int),xs=[.ref p]/\d=.int z/\ag K H p (ns.map V.int)/\∀M,(ns=[]/\M=z)\/(M∈ns/\∀a,a∈ns->a<=M)->Q (.int M) H
theorem zf(n:X.calm=true){d:V}{Q:VK}(I:Inv X pins σ H s)(r:Vals xs us)(o:RelV d u)(h:kD X.K xs d H Q):
  Vf (Vg X.prog X.w) X.A (call (.builtin "max") us [("default",u)]) (EP X pins σ Q) X.xe s:=by
 obtain⟨p,ns,z,rfl,rfl,x,q⟩:=h;obtain⟨G,rfl,y⟩:=vals1 r;cases y;obtain⟨c,B,pl,J⟩:=I.list x;have i1:IntsAre c ns:=intsAre_of B;obtain⟨b,l⟩:=i1.allInts.items;have e:ns=b.toList.map (·.1):=(i1.numsOf.symm.trans (by rw[<-l])).trans (nums_intItems b);have f:b.toList.length=b.size:=Fc;have ln:ns.length=b.size:=by rw[e,E7,f]
 have C:s.heap.IsList p (intItems b):=l ▸ pl.isList;refine Md.max_d (I.ok.hd n) C λv h' tk E kept=>?_;rcases E with⟨L,rfl⟩|⟨i,hi,⟨t,rfl⟩,g⟩
 .refine⟨.int z,H,I.kept kept,o,q z (.inl ⟨?_,rfl⟩)⟩;exact List.eq_nil_of_length_eq_zero (by lia)
 .refine⟨.int _,H,I.kept kept,⟨t,rfl⟩,q _ (.inr ⟨?_,λa ha=>?_⟩)⟩
  .rw[e,numAt_eq];exact getD_mem (by rw[E7,f];lia)
  .rw[e]at ha;obtain⟨k,m,F⟩:=mem_getD ha;subst F;have j:k<b.size:=by rw[E7,f]at m;exact m
   have:=g k j;rw[numAt_eq]at this;exact this
def qM(K:E3)(t:TA)(td:TE):TE:=λσ H Q=>t σ H λvs H1=>td σ H1 λd H2=>kD K vs d H2 Q
def DN(K:E3){e d:Vk}{es:List Vk}{t:TA}{p b pos:Pos}(c:X.calm=true)(f:Gl X "max")(g:X.mg "max" = Vo)(ha:PA X (e::es) t)(hd:PE X d td)
  (i:starEach (e::es) X.env=(false,eval e X.env)::starEach es X.env:=by rfl) (a:(backTo pos (starEach (e::es) X.env)).any (·.1)=false:=by rfl) (j:X.K=K:=by rfl):PE X (.Call (.Name "max" p) (e::es) [⟨Vn "default",d,b⟩] pos) (qM K t td):=by
 subst j;intro pins s σ H Q I h;refine wpAny_Call_Name_kw (fQ I f g HN ?_ (by decide) (by decide));refine PyProof.Rows.callWith_kw (aM (ha pos pins s σ H _ I h) λus s1 ⟨vs,H1,l,r1,m⟩=>?_) (by rw[i];rfl) a rfl rfl;refine E1 (E1 (aM (hd pins s1 σ H1 _ l m) λu s2 ⟨r,H2,n,o,q⟩=>?_));refine E1 (wpAny_standAt (E2 ?_));refine E1 (wpAny_holding ?_);refine E2 (E2 ?_);exact zf c n r1 o q
end
def rd_maxD{K:E3}{Q:VK}(h:t σ H λvs H1=>td σ H1 λd H2=>kD K vs d H2 Q):qM K t td σ H Q:=h
def Az{K:E3}{Q:VK}(e:ag K H p (ns.map V.int))(h:∀M,(ns=[]/\M=z)\/(M∈ns/\∀a,a∈ns->a<=M)->Q (.int M) H):kD K [.ref p] (.int z) H Q:=⟨p,ns,z,rfl,rfl,e,h⟩
def iQ(d:Vb)(od:Obj)(kvs:List (List Key×V))(bs:List Vb):It:=⟨λi H=>H d=Vn (.frz od (.dT kvs))/\i<bs.length,λi H x H'=>H'=H/\∃b,bs[i]?=Vn b/\x=.ref b,λi H=>H d=Vn (.frz od (.dT kvs))/\bs.length<=i⟩
def kH{u:HO}(ok:bK P w H h)(e:H d=Vn (.frz od u)):h.get? d=Vn od:=(ok d _ e).1
def uv{K:E3}(d it)(a:od.data=.dict es ep)(hb:∀i:Nat,(es[i]?).map K8=(bs[i]?).map Value.ref)(y:es.size=bs.length):
  Turn P w K tg (iQ d od kvs bs) [it] it (λi h=>h.IsKeyIter it d i es.size ep) where
 mem:=by simp
 obj:=λi h st b hb=>by
  have e:b=it:=by simpa using hb
  subst e;obtain⟨o,e,c,d⟩:=st;exact⟨o,e,λv z=>by rw[d]at z;cases z⟩
 keep:=λi h h' st k=>st.at λo e=>k it (by simp) o e
 item:=by
  intro X j l m A i pins s σ H E I g st n;obtain⟨hd,hi⟩:=n;obtain⟨p,q,B,r,u,x⟩:=g it (by simp);have hlt:i<es.size:=by rw[y];exact hi
  have C:es[i].key=.ref bs[i]:=by have:=hb i;rw[GW hlt,E8 hi]at this;exact FQ this
  refine xP st (kH I.hok hd) a hlt λh' f F=>?_;have G:Inv X pins σ H { s with heap:=h' }:=I.turned (t':=s.toks) (λb o hb e=>(F.2 b hb).trans e) p q r u x;obtain⟨o,e,c,J⟩:=id f;rw[C];exact⟨_,rfl,lM e c J (by decide) ⟨.ref bs[i],H,G,rfl,⟨rfl,_,E8 hi,rfl⟩,f,λb hb=>(g b hb).1⟩⟩
 done:=by intro X j l m A i pins s σ H E I g st n;obtain⟨hd,hi⟩:=n;obtain⟨p,q,B,r,u,x⟩:=g it (by simp);exact wz (I.ok.hd A) st (kH I.hok hd) a (by rw[y];exact hi) λh' L=>⟨rfl,I.turned (λb o hb e=>L b o hb e) p q r u x⟩
 self:=λ_ _ _ _ _ st h=>wpAny_pyIter_keyiter st h
def Bo{o:HO}(e:H d=Vn o):upd H d o=H:=funext λb=>by
 by_cases h:b=d
 .subst h;rw[aF,e]
 .rw[aB h]
section
variable {X:Cx} {tg:Vk}
def xn(tl:TE):TI:=λσ H R=>tl σ H λx H1=>∃d kvs,x=.ref d/\Rd H1 d (.dT kvs)/\∀od (bs:List Vb),Paired (λb (kv:List Key×V)=>H1 b=Vn (.tup (kv.1.map kV))) bs kvs->R (iQ d od kvs bs) (upd H1 d (.frz od (.dT kvs)))
def kr{l:Vk}(u:PE X l tl):PI X tg l (xn tl):=by
 intro pins s σ H R I h;refine aM (u pins s σ H _ I h) λv s1 ⟨x,H1,g,r1,y⟩=>?_;obtain⟨d,kvs,rfl,hd,q⟩:=y;cases r1;obtain⟨A,p,xs,rel,od,es,ep,ho,r,c,f,j⟩:=(show bN X.prog X.w H1 s1.heap d (.dT kvs)from lG g.hok hd);refine oT p ho r c ?_;have m:es.size=(xs.map (·.2.1)).length:=by rw[<-Fc,f,E7,E7]
 have hkk:∀i:Nat,(es[i]?).map K8=((xs.map (·.2.1))[i]?).map Value.ref:=λi=>by rw[<-G5,f,E9,E9,Jl,Jl];rfl
 have n:Inv X pins σ (upd H1 d (.frz od (.dT kvs))) s1:=by
  rcases hd with hd|⟨o',hd⟩
  .refine lH g (by rw[hd];exact True.intro) ⟨rfl,λ_ _=>rfl⟩ ⟨_,ho⟩ ⟨ho,A,p,xs,Paired.mapP rel λa b h=>⟨h.1,?_,h.2.2⟩,od,es,ep,ho,r,c,f,j⟩;rw[aB (bp h.2.1 hd (by intro z;cases z))];exact h.2.1
  .have e:o'=od:=FQ ((kH g.hok hd).symm.trans ho);subst e;rw[Bo hd];exact g
 refine⟨s1.heap.objs.size,[s1.heap.objs.size],_,_,_,rfl,n.kept λb o e=>E4 _ e,uv d _ c hkk m,⟨_,E5 _ rfl,rfl,rfl⟩,λb hb=>?_,q od _ (oo rel)⟩;have e:b=s1.heap.objs.size:=by simpa using hb
 subst e;exact n.fpOk (Fu _) (n.hok.fresh (Fu _))
end
def rd_iDF(h:te σ H λx H1=>∃d kvs,x=.ref d/\Rd H1 d (.dT kvs)/\∀od (bs:List Vb),Paired (λb (kv:List Key×V)=>H1 b=Vn (.tup (kv.1.map kV))) bs kvs->R (iQ d od kvs bs) (upd H1 d (.frz od (.dT kvs)))):xn te σ H R:=h
theorem kX(Pv:Nat->St->Hp->Prop)(h0:Pv 0 σ H)(c:∀i σ H,Pv i σ H->H d=Vn (.frz od (.dT kvs)))
  (hs:∀i b σ H,bs[i]?=Vn b->Pv i σ H->g (.ref b) σ H λa H2=>tb ⟨Pv (i+1),D.rt,D.nx,Pv (i+1)⟩ a H2) (hd:∀σ H,Pv bs.length σ H->D.nx σ H):iH (iQ d od kvs bs) g tb D σ H:=by
 refine⟨λi m σ H=>m=bs.length-i/\i<=bs.length/\Pv i σ H,⟨_,rfl,GO _,h0⟩,?_⟩;rintro i m σ H ⟨rfl,hi,p⟩;rcases FW i bs.length with l|l
 .refine .inr ⟨⟨c i σ H p,l⟩,Pv (i+1),λe H' q=>⟨bs.length-(i+1),by lia,rfl,l,q⟩,?_⟩;rintro x H' ⟨rfl,b,hb,rfl⟩;exact hs i b σ H' hb p
 .have:i=bs.length:=by lia
  subst this;exact .inl ⟨⟨c _ σ H p,l⟩,hd σ H p⟩
theorem j3{Q:VK}(Pv:Nat->List V->Hp->Prop)(s:bs.length<=sizeLine)(h0:Pv 0 [] H)(f:∀i ys H,Pv i ys H->H d=Vn (.frz od (.dT kvs))/\ys.length<=i)
  (hs:∀i b ys H,bs[i]?=Vn b->Pv i ys H->g (.ref b) (dW n js σ) H λa h=>tc a h λb c=>if b=true then te a c λv j=>Pv (i+1) (ys++[v]) j else Pv (i+1) ys c)
  (hd:∀ys H p,Pv bs.length ys H->H p=Vo->Q (.ref p) (upd H p (.lst ys))):iN (iQ d od kvs bs) n js g tc te σ H Q:=by
 refine⟨λi m ys H=>m=bs.length-i/\i<=bs.length/\Pv i ys H,⟨bs.length,by simp,GO _,h0⟩,?_⟩;rintro i m ys H ⟨rfl,hi,p⟩;have e:=f i ys H p;rcases FW i bs.length with l|l
 .refine .inr ⟨⟨e.1,l⟩,by lia,Pv (i+1),λo H' q=>⟨bs.length-(i+1),by lia,rfl,l,q⟩,?_⟩;rintro x H' ⟨rfl,b,hb,rfl⟩;exact hs i b ys H' hb p
 .have:i=bs.length:=by lia
  subst this;exact .inl ⟨⟨e.1,l⟩,λq r=>hd ys H q p r⟩
def pL(q:Vd)(loose:List Vm)(c:(Vm->Option Va)->Vh->Prop)(e:Ve->Vh->Prop)(r:PySem.W.RowW)(d:DefRec)(a:List (Vm×Vk))(run:Va->List Va->Sem Va)(w:Ve):Prop:=II q loose c (λb h=>e b h/\b=w) r d a run
def sq{q:Vd}{b:(Vm->Option Va)->Vh->Prop}{c:Ve->Vh->Prop}{r:PySem.W.RowW}{d:DefRec}{a:List (Vm×Vk)}{run:Va->List Va->Sem Va}{e:Prop}(f:Params->E3)(_:II q loose b c r d a run->e):E3:=@Classical.epsilon E3 ⟨default⟩ λK=>∃w:Ve,f w.params=K/\¬pL q loose b c r d a run w
def A6{c:(Vm->Option Va)->Vh->Prop}{f:Ve->Vh->Prop}{r:PySem.W.RowW}{d:DefRec}{a:List (Vm×Vk)}{run:Va->List Va->Sem Va}(g)(T:II q loose c f r d a run->j)
  (h:II q loose c (λw h=>f w h/\g w.params=sq g T) r d a run):II q loose c f r d a run:=by
 have key:∀w,pL q loose c f r d a run w:=λw=>GX λl=>by obtain⟨o,e,i⟩:=@Classical.epsilon_spec E3 (λK=>∃w:Ve,g w.params=K/\¬pL q loose c f r d a run w) ⟨_,w,rfl,l⟩;refine i λm s₀ b mg mb G Y=>?_;obtain⟨n,rfl⟩:=Y;exact h m s₀ b mg mb G ⟨n,e⟩
 exact λw s₀ b mg mb G Y=>key w w s₀ b mg mb G ⟨Y,rfl⟩
def yA{l:PySem.W.OpenLaw}{d:DefRec}{K:Params->E3}{sp:Ve->Sp}(xs:List Vm)
  (L:l.most=Vn n) (A:n<=sizeLine) (B:d.params.defaults=[]) (M:Room k callerA)
  (N:∀w h,z w h->(K w.params).In h) (O:∀w:Ve,Kr (K w.params)=true) (hrec:∀y∈xs,((recsOf q).find? (λe=>e.name == y)).isSome=true) (htab:∀(w:Ve),∀y∈xs,(Gr (K w.params) y).isSome=true)
  (F:∀w mg r h,z w h->(K w.params).In h->h.Ns Vj mg->mg d.name=Vn (.ref r) ->
   ∃fd,(∀s u,BindsTo s fd ⟨[u],[]⟩ [(x,u)]) ∧
    ∀base,(K w.params).In base->base.Ns Vj mg->(∀y∈xs,∃c T,Tab (K w.params) mg base y c T)->FnOk l.prog w (K w.params) mg base dP k r fd [x] (sp w))
  (hsp:∀w H a (ns:List Int),ns.length<=n->(∀y∈xs,∀c T,Gr (K w.params) y=Vn (c,T)->H T=Vn (.tbl #[]))->ag (K w.params) H a (ns.map V.int)->sp w [.ref a] H (λv _=>v=.bl true) λ_ _ _=>False) :
  II q loose J z l.row.toRowW d [] (λf vs=>Lk f vs):=by
 refine Att.yr L B λw s₀ j mg mb r o pm cd doc a vs ns G Y ho hd P C m hints hlen Q=>?_;have E:=N w _ Y;obtain⟨fd,hb,R⟩:=F w mg r _ Y E G.T.g C;have S:PySem.W.TabsAt (xs.filterMap (Gr (K w.params))) j.heap:=λp U=>by obtain⟨y,i,e⟩:=Hw.mp U;obtain⟨dr,X⟩:=GR.mp (hrec y i);exact PySem.W.tab_of G.T E X e
 refine y9 E (O w) S G.T.g G.T.b G.T.builtins G.T.nolimit G.T.bmain Q m hints (FI hlen A) M (λbase I nb tb=>R base I nb λy i=>?_) hb λH Z hS=>hsp w H a ns hlen (λy i c T e=>Z (c,T) (Hw.mpr ⟨y,i,e⟩)) hS;obtain⟨⟨c,T⟩,e⟩:=GR.mp (htab w y i);obtain⟨h1,h2,h3⟩:=tb (c,T) (Hw.mpr ⟨y,i,e⟩);exact⟨c,T,e,h1,h2,h3,I,nb⟩
def kM(N P:List Vm)(sc:Scope):Bool:=(match sc.kind with|.function=>true|_=>false) && !sc.isCoroutine && !sc.isGenerator && decide N.Nodup && decide (N.take P.length=P) && (P.all λx=>match sc.names.lookup x with|some .local=>true|some .cell=>true|_=>false) && sc.names.all λy=>match y.2 with|.free=>false|_=>true
def kQ{P:List Vm}(h:kM N P sc=true):FnScope N P sc:=by
 unfold kM at h;simp only[FO,Bool.not_eq_true',decide_eq_true_eq,FK]at h;obtain⟨⟨⟨⟨⟨⟨h1,h2⟩,a⟩,b⟩,c⟩,d⟩,f⟩:=h;refine⟨?_,h2,a,b,c,λx g=>?_,λy i e=>?_⟩
 .revert h1
  cases sc.kind<;>intro h1<;>first|rfl|cases h1
 .have:=d x g
  revert this
  cases sc.names.lookup x with
  | none=>intro z;cases z
  | some k=>cases k<;>intro z<;>first|exact .inl rfl|exact .inr rfl|cases z
 .have:=f y i;rw[e]at this;cases this
def oi{α:Type}{a:α}:a=a\/q:=.inl rfl
def oj{α:Type}{a:α}:q\/a=a:=.inr rfl
section
variable {P:Vd} {w:Ve} {K:E3} {mg:Vm->Option Va} {base:Vh}
def Dfn.oS{x:Vm}{st:Stmt}{k:Nat}(D:Dfn K mg x st ps)(N:List Vm)
  (a:∀{f cdv A outer s H E},Room k (fJ dP P w K mg base N x (cM st) f cdv A outer s H E).nox.A->N.Nodup->∀(H':Hp) (vs:List V) (Q:VK) (b:XK),sp vs H' Q b ->
   ∃t,cW (fJ dP P w K mg base N x (cM st) f cdv A outer s H E).nox (eW st) t/\t { nx:=λ_ H'=>Q .non H',rt:=Q } (start N vs) H')
  (len:∀vs H Q E,sp vs H Q E->vs.length=ps.length:=by intro _ _ _ _ h;cases h;subst_vars;rfl) (h:kM N ps (cM st)=true:=by decide +kernel):Cal P w K mg base x (k+1) ps sp:=
 D.ok (kQ h) len λX c H' vs Q b hs=>by obtain⟨f,cdv,A,outer,s,H,E,rfl,d⟩:=c;exact a d (kQ h).nd H' vs Q b hs
def Dfn.oL{x:Vm}{st:Stmt}{k:Nat}{T:Vb}(D:Dfn K mg x st ps)(B:Tab K mg base x c T)(N:List Vm)
  (a:∀{f A outer s H E},Room k (fJ dP P w K mg base N x (cM st) f (.ref c) A outer s H E).nox.A->N.Nodup->∀(H':Hp) (vs:List V) (Q:VK) (b:XK),sp vs H' Q b ->
   ∃t,cW (fJ dP P w K mg base N x (cM st) f (.ref c) A outer s H E).nox (eW st) t/\t { nx:=λ_ H'=>Q .non H',rt:=Q } (start N vs) H')
  (len:∀vs H Q E,sp vs H Q E->vs.length=ps.length:=by intro _ _ _ _ h;cases h;subst_vars;rfl) (h:kM N ps (cM st)=true:=by decide +kernel):Cal P w K mg base x (k+1) ps sp:=
 D.okL B (kQ h) len λX d H' vs Q b hs=>by obtain⟨f,A,outer,s,H,E,rfl,e⟩:=d;exact a e (kQ h).nd H' vs Q b hs
end
section
variable {X:Cx} {e:Vk} {es:List Vk} {te:TE} {t:TA}
def af(ha:PE X e te)(a:PA X es t)(hs:starEach (e::es) X.env=(false,eval e X.env)::starEach es X.env):PA X (e::es) (mh te t):=aw ha a hs
end
section
variable {P:Vd} {w:Ve} {A:Vi} {E:Va->Vc->Prop} {s:Vc}
def yF:typeLookup (.type "list") "keys" = pure Vo:=by rw[typeLookup_type,builtinLookup_eq_fast];kernel_rfl
def BB{xs:Array Va}{Q:Option Va->Vc->Prop}(i:s.heap.get? a=Vn { cls:=.type "list",data:=.seq xs k })(hA:A.handled=Vo)
  (h:∀h' tk,(∀b o,s.heap.get? b=Vn o->h'.get? b=Vn o)->Q Vo { s with heap:=h',toks:=tk }):Vf (Vg P w) A (getAttr? (.ref a) "keys") Q E s:=by
 obtain⟨l,g,d,tk,os⟩:=s;have j:∀c,(⟨l,g,d,c,os⟩:Vc).TypeIs (.ref a) "list":=λ_=>⟨_,i,rfl⟩;have m:=sub_AttributeError;have n:=Ig.lookup;have p:=Ig.bind (.ref a);have q:=am_list_getattr_none;unfold getAttr? getAttrBy? getAttrBy
 repeat (any_goals (first|assumption|exact j _|((with_reducible show Vf _ _ (call (Value.builtin "list.__getattribute__") _ _) _ _ _);refine call_meets Ig (j _) am_entry_list_getattribute (F.args_list_getattribute_2 _ _) (meets_getattribute_miss_list a xs k #[] "keys" _ yF (by decide +kernel)) ⟨i,hA,λh' c e f=>?_⟩)|wp_step))
 obtain⟨r,u,v⟩:=f.there;show Vf _ _ (getattributeRaised _ _ _ _ _ _ _) _ _ _;unfold getattributeRaised
 repeat (any_goals (first|assumption|wp_step))
 exact h _ _ f.keeps
def q9:entryFor table "dict.update.loop" = Vn Builtin.«dict.update.loop»:=entryFor_of_tree (by kernel_rfl)
def kG:plainId "dict.update.loop" = true:=by decide +kernel
def vM(d:∀b o,h0.get? b=Vn o->h'.get? b=Vn o)(x:(tupleKind (bS P w)).is h0 k a):(tupleKind (bS P w)).is h' k a:=by obtain⟨o,c,m,h1,h2,e,f⟩:=(show IsTupleKey (bS P w) h0 k a from x);exact(⟨o,c,m,d _ _ h1,h2,e,f⟩)
def oh{ys:List (List Key×Vb×Va)}(hd:h.DictOfH (tupleKind (bS P w)) D ys)(a:∀o,h.get? D=Vn o->h'.get? D=Vn o)(c:∀b o,h0.get? b=Vn o->h'.get? b=Vn o)(d:∀x∈ys,(tupleKind (bS P w)).is h0 x.1 x.2.1):h'.DictOfH (tupleKind (bS P w)) D ys:=by obtain⟨o,es,ep,h1,h2,e,f,_,g⟩:=hd;exact⟨o,es,ep,a _ h1,h2,e,f,λx i=>vM c (d x i),g⟩
def AB{ys:List (List Key×Vb×Va)}(h:k∉ys.map (·.1)):atKey ys k=Vo:=by
 unfold atKey;rw[LM.mpr]
 .rfl
 .intro x a e;exact h (F7.mpr ⟨x,a,of_decide_eq_true e⟩)
theorem DF{St:Nat->Vc->Prop}(W:WalksS P w A.in1 I fp wr G n Pz St)(D)(X:D∉fp)(Z:A.in1.units<cLine)(h0)(E:h0.get? D=Vo)(l:∀b∈wr,h0.get? b=Vo)
  (xs) (hn:xs.length=n) (nd:(xs.map (·.1)).Nodup) (hsz:n<=sizeLine)
  (hkk:∀x∈xs,(tupleKind (bS P w)).is h0 x.1 x.2.1)
  (p:∀i v,Pz i v->∃c x m o,v=.ref c/\xs[i]?=Vn x/\h0.get? c=Vn o/\o.cls=.type "tuple"/\o.data=.seq #[.ref x.2.1,x.2.2] m) {R:Result->Vc->Prop} :
  ∀m i s j F,n-i=m->i<=n->St i s->s.heap.DictOfH (tupleKind (bS P w)) D (xs.take i)->(∀b o,h0.get? b=Vn o->s.heap.get? b=Vn o) ->
   (∀s',Moved (D::wr) G s s'->s'.heap.DictOfH (tupleKind (bS P w)) D xs->(∀b o,h0.get? b=Vn o->s'.heap.get? b=Vn o)->R (.ok (.ret .none)) s') ->
   codeAny (Vg P w) A (.builtin "dict.update.loop" ⟨[.ref D,.ref I,.int j F,.none],[]⟩) R s:=by
 have q:D∉wr:=λz=>X (W.sub _ z);have more:∀b∈wr,b∈D::wr:=λb z=>Fb _ z;intro m;induction m with
 | zero=>
  intro i s j F H hi f d J L;obtain rfl:i=n:=by lia
  refine codeAny_builtin q9 ?_;rw[HX kG _];refine E1 (W.done s _ _ f λs' g=>?_);rw[<-hn,FD]at d;have a:∀b o,h0.get? b=some o->s'.heap.get? b=some o:=λb o e=>g.heap b o (λz=>by rw[l b z]at e;cases e) (J b o e);exact E1 (E2 (E2 (L s' (g.mono more) (oh d (λo=>g.heap D o q) a hkk) a)))
 | succ m ih=>
  intro i s j F H hi f d J L;have hlt:i<n:=by lia
  refine codeAny_builtin q9 ?_;rw[HX kG _];show Vf _ A.in1 (pyNext (.ref I) >>= _) _ _ s;refine E1 (W.item i s _ _ hlt f λv s' hP r g=>?_);have a:∀b o,h0.get? b=Vn o->s'.heap.get? b=Vn o:=λb o e=>g.heap b o (λz=>by rw[l b z]at e;cases e) (J b o e);obtain⟨c,x,mm,o,rfl,u,hc,hcl,M⟩:=p i v hP;have N:=Fh u;have h:s'.heap.DictOfH (tupleKind (bS P w)) D (xs.take i):=oh d (λo=>g.heap D o q) a λx u=>hkk x (Gs u);have B:=a _ _ hc;show Vf _ A.in1 (holding [Value.ref c] _ >>= _) _ _ s';refine E1 (wpAny_holding ?_);refine E1 (wpAny_tryCatch ?_);unfold Builtin.Dict.pairItems;refine E1 (wpAny_typeOf (T:="tuple") ⟨o,B,hcl⟩ ?_);rw[F6 (by decide)];refine E1 (wpAny_seqItems B M (E2 ?_));show Vf _ _ (holding [Value.ref x.2.1,x.2.2] (dictSet D (.ref x.2.1) x.2.2)) _ _ s';refine wpAny_holding ?_;have hnew:atKey (xs.take i) x.1=Vo:=AB λH=>by
   obtain⟨y,hy,e⟩:=F7.mp H;obtain⟨j,C⟩:=FX hy;rw[LO]at C;split at C
   .rename_i hji;have Y:(xs.map (·.1))[j]?=Vn x.1:=by rw[E9,C];exact congrArg Vn e
    have g2:(xs.map (·.1))[i]?=Vn x.1:=by rw[E9,u];rfl
    have:=(HM (Fg.mp Y).1 nd).mp (Y.trans g2.symm);lia
   .cases C
  refine wpAny_dictSet_heap (hsz:=by rw[FZ];lia) Z (vM a (hkk x N)) h λh' dd hs=>?_;rw[storedH_new hnew,show (x.1,x.2.1,x.2.2)=x from rfl,show xs.take i++[x]=xs.take (i+1) by rw[GA,u];rfl]at dd;have hDh0:∀b o,h0.get? b=Vn o->b≠D:=λb o e z=>by rw[z,E]at e;cases e
  refine E2 ⟨plainId_quiet kG _,ih (i+1) _ _ _ (by lia) hlt (W.frame _ s' _ _ r (Hs _ _) λb hb o e=>?_) dd (λb o e=>?_) λO Q S U=>L O (Moved.trans W.gtrans ((g.mono more).then_heap (Hs _ _) λb o hb e=>?_) Q) S U⟩
  .rw[hs.2 b (λz:b=D=>X (z ▸ hb))];exact e
  .rw[hs.2 b (hDh0 b o e)];exact a _ _ e
  .rw[hs.2 b (λz:b=D=>hb (by rw[z];exact Fe))];exact e
theorem EV{xs:List (List Key×Vb×Va)}(hA:A.handled=Vo)(M:A.in1.in1.units<cLine)(gt:s.heap.get? l=Vn { cls:=.type "list",data:=.seq ys n })(N:xs.length=ys.size)(nd:(xs.map (·.1)).Nodup)(hsz:ys.size<=sizeLine)
  (hkk:∀x∈xs,(tupleKind (bS P w)).is s.heap x.1 x.2.1)
  (f:∀(i:Nat) v,ys[i]?=Vn v->∃c x m o,v=.ref c/\xs[i]?=Vn x/\s.heap.get? c=Vn o/\o.cls=.type "tuple"/\o.data=.seq #[.ref x.2.1,x.2.2] m)
  (h:∀h' tk,h'.DictOfH (tupleKind (bS P w)) s.heap.objs.size xs->(∀b o,s.heap.get? b=Vn o->h'.get? b=Vn o)->Q (.ref s.heap.objs.size) { s with heap:=h',toks:=tk }):Vf (Vg P w) A (call (.type "dict") [.ref l]) Q E s:=by
 refine callType_codes (Q₁:=λobj a=>obj=.ref s.heap.objs.size/\a={ s with heap:=s.heap.push { cls:=.type "dict",data:=.dict #[] } }) F.kt_called_dict (F.kt_typeCall_dict_1 _) F.entry_dict_init (kt_code_dict_new _ ⟨rfl,rfl⟩) ?_;rintro obj a ⟨rfl,rfl⟩;have hnew:(s.heap.push { cls:=.type "dict",data:=.dict #[] }).DictOfH (tupleKind (bS P w)) s.heap.objs.size []:=Heap.DictOfH.new s.heap;have j:(s.heap.push { cls:=.type "dict",data:=.dict #[] }).get? l=Vn { cls:=.type "list",data:=.seq ys n }:=E4 _ gt;have p:Shared.TypeIs { s with heap:=s.heap.push { cls:=.type "dict",data:=.dict #[] } } (.ref l) "list":=⟨_,j,rfl⟩;have q:=E6 gt;refine⟨hnew.typeIs,F.args_dict_init_2 _ _,?_⟩;refine E1 ?_;refine E1 (wpAny_notOrdered_dict hnew.typeIs ?_);refine E2 ?_;refine E1 (wpAny_typeOf p ?_);refine E1 (BB j (by simp[hA]) λh' tk g=>?_);refine E1 (wpAny_rule ?_);have J:h'.get? l=Vn { cls:=.type "list",data:=.seq ys n }:=g _ _ j;have hkS:∀b o,s.heap.get? b=Vn o->h'.get? b=Vn o:=λb o e=>g _ _ (E4 _ e);have O:=g _ _ (E5 s.heap (o:={ cls:=.type "dict",data:=.dict #[] }) rfl);have r:l≠s.heap.objs.size:=Ft q;have L:Heap.IsList h' l ys:=⟨_,J,rfl,_,rfl⟩;refine E1 (wpAny_pyIter_list L ?_);have d:s.heap.objs.size<h'.objs.size:=E6 O;have u:l≠h'.objs.size:=Ft (E6 J);refine E2 ⟨plainId_quiet kG _,?_⟩;have y:A.in1.in1.handled=Vo:=by simp[hA]
 refine DF ((LJ y _ l u ys).toS) s.heap.objs.size (λz=>?_) M s.heap (JJ (Fu _)) (λb hb=>?_) xs N nd hsz hkk (λi v R=>f i v R) (ys.size-0) 0 _ _ _ (by lia) (GO _) ⟨⟨_,E5 _ rfl,rfl,rfl⟩,L.push _⟩ ?_ (λb o e=>E4 _ (hkS b o e)) λs' B C G=>?_
 .rcases Fo.mp z with z|z
  .exact Ft d z
  .exact r (Fi.mp z).symm
 .rw[Fi.mp hb];exact JJ (HE d)
 .exact oh (h0:=s.heap) hnew (λo e=>E4 _ (g _ _ e)) (λb o e=>E4 _ (hkS b o e)) (λx S=>nomatch S)
 .obtain⟨h2,T,U,H,I⟩:=s';have W:T=s.gens:=B.gens;have X:U=s.drawn:=B.drawn;have Y:I=s.os:=B.os;subst W X Y;exact⟨rfl,h h2 H C G⟩
end
section
variable {X:Cx} {pins:List (Vb×Obj)} {σ:St} {H:Hp}
abbrev gR(H:Hp)(c:Vb)(e:List Key×V):Prop:=∃b,H c=Vn (.tup [.ref b,e.2])/\H b=Vn (.tup (e.1.map kV))
def zd:V->Hp->VK->Prop:=λx H Q=>∃a as es,x=.ref a/\H a=Vn (.lst (A0 V.ref as))/\Paired (gR H) as es/\(es.map (·.1)).Nodup/\fB H (.dT es) Q
def qo(te:TE):TE:=λσ H Q=>te σ H λx H1=>zd x H1 Q
def zD{xs:List (List Key×Vb×Va)}(h:KT H es xs):es.map (·.1)=xs.map (·.1):=by
 induction h with
 | nil=>rfl
 | cons a _ b=>rw[GY,GY,a.1,b]
def y4{a:List Va}(I:Inv X pins σ H s)(l:Paired (gR H) as es)(d:Vals (A0 V.ref as) a):
  ∃xs,KT H es xs/\(∀x∈xs,(tupleKind (bS X.prog X.w)).is s.heap x.1 x.2.1)/\∀(i:Nat) v,a[i]?=Vn v->∃c x m o,v=.ref c/\xs[i]?=Vn x/\s.heap.get? c=Vn o/\o.cls=.type "tuple"/\o.data=.seq #[.ref x.2.1,x.2.2] m:=by
 induction l generalizing a with
 | nil=>
  cases d;exact⟨[],.nil,λx h=>(nomatch h),λi v h=>by simp at h⟩
 | @cons c e as es n _ p=>
  cases d with
  | cons r q=>
   obtain⟨xs,h1,h2,y⟩:=p q;cases r;obtain⟨b,f,hb⟩:=n;obtain⟨_,j,z,o,A,B,m,C⟩:=(show bN X.prog X.w H s.heap c (.tup [.ref b,e.2])from I.hok c _ f);cases z with
   | cons E F=>
    cases F with
    | cons G rn=>
     cases rn;cases E;rename_i u;refine⟨(e.1,b,u)::xs,.cons ⟨rfl,hb,G⟩ h1,λx g=>?_,λi v d=>?_⟩
     .rcases Fo.mp g with rfl|g
      .exact iM I.hok hb
      .exact h2 x g
     .cases i with
      | zero=>
       simp only[List.getElem?_cons_zero,Option.some.injEq]at d;subst d;exact⟨c,_,m,o,rfl,rfl,A,B,C⟩
      | succ i=>
       obtain⟨c',x,J,o',L,M,N⟩:=y i v d;exact⟨c',x,J,o',L,by rw[List.getElem?_cons_succ];exact M,N⟩
theorem nh{e:Vk}{te:TE}{p pos:Pos}(j:X.calm=true)(l:X.A.units+2<cLine)(n:Gl X "dict")(y:X.mg "dict" = Vo)(B:PE X e te)(h1:starEach [e] X.env=(false,eval e X.env)::starEach [] X.env:=by rfl):
  PE X (.Call (.Name "dict" p) [e] [] pos) (qo te):=by
 intro pins s σ H Q I h;refine wpAny_Call_Name_kw (fQ I n y PyProof.Rows.boot_dict ?_ (by decide) (by decide));refine Gf ?_ h1 rfl;rw[h1];refine Ii (aM (B pins s σ H _ I h) λu s1 ⟨x,H1,b,r1,C⟩=>?_);refine Im ?_;obtain⟨a,as,es,rfl,E,g,nd,q⟩:=C;cases r1;obtain⟨F,G,m,r,gl⟩:=(show bN X.prog X.w H1 s1.heap a (.lst (A0 V.ref as))from b.hok a _ E);obtain⟨xs,k1,k2,k3⟩:=y4 b g r;have J:=F9 k1;have L:=F9 g;have d:=r.length;have hmap:=zD k1;rw[E7]at F d;refine EV (b.ok.hd j) (by simpa[Around.in1]using l) gl (by rw[Fd];lia) (hmap ▸ nd) (by rw[Fd];lia) k2 (λi v M=>k3 i v (by simpa using M)) λh' tk dd N=>?_;obtain⟨o,qs,ep,O,P,R,S,_,T⟩:=dd;exact⟨.ref _,_,b.laid (o:=.dT es) N (Fu _) ⟨by lia,beq_eq_false_iff_ne.mpr (Gi (Ft b.big)),xs,k1.keeps λc ys f=>by rw[aB (λz=>by rw[z,b.hok.fresh (Fu _)]at f;cases f)];exact f,o,qs,ep,O,P,R,S,T⟩,rfl,q _ (b.hok.fresh (Fu _))⟩
end
end L2
namespace L2
open PySem PySem.W PySem.Spec PyProof.Rows
def Aq(n:(d == sysModules)=false)(g:od.ExactDict)(a:od.data=.dict es ep):KdlSrc prog w "dict" d d es.size (λi v=>∃h,v=es[i].key) (λh=>h.get? d=Vn od) where
 type:=λ_ ho=>⟨od,ho,g.1⟩
 there:=λ_ ho=>⟨E6 ho,E6 ho⟩
 keep:=λ_ _ ho f=>f d (.inl rfl) od ho
 notList:=by decide
 notTuple:=by decide
 hint:=λ_ _ _ _ ho j=>kdl_hint_dict ⟨od,ho,g.1⟩ j
 iter:=λA s p ho=>by
  have hne:d≠s.heap.objs.size:=Ft (E6 ho);refine⟨_,λi h=>h.IsKeyIter s.heap.objs.size d i es.size ep/\h.get? d=Vn od,(λE Q j=>oT n ho g a j),?_,⟨⟨_,E5 _ rfl,rfl,rfl⟩,E4 _ ho⟩⟩;exact{
   sub:=λb hb=>by simp at hb;simp[hb]
   frame:=λ_ _ _ st f=>⟨st.1.at λo e=>f _ (by simp) o e,f d (by simp) od st.2⟩
   item:=λi s1 Q E hi st c=>xP st.1 st.2 a hi λh' l m=>c _ h' s1.toks ⟨hi,rfl⟩ ⟨l,(m.2 d hne).trans st.2⟩ λb o hb e=>(m.2 b (λz=>hb (by simp[z]))).trans e
   done:=λs1 Q E st c=>wz p st.1 st.2 a (Fu _) λh' q=>c h' s1.toks λb o hb e=>q b o (λz=>hb (by simp[z])) e
   self:=λ_ _ _ _ st c=>wpAny_pyIter_keyiter st.1 c }
theorem rE:∀bs:List Vb,Vals (bs.map V.ref) (bs.map Value.ref)
 | []=>.nil
 | _::bs=>.cons rfl (rE bs)
section
variable {X:Cx}
def Ds:List V->Hp->VK->Prop:=λxs H Q=>∃p kvs,xs=[.ref p]/\H p=Vn (.dT kvs)/\∀l (bs:List Vb),H l=Vo->Paired (λb (kv:List Key×V)=>H b=Vn (.tup (kv.1.map kV))) bs kvs->Q (.ref l) (upd H l (.lst (bs.map V.ref)))
theorem Cv(n:Room k X.A):cS X (.type "list") Ds:=by
 intro pins s σ H xs us Q I r h;obtain⟨p,kvs,rfl,v,q⟩:=h;obtain⟨u,rfl,w⟩:=vals1 r;cases w;obtain⟨l,x,xs,rel,od,es,ep,ho,y,c,d,z⟩:=I.hok p _ v;have e:es.size=xs.length:=by rw[<-Fc,d,E7]
 have f:=F9 rel;refine kdl_call (Aq x y c) n.hd ho (by rw[e,<-f];exact l) λh' tk a c' B g b=>?_;have C:a=((xs.map (·.2.1)).map Value.ref).toArray:=by
  have h1:a.size=xs.length:=b.1.trans e;refine LL λi=>?_;by_cases hi:i<a.size
  .obtain⟨j,E⟩:=b.2 i a[i] (GW hi);have m:es.toList[i]?=Vn es[i]:=by rw[G5,GW j]
   rw[d,E9,E8 (by lia)]at m;rw[GW hi,E,<-FQ m,Hh,E9,E9,E8 (by lia)];rfl
  .rw[Iv (by lia),Hh,Gb (by rw[E7,E7];lia)]
 rw[C]at g;exact⟨.ref s.heap.objs.size,_,I.laid (o:=.lst ((xs.map (·.2.1)).map V.ref)) B (Fu _) ⟨by rw[E7,E7,<-f];exact l,_,c',rE _,g⟩,rfl,q _ _ (I.hok.fresh (Fu _)) (oo rel)⟩
end
def rd_dictL{Q:VK}(h:te σ H λx H1=>∃a as es,x=.ref a/\H1 a=Vn (.lst (A0 V.ref as))/\Paired (gR H1) as es/\(es.map (·.1)).Nodup/\fB H1 (.dT es) Q):qo te σ H Q:=h
def oW(a:Room k A):A.units+2<cLine:=Gv (K1 (by decide:2<=64) _) a.units
section
variable {X:Cx} {tg:Vk}
def wR(tl:TE):TI:=λσ H R=>tl σ H λx H1=>∃d od kvs,x=.ref d/\H1 d=Vn (.frz od (.dT kvs))/\∀(bs:List Vb),Paired (λb (kv:List Key×V)=>H1 b=Vn (.tup (kv.1.map kV))) bs kvs->R (iQ d od kvs bs) H1
def ml{l:Vk}(j:PE X l tl):PI X tg l (wR tl):=by
 intro pins s σ H R I h;refine aM (j pins s σ H _ I h) λv s1 ⟨x,H1,c,r1,m⟩=>?_;obtain⟨d,o',kvs,rfl,hd,q⟩:=m;cases r1;obtain⟨u,n,xs,rel,od,es,ep,ho,p,a,f,r⟩:=(show bN X.prog X.w H1 s1.heap d (.dT kvs)from lG c.hok (.inr ⟨o',hd⟩));refine oT n ho p a ?_;have g:es.size=(xs.map (·.2.1)).length:=by rw[<-Fc,f,E7,E7]
 have hkk:∀i:Nat,(es[i]?).map K8=((xs.map (·.2.1))[i]?).map Value.ref:=λi=>by rw[<-G5,f,E9,E9,Jl,Jl];rfl
 have e:o'=od:=FQ ((kH c.hok hd).symm.trans ho);subst e;refine⟨s1.heap.objs.size,[s1.heap.objs.size],_,_,_,rfl,c.kept λb o e=>E4 _ e,uv d _ a hkk g,⟨_,E5 _ rfl,rfl,rfl⟩,λb hb=>?_,q _ (oo rel)⟩;have e:b=s1.heap.objs.size:=by simpa using hb
 subst e;exact c.fpOk (Fu _) (c.hok.fresh (Fu _))
end
def rd_iDG(h:te σ H λx H1=>∃d od kvs,x=.ref d/\H1 d=Vn (.frz od (.dT kvs))/\∀bs,Paired (λb (kv:List Key×V)=>H1 b=Vn (.tup (kv.1.map kV))) bs kvs->R (iQ d od kvs bs) H1):wR te σ H R:=h
end L2
namespace St
def iF(lo hi:Int)(xs:List Int):Prop:=xs.Pairwise (· < ·)/\∀x∈xs,lo<=x/\x<hi
structure Ok(b s:Int)(o a:List Int):Prop where
 hb:0<=b
 hs:1<=s
 ho:iF 0 b o
 ha:iF b (b+s) a
def mem(b s:Int)(o a:List Int)(x:Int):Bool:=if x<b then o.contains x else a.contains (b+(x-b) % s)
section
variable {b s:Int} {o a:List Int}
def nO(x)(h:x<b):mem b s o a x=o.contains x:=F6 h
theorem w4(x)(h:b<=x):mem b s o a x=a.contains (b+(x-b) % s):=F5 (by lia)
end
end St
namespace St
def bX(f:Nat->Bool)(b d:Nat):Prop:=∀x,b<=x->f (x+d)=f x
theorem bX.mul{f:Nat->Bool}{b d:Nat}(h:bX f b d):∀k x,b<=x->f (x+k*d)=f x
 | 0,x,a=>by simp
 | k+1,x,a=>by rw[Ho,<-Ih,h _ (by lia),h.mul k x a]
def bX.times{b d:Nat}(h:bX f b d)(k):bX f b (k*d):=λx a=>h.mul k x a
theorem bX.down{b s a d:Nat}(h:bX f b s)(hs:1<=s)(h':bX f a d):bX f b d:=λx c=>by have e:=h.mul a (x+d) (by lia);have g:=h.mul a x c;rw[<-e,<-g,show x+d+a*s=(x+a*s)+d by lia];exact h' _ (by have:a*1<=a*s:=K4 _ hs;lia)
theorem bX.mod{b s d:Nat}(h:bX f b s)(h':bX f b d):bX f b (s % d):=λx a=>by have e:=(h'.times (s / d)) (x+s % d) (by lia);rw[<-e,show x+s % d+s / d*d=x+s by have:=IG s d;rw[Hy]at this;lia];exact h x a
structure Least(f:Nat->Bool)(st low:Nat):Prop where
 pos:1<=st
 per:bX f low st
 step:∀d b,1<=d->bX f b d->st<=d
 base:∀b,bX f b st->low<=b
def Alike(f:Nat->Bool)(b s d:Nat):Prop:=s % d=0/\∀i,i+d<s->f (b+i+d)=f (b+i)
theorem Alike.per{b s d:Nat}(h:bX f b s)(hs:1<=s)(hd:1<=d)(a:Alike f b s d):bX f b d:=by
 obtain⟨q,rfl⟩:∃q,s=d*q:=⟨s / d,by have:=IG s d;rw[a.1]at this;lia⟩;have o:1<=q:=by
  cases q with
  | zero=>simp at hs
  | succ q=>lia
 have inner:∀k i,i<d->k<q->f (b+i+k*d)=f (b+i):=by
  intro k;induction k with
  | zero=>intro i _ _;simp
  | succ k c=>
   intro i hi p;have e:=a.2 (i+k*d) (by have:(k+1+1)*d<=q*d:=Kv _ (by lia);rw[Ho,Ho,Hy q d]at this;lia)
   rw[show b+i+(k+1)*d=b+(i+k*d)+d by rw[Ho];lia,e,<-Ih];exact c i hi (by lia)
 have all:∀n,f (b+n)=f (b+n % d):=λn=>by
  have g:f (b+n)=f (b+n % (d*q)):=by have:=h.mul (n / (d*q)) (b+n % (d*q)) (by lia);rw[<-this];congr 1;have:=IG n (d*q);rw[Hy (d*q)]at this;lia
  rw[g];have hlt:n % (d*q)<d*q:=IT _ (by lia);have j:n % (d*q)=n % (d*q) % d+n % (d*q) / d*d:=by have:=IG (n % (d*q)) d;rw[Hy]at this;lia
  have l:n % (d*q) % d=n % d:=JA n d q;have m:=Nat.div_lt_of_lt_mul hlt;rw[j,<-Ih,inner _ _ (IT _ (by lia)) m,l]
 intro x r;obtain⟨n,rfl⟩:∃n,x=b+n:=⟨x-b,by lia⟩;rw[Ih,all (n+d),all n,Jx]
theorem bX.alike{b s d:Nat}(h:bX f b d)(a:s % d=0):Alike f b s d:=⟨a,λi _=>h (b+i) (by lia)⟩
theorem BE{b s d:Nat}(h:bX f b s)(hs:1<=s)(hd:1<=d)(a:Alike f b s d)(first:∀e,1<=e->e<d->¬Alike f b s e):bX f b d/\∀e i,1<=e->bX f i e->d<=e:=by
 have j:=a.per h hs hd;refine⟨j,λe i l c=>?_⟩;have g:=h.down hs c;have go:∀n e,e<=n->1<=e->bX f b e->d<=e:=by
  intro n;induction n with
  | zero=>intro e h1 h2;lia
  | succ n m=>
   intro e h1 h2 c;by_cases o:s % e=0
   .rcases FW e d with hlt|hge
    .exact absurd (c.alike o) (first e h2 hlt)
    .exact hge
   .have hlt:s % e<e:=IT _ (by lia);have:=m (s % e) (by lia) (by lia) (h.mod c);lia
 exact go e e (Fu _) l g
def An{b s d low:Nat}(h:bX f b s)(hs:1<=s)(hd:1<=d)(a:Alike f b s d)(first:∀e,1<=e->e<d->¬Alike f b s e)(m:low<=b)
  (down:∀x,low<=x->x<b->f x=f (x+d)) (stop:low=0\/f (low-1)≠f (low-1+d)):Least f d low:=by
 obtain⟨g,c⟩:=BE h hs hd a first
 refine⟨hd,λx i=>?_,c,λj l=>?_⟩
 .rcases FW x b with hlt|hge
  .exact(down x i hlt).symm
  .exact g x hge
 .rcases stop with n|hne
  .omega
  .rcases FW j low with hlt|hge
   .exact absurd (l (low-1) (by omega)).symm hne
   .exact hge
def row(f:Nat->Bool)(lo n:Nat):List Int:=((F2 n).filter λi=>f (lo+i)).map λi=>((lo+i:Nat):Int)
end St
namespace St
def wN(f)(lo n):row f lo (n+1)=row f lo n++if f (lo+n)then[((lo+n:Nat):Int)]else[]:=by unfold row;rw[Hm,GL,Fq];congr 1;by_cases h:f (lo+n)=true<;>simp[h]
def xm(f)(lo n):(row f lo n).length<=n:=by unfold row;rw[E7];exact FI (GF _ _) (by simp)
theorem iu{lo:Nat}:x∈row f lo n↔(lo:Int)<=x/\x<lo+n/\f x.toNat=true:=by
 unfold row;simp only[F7,GC,GK];constructor
 .rintro⟨i,⟨hi,a⟩,rfl⟩;refine⟨by lia,by lia,?_⟩;exact a
 .rintro⟨h1,h2,b⟩;refine⟨x.toNat-lo,⟨by omega,?_⟩,by omega⟩;rw[show lo+(x.toNat-lo)=x.toNat by omega];exact b
theorem u7(f)(lo n:Nat):iF lo (lo+n) (row f lo n):=by refine⟨?_,λx c=>⟨(iu.mp c).1,(iu.mp c).2.1⟩⟩;unfold row;rw[HG];refine List.Pairwise.imp (R:=λa b=>a<b) (λh=>by lia) ?_;exact JP _ IC
def rZ{lo:Nat}(h1:(lo:Int)<=x)(h2:x<lo+n):(row f lo n).contains x=f x.toNat:=by
 rw[FN,Hi,iu];constructor
 .exact λh=>h.2.2
 .exact λh=>⟨h1,h2,h⟩
theorem yN(f)(b s:Nat)(hs:1<=s):Ok b s (row f 0 b) (row f b s):=
 ⟨by lia,by lia,by have:=u7 f 0 b;simpa using this,u7 f b s⟩
theorem yK{b s:Nat}(hs:1<=s)(h:bX f b s)(x:Nat):mem b s (row f 0 b) (row f b s) x=f x:=by
 by_cases a:x<b
 .rw[nO _ (by lia),rZ (by lia) (by lia),Fl]
 .rw[w4 _ (by lia)];have r0:0<=((x:Int)-b) % s:=Ge _ (by lia);have r1:((x:Int)-b) % s<s:=GU _ (by lia);rw[rZ (by lia) (by lia)];have e:((b:Int)+((x:Int)-b) % s).toNat=b+(x-b) % s:=by
   have:((x:Int)-b) % s=(((x-b) % s:Nat):Int):=by rw[show (x:Int)-b=((x-b:Nat):Int) by lia];rfl
   lia
  rw[e];have:=h.mul ((x-b) / s) (b+(x-b) % s) (by lia);rw[<-this];congr 1;have:=IG (x-b) s;rw[Hy]at this;lia
end St
namespace St
end St
namespace St
end St
namespace Bfs
theorem hZ:∀(N:Nat) (l:List Nat),l.Nodup->(∀x∈l,x<N)->l.length<=N
 | 0,l,_,h=>by
  cases l with
  | nil=>exact Fu _
  | cons x l=>exact absurd (h x Fe) (GS _)
 | N+1,l,a,h=>by
  have b:=hZ N (l.erase N) (a.erase N) (λx c=>by
   have:=h x (List.mem_of_mem_erase c);have hne:x≠N:=λe=>by subst e;exact(List.Nodup.not_mem_erase a) c
   lia)
  by_cases d:N∈l
  .rw[Ie d]at b;lia
  .rw[List.erase_of_not_mem d]at b;lia
abbrev Pl:=Int×Int
def inR(T:Int)(x:Pl):Prop:=0<=x.1/\x.1<12/\0<=x.2/\x.2<=T
theorem Al{T:Int}{l:List Pl}(n:T<=2000)(c:l.Nodup)(h:∀x∈l,inR T x):l.length<=24012:=by
 have hmap:(l.map λx=>(x.1*2001+x.2).toNat).Nodup:=by unfold JG at c ⊢;rw[HG];refine HV ?_ c;intro a b ha hb hab e;obtain⟨d,f,g,i⟩:=h a ha;obtain⟨o,p,b3,q⟩:=h b hb;refine hab (HF ?_ ?_)<;>lia
 have:=hZ 24012 _ hmap (λy j=>by obtain⟨x,m,rfl⟩:=F7.mp j;obtain⟨d,f,g,i⟩:=h x m;lia)
 rwa [E7]at this
section
variable (nx:Pl->Nat->Option Pl) (s:Pl)
inductive Wk:Nat->Pl->Prop
 | zero:Wk 0 s
 | succ {n:Nat} {x y:Pl} {k:Nat}:Wk n x->nx x k=Vn y->Wk (n+1) y
def b6(n:Nat)(x:Pl):Prop:=Wk nx s n x/\∀m,m<n->¬Wk nx s m x
def b6.uniq(h:b6 nx s n x)(g:b6 nx s m x):n=m:=by
 rcases IP n m with l|l|l
 .exact absurd h.1 (g.2 n l)
 .exact l
 .exact absurd g.1 (h.2 m l)
abbrev Ent:=Pl×Nat×Option (Pl×Nat)
structure QI(q:List Ent)(i B:Nat):Prop where
 nd:(q.map (·.1)).Nodup
 par:∀e∈q,(e.2.2=Vo/\e.1=s/\e.2.1=0)\/∃p k d o,e.2.2=Vn (p,k)/\nx p k=Vn e.1/\e.2.1=d+1/\(p,d,o)∈q
 le:∀e∈q,e.2.1<=B+1
 lo:∀j e,q[j]?=Vn e->i<=j->B<=e.2.1
 srt:q.Pairwise λa b=>a.2.1<=b.2.1
 cl:∀j e,j<i->q[j]?=Vn e->∀k y,nx e.1 k=Vn y->∃e'∈q,e'.1=y/\e'.2.1<=e.2.1+1
 s0:(s,0,Vo)∈q
def QI.begin:QI nx s [(s,0,Vo)] 0 0:=by
 refine⟨by simp,?_,?_,?_,by simp,?_,by simp⟩
 .intro e a;rw[Fi]at a;subst a;exact .inl ⟨rfl,rfl,rfl⟩
 .intro e a;rw[Fi]at a;subst a;simp
 .intro j e _ _;exact GO _
 .intro j e b;exact absurd b (GS _)
variable {nx s}
theorem QI.wk{q:List Ent}{i B:Nat}(h:QI nx s q i B):∀(d:Nat) (e:Ent),e∈q->e.2.1=d->Wk nx s d e.1
 | 0,e,a,hd=>by
  rcases h.par e a with⟨_,hs,_⟩|⟨p,k,d,o,_,_,b,_⟩
  .rw[hs];exact .zero
  .omega
 | d+1,e,a,hd=>by
  rcases h.par e a with⟨_,_,h0⟩|⟨p,k,d',o,_,c,b,f⟩
  .omega
  .have:d'=d:=by lia
   subst this;exact .succ (QI.wk h d' _ f rfl) c
theorem QI.all(h:QI nx s q i B):∀n y,Wk nx s n y->(n<=B\/i=q.length)->∃e∈q,e.1=y/\e.2.1<=n:=by
 intro n y w;induction w with
 | zero=>intro _;exact⟨_,h.s0,rfl,Fu _⟩
 | @succ n x y k w f g=>
  intro a;obtain⟨e,m,o,hd⟩:=g (a.imp (λh=>by lia) id);obtain⟨j,b⟩:=FX m;have c:j<i:=by
   rcases a with a|a
   .rcases FW j i with l|l
    .exact l
    .have:=h.lo j e b l;lia
   .rw[a];exact(Fg.mp b).1
  obtain⟨e',d,p,r⟩:=h.cl j e c b k y (by rw[o];exact f);exact⟨e',d,p,by lia⟩
def DB{q:List Ent}(c:(q.map (·.1)).Nodup)(h:e∈q)(h':e'∈q)(d:e.1=e'.1):e=e':=by
 induction q with
 | nil=>cases h
 | cons a q f=>
  rw[GY,Gp]at c;rcases Fo.mp h with r|r<;>rcases Fo.mp h' with b|b
  .rw[r,b]
  .subst r;exact absurd (F7.mpr ⟨e',b,d.symm⟩) c.1
  .subst b;exact absurd (F7.mpr ⟨e,r,d⟩) c.1
  .exact f c.2 r b
theorem QI.dist(h:QI nx s q i B)(a:e∈q):b6 nx s e.2.1 e.1:=by refine⟨h.wk _ e a rfl,λm d w=>?_⟩;have:=h.le e a;obtain⟨e',b,c,hd⟩:=h.all m e.1 w (.inl (by lia));have:=DB h.nd b a c;subst this;lia
def QI.done(h:QI nx s q q.length B)(a:y∉q.map (·.1))(n):¬b6 nx s n y:=λd=>by obtain⟨e,b,c,_⟩:=h.all n y d.1 (.inr rfl);exact a (F7.mpr ⟨e,b,c⟩)
theorem wj{q:List Ent}(hs:q.Pairwise λa b=>a.2.1<=b.2.1){i j:Nat}{a b:Ent}(ha:q[i]?=Vn a)(hb:q[j]?=Vn b)(c:i<=j):a.2.1<=b.2.1:=by
 rcases FW i j with l|l
 .obtain⟨h1,d⟩:=Fg.mp ha;obtain⟨h2,e⟩:=Fg.mp hb;have:=Hk.mp hs i j h1 h2 l;rw[d,e]at this;exact this
 .have:i=j:=by lia
  subst this;rw[ha]at hb;cases hb;exact Fu _
theorem QI.deepAt(h:QI nx s q i B):∀j (e:Ent),q[j]?=Vn e->e.2.1<=j:=by
 intro j;induction j using HJ with
 | _ j f=>
  intro e c;rcases h.par e (Fh c)with⟨_,_,m⟩|⟨p,k,d,o,_,_,hd,g⟩
  .omega
  .obtain⟨b,a⟩:=FX g;have hlt:b<j:=by
    rcases FW b j with l|l
    .exact l
    .have:=wj h.srt c a l;dsimp only at this;lia
   have:=f b hlt _ a;dsimp only at this;lia
theorem QI.deep(h:QI nx s q i B)(b:e∈q):e.2.1<=q.length:=by obtain⟨j,a⟩:=FX b;have h1:=h.deepAt j e a;have h2:=(Fg.mp a).1;lia
structure QF(q:List Ent)(i:Nat)(h:Ent)(ks:List Nat)(m:Nat):Prop where
 at_:q[i]?=Vn h
 nd:(q.map (·.1)).Nodup
 par:∀e∈q,(e.2.2=Vo/\e.1=s/\e.2.1=0)\/∃p k d o,e.2.2=Vn (p,k)/\nx p k=Vn e.1/\e.2.1=d+1/\(p,d,o)∈q
 le:∀e∈q,e.2.1<=h.2.1+1
 srt:q.Pairwise λa b=>a.2.1<=b.2.1
 cl:∀j e,j<i->q[j]?=Vn e->∀k y,nx e.1 k=Vn y->∃e'∈q,e'.1=y/\e'.2.1<=e.2.1+1
 ch:∀k∈ks.take m,∀y,nx h.1 k=Vn y->∃e'∈q,e'.1=y/\e'.2.1<=h.2.1+1
 s0:(s,0,Vo)∈q
theorem QI.look{h:Ent}(H:QI nx s q i B)(ha:q[i]?=Vn h)(ks):QF (nx:=nx) (s:=s) q i h ks 0:=by refine⟨ha,H.nd,H.par,λe a=>?_,H.srt,H.cl,λk b=>by simp at b,H.s0⟩;have:=H.le e a;have:=H.lo i h ha (Fu _);lia
theorem QF.next{h:Ent}(H:QF (nx:=nx) (s:=s) q i h ks ks.length)(d:∀k y,nx h.1 k=Vn y->k∈ks):QI nx s q (i+1) h.2.1:=by
 refine⟨H.nd,H.par,H.le,λj e b f=>wj H.srt H.at_ b (by lia),H.srt,λj e b c k y a=>?_,H.s0⟩;rcases FW j i with l|l
 .exact H.cl j e l c k y a
 .have:j=i:=by lia
  subst this;have e':=H.at_;rw[c]at e';cases e';exact H.ch k (by rw[FD];exact d k y a) y a
def QF.skip{h:Ent}(H:QF (nx:=nx) (s:=s) q i h ks m)(f:ks[m]?=Vn k)(g:∀y,nx h.1 k=Vn y->y∈q.map (·.1)):QF (nx:=nx) (s:=s) q i h ks (m+1):=by
 refine⟨H.at_,H.nd,H.par,H.le,H.srt,H.cl,λc a y b=>?_,H.s0⟩;rw[Hu,f]at a;rcases Fx.mp a with z|z
 .exact H.ch c z y b
 .have:c=k:=by simpa using z
  subst this;obtain⟨e,d,j⟩:=F7.mp (g y b);exact⟨e,d,j,H.le e d⟩
theorem QF.add{h:Ent}(H:QF (nx:=nx) (s:=s) q i h ks m)(v:ks[m]?=Vn k)(u:nx h.1 k=Vn y)(w:y∉q.map (·.1)):
  QF (nx:=nx) (s:=s) (q++[(y,h.2.1+1,Vn (h.1,k))]) i h ks (m+1):=by
 have n:=(Fg.mp H.at_).1;have hmem:h∈q:=Fh H.at_;refine⟨by rw[Fz n];exact H.at_,?_,?_,?_,?_,?_,?_,FT _ H.s0⟩
 .rw[Fq,GD];refine⟨H.nd,by simp,λa ha b hb e=>?_⟩;have:b=y:=by simpa using hb
  subst this;subst e;exact w ha
 .intro e f;rcases Fx.mp f with z|z
  .rcases H.par e z with p|⟨p,g,d,o,h1,h2,x,A⟩
   .exact .inl p
   .exact .inr ⟨p,g,d,o,h1,h2,x,FT _ A⟩
  .have:e=(y,h.2.1+1,Vn (h.1,k)):=by simpa using z
   subst this;exact .inr ⟨h.1,k,h.2.1,h.2.2,rfl,u,rfl,FT _ hmem⟩
 .intro e f;rcases Fx.mp f with z|z
  .exact H.le e z
  .have:e=(y,h.2.1+1,Vn (h.1,k)):=by simpa using z
   subst this;exact Fu _
 .rw[List.pairwise_append];refine⟨H.srt,by simp,λa ha b hb=>?_⟩;have:b=(y,h.2.1+1,Vn (h.1,k)):=by simpa using hb
  subst this;exact H.le a ha
 .intro j e B f g r c;rw[Fz (by lia)]at f;obtain⟨e',h1,h2⟩:=H.cl j e B f g r c;exact⟨e',FT _ h1,h2⟩
 .intro g l r c;rw[Hu,v]at l;rcases Fx.mp l with z|z
  .obtain⟨e',h1,h2⟩:=H.ch g z r c;exact⟨e',FT _ h1,h2⟩
  .have:g=k:=by simpa using z
   subst this;rw[u]at c;cases c;exact⟨_,FR _ Fe,rfl,Fu _⟩
abbrev eI:=Pl×Nat
structure LI(f:List eI)(wl:List Pl)(L:Nat):Prop where
 nd:(f.map (·.1)).Nodup
 ds:∀e∈f,b6 nx s e.2 e.1/\e.2<=L
 al:∀n y,n<=L->Wk nx s n y->y∈f.map (·.1)
 wt:∀x∈wl,b6 nx s L x
 tw:∀x,b6 nx s L x->x∈wl
theorem LI.begin:LI (nx:=nx) (s:=s) [(s,0)] [s] 0:=by
 have b:b6 nx s 0 s:=⟨.zero,λm d=>absurd d (GS _)⟩;refine⟨by simp,?_,?_,?_,?_⟩
 .intro e c;rw[Fi]at c;subst c;exact⟨b,Fu _⟩
 .intro n y f w;have:n=0:=by lia
  subst this;cases w;simp
 .intro x a;rw[Fi]at a;subst a;exact b
 .intro x a;cases a.1;simp
structure LF(f f':List eI)(wt lt:List Pl)(L:Nat)(D:Pl->Prop):Prop where
 nd:(f'.map (·.1)).Nodup
 ds:∀e∈f',b6 nx s e.2 e.1/\e.2<=L+1
 sub:∀e∈f,e∈f'
 lt1:∀x∈lt,b6 nx s (L+1) x
 lt2:∀e∈f',e.2=L+1->e.1∈lt
 dn:∀y,D y->y∈f'.map (·.1)
theorem LI.start{f:List eI}{wt:List Pl}(h:LI (nx:=nx) (s:=s) f wt L):LF (nx:=nx) (s:=s) f f wt [] L λ_=>False:=by refine⟨h.nd,λe a=>⟨(h.ds e a).1,by have:=(h.ds e a).2;lia⟩,λe a=>a,λx b=>(by cases b),λe a hd=>?_,λy c=>c.elim⟩;have:=(h.ds e a).2;lia
def LF.more{f f':List eI}{D a:Pl->Prop}(h:LF (nx:=nx) (s:=s) f f' wt lt L D)(hd:∀y,a y->D y\/y∈f'.map (·.1)):LF (nx:=nx) (s:=s) f f' wt lt L a:=
 ⟨h.nd,h.ds,h.sub,h.lt1,h.lt2,λy b=>by
  rcases hd y b with z|z
  .exact h.dn y z
  .exact z⟩
theorem LF.add{f f':List eI}(h0:LI (nx:=nx) (s:=s) f wt L)(h:LF (nx:=nx) (s:=s) f f' wt lt L D)(n:x∈wt)(o:nx x k=Vn y)(j:y∉f'.map (·.1))(hd:∀z,i z->D z\/z=y):
  LF (nx:=nx) (s:=s) f (f'++[(y,L+1)]) wt (lt++[y]) L i:=by
 have l:b6 nx s (L+1) y:=by refine⟨.succ (h0.wt x n).1 o,λm r w=>j ?_⟩;obtain⟨e,c,p⟩:=F7.mp (h0.al m y (by lia) w);exact F7.mpr ⟨e,h.sub e c,p⟩
 refine⟨?_,?_,λe c=>FT _ (h.sub e c),?_,?_,?_⟩
 .rw[Fq,GD];refine⟨h.nd,by simp,λa ha b hb e=>?_⟩;have:b=y:=by simpa using hb
  subst this;subst e;exact j ha
 .intro e c;rcases Fx.mp c with z|z
  .exact h.ds e z
  .have:e=(y,L+1):=by simpa using z
   subst this;exact⟨l,Fu _⟩
 .intro z g;rcases Fx.mp g with d|d
  .exact h.lt1 z d
  .have:z=y:=by simpa using d
   subst this;exact l
 .intro e c q;rcases Fx.mp c with z|z
  .exact FT _ (h.lt2 e z q)
  .have:e=(y,L+1):=by simpa using z
   subst this;exact FR _ (by simp)
 .intro z g;rw[Fq];rcases hd z g with d|d
  .exact FT _ (h.dn z d)
  .subst d;exact FR _ (by simp)
theorem LF.next{f f':List eI}(h0:LI (nx:=nx) (s:=s) f wt L)(h:LF (nx:=nx) (s:=s) f f' wt lt L D)(m:∀x∈wt,∀k y,nx x k=Vn y->D y):LI (nx:=nx) (s:=s) f' lt (L+1):=by
 have al:∀n y,n<=L+1->Wk nx s n y->y∈f'.map (·.1):=by
  intro n y o w;rcases FW n (L+1)with l|l
  .obtain⟨e,a,b⟩:=F7.mp (h0.al n y (by lia) w);exact F7.mpr ⟨e,h.sub e a,b⟩
  .have:n=L+1:=by lia
   subst this;cases w with
   | @succ n x y k w g=>
    by_cases i:x∈wt
    .exact h.dn y (m x i k y g)
    .obtain⟨e,a,c⟩:=F7.mp (h0.al L x (Fu _) w);obtain⟨j,p⟩:=h0.ds e a;have hlt:e.2<L:=by
      rcases FW e.2 L with l|l
      .exact l
      .exfalso;refine i (h0.tw x ?_);rw[<-c,show L=e.2 by lia];exact j
     obtain⟨e',d,b⟩:=F7.mp (h0.al (e.2+1) y (by lia) (.succ j.1 (by rw[c];exact g)));exact F7.mpr ⟨e',h.sub e' d,b⟩
 refine⟨h.nd,h.ds,al,h.lt1,λx c=>?_⟩;obtain⟨e,a,b⟩:=F7.mp (al (L+1) x (Fu _) c.1);have:=b6.uniq (nx:=nx) (s:=s) (h.ds e a).1 (by rw[b];exact c);have:=h.lt2 e a this
 rwa [b]at this
theorem LI.end_{f:List eI}(h:LI (nx:=nx) (s:=s) f [] L):∀n y,Wk nx s n y->y∈f.map (·.1):=by
 have none_:∀n y,L<=n->¬b6 nx s n y:=by
  intro n y p d;have:∀j,j<=n->∃x,b6 nx s (n-j) x:=by
   intro j;induction j with
   | zero=>intro _;exact⟨y,d⟩
   | succ j e=>
    intro q;obtain⟨x,w,a⟩:=e (by lia);rw[show n-j=(n-(j+1))+1 by lia]at w a;cases w with
    | @succ r i u k w o=>exact⟨i,w,λm b c=>a (m+1) (by lia) (.succ c o)⟩
  obtain⟨x,a⟩:=this (n-L) (by lia);rw[show n-(n-L)=L by lia]at a;cases h.tw x a
 intro n y;induction n using HJ generalizing y with
 | _ n e=>
  intro w;rcases FW L n with l|l
  .by_cases b:∃m,m<n/\Wk nx s m y
   .obtain⟨m,b,c⟩:=b;exact e m b y c
   .exact absurd ⟨w,λm g c=>b ⟨m,g,c⟩⟩ (none_ n y (by lia))
  .exact h.al n y l w
def gone:Pl->List Nat->Option Pl
 | x,[]=>Vn x
 | x,k::r=>(nx x k).bind λy=>gone y r
theorem kY{y z:Pl}{k:Nat}:∀{r:List Nat} {x:Pl},gone (nx:=nx) x r=Vn y->nx y k=Vn z->gone (nx:=nx) x (r++[k])=Vn z
 | [],x,h,b=>by cases h;show(nx y k).bind _=_;rw[b];rfl
 | a::r,x,h,b=>by
  show(nx x a).bind _=_;have h':(nx x a).bind (λy=>gone (nx:=nx) y r)=Vn y:=h;cases e:nx x a with
  | none=>rw[e]at h';cases h'
  | some u=>
   rw[e]at h';exact kY h' b
end
end Bfs
namespace Bfs
inductive Rw(S:Pl->Pl->Prop):Nat->Pl->Pl->Prop
 | nil {x:Pl}:Rw S 0 x x
 | snoc {n:Nat} {x y z:Pl}:Rw S n x y->S y z->Rw S (n+1) x z
def Rw.trans(h:Rw S n x y)(g:Rw S k y z):Rw S (n+k) x z:=by
 induction g with
 | nil=>exact h
 | snoc _ hs a=>exact .snoc (a h) hs
def Rw.imp(d:∀a c,S a c->b a c)(h:Rw S n x y):Rw b n x y:=by
 induction h with
 | nil=>exact .nil
 | snoc _ hs e=>exact .snoc e (d _ _ hs)
theorem Rw.cons{S}{n}{x y z}(h:S x y)(g:Rw S n y z):Rw S (n+1) x z:=by
 have:=Rw.trans (.snoc .nil h) g
 rwa [show 0+1+n=n+1 by lia]at this
theorem Rw.fn(h:Rw S n x y):∃w:Nat->Pl,w 0=x/\w n=y/\∀i,i<n->S (w i) (w (i+1)):=by
 induction h with
 | @nil x=>exact⟨λ_=>x,rfl,rfl,λi hi=>absurd hi (GS _)⟩
 | @snoc n x y z _ hs a=>
  obtain⟨w,b,c,d⟩:=a;refine⟨λi=>if i<=n then w i else z,by simp[b],(by show(if n+1<=n then w (n+1)else z)=z;rw[F5 (by lia)]),λi hi=>?_⟩
  try dsimp only
  rcases FW i n with l|l
  .rw[F6 (by lia),F6 (by lia)];exact d i l
  .have:i=n:=by lia
   subst this;rw[F6 (Fu _),F5 (by lia),c];exact hs
theorem vm{S:Pl->Pl->Prop}{w:Nat->Pl}{i:Nat}:∀(k:Nat),(∀j,i<=j->j<i+k->S (w j) (w (j+1)))->Rw S k (w i) (w (i+k))
 | 0,_=>.nil
 | k+1,h=>.snoc (vm k λj h1 h2=>h j h1 (by lia)) (h (i+k) (by lia) (by lia))
theorem jE{w:Nat->Pl}(a:i<=j)(h:∀k,i<=k->k<j->S (w k) (w (k+1))):Rw S (j-i) (w i) (w j):=by
 have:=vm (S:=S) (w:=w) (i:=i) (j-i) (λk h1 h2=>h k h1 (by lia))
 rwa [show i+(j-i)=j by lia]at this
theorem jC{h:Nat->Int}{l:Int}:∀(P:Nat),(∀i,i<P->h (i+1)<=h i+1)->h 0<=l->l<=h P->∃u,u<=P/\h u=l/\∀i,u<i->i<=P->l<h i
 | 0,_,h0,a=>⟨0,Fu _,by lia,λi h1 h2=>by lia⟩
 | P+1,hs,h0,a=>by
  by_cases e:h (P+1)=l
  .exact⟨P+1,Fu _,e,λi h1 h2=>by lia⟩
  .have:=hs P (by lia);obtain⟨u,c,b,hi⟩:=jC P (λi hi=>hs i (by lia)) h0 (by lia);refine⟨u,by lia,b,λi h1 h2=>?_⟩;rcases FW P i with g|g
   .have:i=P+1:=by lia
    subst this;lia
   .exact hi i h1 g
theorem xV{h:Nat->Int}{l:Int}{P:Nat}(e:P<=n)(hs:∀i,P<=i->i<n->h i<=h (i+1)+1)(h0:h n<=l)(c:l<=h P):∃d,P<=d/\d<=n/\h d=l/\∀i,P<=i->i<d->l<h i:=by
 obtain⟨u,f,a,b⟩:=jC (n-P) (λi hi=>by
  have:=hs (n-(i+1)) (by lia) (by lia)
  rwa [show n-(i+1)+1=n-i by lia]at this) (by simpa using h0) (by
  rw[show n-(n-P)=P by lia];exact c)
 refine⟨n-u,by lia,by lia,a,λi h1 h2=>?_⟩;have:=b (n-i) (by lia) (by lia)
 (try dsimp only at this)
 rwa [show n-(n-i)=i by lia]at this
theorem code_inj{m r s b s':Int}(hs:0<=s)(c:s<m)(d:0<=s')(a:s'<m)(e:r*m+s=b*m+s'):r=b/\s=s':=by
 have h1:s=s':=by
  have:=congrArg (· % m) e
  (try dsimp only at this)
  rw[Int.add_comm,Jb,Int.add_comm (b*m),Jb,Int.emod_eq_of_lt hs c,Int.emod_eq_of_lt d a]at this;exact this
 refine⟨?_,h1⟩;have h2:r*m=b*m:=by omega
 exact Int.eq_of_mul_eq_mul_right (by lia) h2
theorem nE{m r s:Int}(a:0<=r)(b:r<m)(hs:0<=s)(c:s<m):0<=r*m+s/\r*m+s<m*m:=by have h1:0<=r*m:=FE a (by lia);have h2:(r+1)*m<=m*m:=HQ (by lia) (by lia);rw[Kw,Ky]at h2;lia
theorem twice(code:Nat->Nat)(h:∀j,j<=K->code j<K):∃i j,i<j/\j<=K/\code i=code j:=by
 refine GX λno=>?_;have c:((F2 (K+1)).map code).Nodup:=by unfold JG;rw[HG];refine HV ?_ (IC);intro a b ha hb hab e;exact no ⟨a,b,hab,by have:=GK.mp hb;lia,e⟩
 have:=hZ K _ c (λx d=>by obtain⟨j,f,rfl⟩:=F7.mp d;exact h j (by have:=GK.mp f;lia))
 rw[E7,G6]at this;lia
theorem cut{m:Int}(hm:0<m)(h1:∀x y,S x y->y.2<=x.2+1/\x.2<=y.2+1)(h2:∀x y c,S x y->0<=c->1<=x.2-c->1<=y.2-c->S (x.1,x.2-c) (y.1,y.2-c))
  (Z:∀x y,S x y->0<=y.1/\y.1<m)  (hb:0<=b):∀n x g,Rw S n x g->0<=x.1->x.1<m->x.2<=b->g.2<=b->∃C,C<=n/\Rw (λa c=>S a c/\c.2<=b+m*m) C x g:=by
 intro n;induction n using HJ with
 | _ n ih=>
  intro x g hw T U xb gb;obtain⟨w,e,f,hws⟩:=hw.fn;by_cases hall:∀i,i<=n->(w i).2<=b+m*m
  .refine⟨n,Fu _,?_⟩;have:=jE (S:=λa c=>S a c/\c.2<=b+m*m) (w:=w) (GO n) (λk _ E=>⟨hws k E,hall (k+1) (by lia)⟩);rw[e,f]at this;exact this
  .obtain⟨P,W⟩:=Classical.not_forall.mp hall;obtain⟨I,a0⟩:P<=n/\b+m*m<(w P).2:=by
    by_cases c:P<=n
    .exact⟨c,by
      by_cases d:(w P).2<=b+m*m
      .exact absurd (λ_=>d) W
      .omega⟩
    .exact absurd (λz=>absurd z c) W
   have a5:0<=m*m:=FE (by omega) (by omega);have room:∀i,i<=n->0<=(w i).1/\(w i).1<m:=by
    intro i hi;cases i with
    | zero=>rw[e];exact⟨T,U⟩
    | succ i=>exact Z _ _ (hws i (by omega))
   have r:∀j,∃u,(j<=(m*m).toNat->u<=P/\(w u).2=b+1+j/\∀i,u<i->i<=P->b+1+j<(w i).2):=by
    intro j;by_cases q:j<=(m*m).toNat
    .obtain⟨u,F,G,J⟩:=jC (h:=λi=>(w i).2) (l:=b+1+j) P (λi hi=>(h1 _ _ (hws i (by omega))).1) (by(try dsimp only);rw[e];omega) (by(try dsimp only);omega);exact⟨u,λ_=>⟨F,G,J⟩⟩
    .exact⟨0,λz=>absurd z q⟩
   have hd:∀j,∃d,(j<=(m*m).toNat->P<=d/\d<=n/\(w d).2=b+1+j/\∀i,P<=i->i<d->b+1+j<(w i).2):=by
    intro j;by_cases q:j<=(m*m).toNat
    .obtain⟨d,F,G,J,a4⟩:=xV (h:=λi=>(w i).2) (l:=b+1+j) I (λi _ hi=>(h1 _ _ (hws i hi)).2) (by(try dsimp only);rw[f];omega) (by(try dsimp only);omega);exact⟨d,λ_=>⟨F,G,J,a4⟩⟩
    .exact⟨0,λz=>absurd z q⟩
   obtain⟨u,r⟩:=Hv r;obtain⟨d,hd⟩:=Hv hd;obtain⟨i,j,a6,v,o⟩:=twice (K:=(m*m).toNat) (λj=>((w (u j)).1*m+(w (d j)).1).toNat) (λj q=>by
    have F:=r j q;have G:=hd j q;have r1:=room (u j) (by omega);have p:=room (d j) (by omega);have:=nE r1.1 r1.2 p.1 p.2
    try dsimp only
    omega)
   obtain⟨L,M,a9⟩:=r i (by omega);obtain⟨ab,ac,A⟩:=r j v;obtain⟨N,O,ad,ah⟩:=hd i (by omega);obtain⟨ai,aj,Q,B⟩:=hd j v;have X:(w (u i)).1=(w (u j)).1/\(w (d i)).1=(w (d j)).1:=by
    have r1:=room (u i) (by omega);have p:=room (d i) (by omega);have Y:=room (u j) (by omega);have H:=room (d j) (by omega);have c1:=nE r1.1 r1.2 p.1 p.2;have c2:=nE Y.1 Y.2 H.1 H.2
    (try dsimp only at o)
    exact code_inj p.1 p.2 H.1 H.2 (by omega)
   have ak:u i<u j:=by
    rcases IP (u i) (u j)with z|z|z
    .exact z
    .rw[z]at M;omega
    .have:=A (u i) z L;omega
   have am:d j<d i:=by
    rcases IP (d j) (d i)with z|z|z
    .exact z
    .rw[z]at Q;omega
    .have:=B (d i) N z;omega
   have s1:Rw S (u i-0) (w 0) (w (u i)):=jE (GO _) (λk _ E=>hws k (by omega));have s3:Rw S (n-d i) (w (d i)) (w n):=jE O (λk _ E=>hws k E);have hi:∀k,u j<=k->k<=d j->b+1+j<=(w k).2:=by
    intro k k1 k2;rcases FW k P with z|z
    .rcases FW (u j) k with y|y
     .have:=A k y (by omega);omega
     .have:k=u j:=by omega
      subst this;omega
    .rcases FW k (d j)with y|y
     .have:=B k z y;omega
     .have:k=d j:=by omega
      subst this;omega
   have s2:Rw S (d j-u j) ((w (u j)).1,(w (u j)).2-(j-i:Nat)) ((w (d j)).1,(w (d j)).2-(j-i:Nat)):=
    jE (S:=S) (w:=λk=>((w k).1,(w k).2-(j-i:Nat))) (show u j<=d j by omega) (λk k1 k2=>h2 _ _ _ (hws k (by omega)) (by omega) (by have:=hi k k1 (by omega);omega) (by have:=hi (k+1) (by omega) (by omega);omega))
   have e1:((w (u j)).1,(w (u j)).2-((j-i:Nat):Int))=w (u i):=HF X.1.symm (by(try dsimp only);omega);have e2:((w (d j)).1,(w (d j)).2-((j-i:Nat):Int))=w (d i):=HF X.2.symm (by(try dsimp only);omega);rw[e1,e2]at s2;have s:=(s1.trans s2).trans s3;rw[e,f]at s;obtain⟨C,an,R⟩:=ih _ (by omega) x g s T U xb gb;exact⟨C,by omega,R⟩
def Wk.rw{s y:Pl}(h:Wk nx s n y):Rw (λa c=>∃k,nx a k=Vn c) n s y:=by
 induction h with
 | zero=>exact .nil
 | succ _ b d=>exact .snoc d ⟨_,b⟩
def Rw.wk{s y:Pl}(d:∀a c,S a c->∃k,nx a k=Vn c)(h:Rw S n s y):Wk nx s n y:=by
 induction h with
 | nil=>exact .zero
 | snoc _ b e=>
  obtain⟨k,b⟩:=d _ _ b;exact .succ e b
theorem b6.each{s y:Pl}(d:b6 nx s n y):∀j,j<=n->∃x,b6 nx s (n-j) x:=by
 intro j;induction j with
 | zero=>intro _;exact⟨y,d⟩
 | succ j b=>
  intro g;obtain⟨x,w,a⟩:=b (by lia);rw[show n-j=(n-(j+1))+1 by lia]at w a;cases w with
  | @succ h c i k w e=>exact⟨c,w,λm l f=>a (m+1) (by lia) (.succ f e)⟩
theorem D3{a b m T:Int}(e:0<=T)(c:0<=a)(f:a<m)(g:0<=b)(h:b<=T):0<=a*(T+1)+b/\a*(T+1)+b<m*(T+1):=by have i:0<=a*(T+1):=FE c (by lia);have d:(a+1)*(T+1)<=m*(T+1):=HQ (by lia) (by lia);rw[Kw,Ky]at d;lia
theorem Ei{a b:Int}(h:0<=a/\a<b):a.toNat<b.toNat:=by lia
theorem BG{a b:Int}(h:0<=a)(g:0<=b)(e:a.toNat=b.toNat):a=b:=by lia
theorem BY{c:Int}(no:¬(n:Int)<=c-1):c.toNat<=n:=by lia
def b6.few{s y:Pl}{m T:Int}(A:0<m)(q:0<=T)(d:b6 nx s n y)(hin:∀k z,Wk nx s k z->0<=z.1/\z.1<m/\0<=z.2/\z.2<=T):(n:Int)<=m*(T+1)-1:=by
 have r:∀j,∃x,(j<=n->b6 nx s j x):=by
  intro j;by_cases b:j<=n
  .obtain⟨x,h⟩:=d.each (n-j) (by omega);rw[show n-(n-j)=j by omega]at h;exact⟨x,λ_=>h⟩
  .exact⟨s,λz=>absurd z b⟩
 obtain⟨f,g⟩:=Hv r;refine GX λno=>?_;have p:=BY no;have cl:∀z:Pl,0<=z.1/\z.1<m/\0<=z.2/\z.2<=T->0<=z.1*(T+1)+z.2/\z.1*(T+1)+z.2<m*(T+1):=λz h=>D3 q h.1 h.2.1 h.2.2.1 h.2.2.2;obtain⟨i,j,c,b,u⟩:=twice (K:=(m*(T+1)).toNat) (λj=>((f j).1*(T+1)+(f j).2).toNat) (λj b=>Ei (cl (f j) (hin j (f j) (g j (FI b p)).1)));have a:=FI b p;have hi:=g i (FI (HE c) a);have l:=hin i (f i) hi.1;have o:=hin j (f j) (g j a).1;obtain⟨v,w⟩:=code_inj (m:=T+1) l.2.2.1 (Kz l.2.2.2) o.2.2.1 (Kz o.2.2.2) (BG (cl _ l).1 (cl _ o).1 u);have e:=b6.uniq (nx:=nx) (s:=s) hi (by rw[show f i=f j from HF v w];exact g j a);exact Ft c e
theorem zt{s y:Pl}:∀n,Wk nx s n y->∃k,k<=n/\b6 nx s k y:=by
 intro n;induction n using HJ with
 | _ n c=>
  intro w;by_cases h:∃k,k<n/\Wk nx s k y
  .obtain⟨k,a,b⟩:=h;obtain⟨d,h1,h2⟩:=c k a b;exact⟨d,by lia,h2⟩
  .exact⟨n,Fu _,w,λk a b=>h ⟨k,a,b⟩⟩
end Bfs
namespace Bfs
end Bfs
namespace Rnd
inductive Wg{α:Type}(S:α->α->Prop):Nat->α->α->Prop
 | nil {x:α}:Wg S 0 x x
 | snoc {n:Nat} {x y z:α}:Wg S n x y->S y z->Wg S (n+1) x z
def Wg.trans{S:α->α->Prop}{x y z:α}(h:Wg S n x y)(g:Wg S k y z):Wg S (n+k) x z:=by
 induction g with
 | nil=>exact h
 | snoc _ hs a=>exact .snoc (a h) hs
theorem Wg.fn{S:α->α->Prop}{x y:α}(h:Wg S n x y):∃w:Nat->α,w 0=x/\w n=y/\∀i,i<n->S (w i) (w (i+1)):=by
 induction h with
 | @nil x=>exact⟨λ_=>x,rfl,rfl,λi hi=>absurd hi (GS _)⟩
 | @snoc n x y z _ hs a=>
  obtain⟨w,b,c,d⟩:=a;refine⟨λi=>if i<=n then w i else z,by simp[b],(by show(if n+1<=n then w (n+1)else z)=z;rw[F5 (by lia)]),λi hi=>?_⟩
  try dsimp only
  rcases FW i n with l|l
  .rw[F6 (by lia),F6 (by lia)];exact d i l
  .have:i=n:=by lia
   subst this;rw[F6 (Fu _),F5 (by lia),c];exact hs
theorem ue{α:Type}{S:α->α->Prop}{w:Nat->α}{i:Nat}:∀(k:Nat),(∀j,i<=j->j<i+k->S (w j) (w (j+1)))->Wg S k (w i) (w (i+k))
 | 0,_=>.nil
 | k+1,h=>.snoc (ue k λj h1 h2=>h j h1 (by lia)) (h (i+k) (by lia) (by lia))
theorem seg{S:α->α->Prop}{w:Nat->α}(a:∀k,k<n->S (w k) (w (k+1)))(b:i<=j)(c:j<=n):Wg S (j-i) (w i) (w j):=by
 have:=ue (S:=S) (w:=w) (i:=i) (j-i) (λk h1 h2=>a k (by lia))
 rwa [show i+(j-i)=j by lia]at this
theorem EM{S:α->α->Prop}{I:α->Prop}{N:Nat}(code:α->Nat)(n:∀a,I a->code a<N)(inj:∀a b,I a->I b->code a=code b->a=b)(o:∀a b,S a b->I b):∀k x y,I x->Wg S k x y->∃d,d<N/\Wg S d x y:=by
 intro k;induction k using HJ with
 | _ k p=>
  intro x y f h;by_cases q:k<N
  .exact⟨k,q,h⟩
  .obtain⟨w,g,r,c⟩:=h.fn;have hIn:∀i,i<=k->I (w i):=λi hi=>by
    cases i with
    | zero=>rw[g];exact f
    | succ i=>exact o _ _ (c i (by lia))
   obtain⟨i,j,s,u,e⟩:=Bfs.twice (K:=N) (λj=>code (w j)) (λj u=>n _ (hIn j (by lia)));have e':=inj _ _ (hIn i (by lia)) (hIn j (by lia)) e;have v:=seg c (GO i) (by lia);have l:=seg c (show j<=k by lia) (Fu k);rw[<-e']at l;have m:=v.trans l;rw[g,r]at m;exact p _ (by lia) x y f m
section
variable {n:Nat} {A:Nat->Nat->Prop} (hA:∀i j,A i j->i<n/\j<n)
def Pr(A:Nat->Nat->Prop)(c:Nat)(a b:Nat×Nat):Prop:=A a.1 b.1/\b.2=(a.2+1) % c
def lift{c k:Nat}(h:Wg A k i j):Wg (Pr A c) k (i,0 % c) (j,k % c):=by
 induction h with
 | nil=>exact .nil
 | @snoc k x y z _ hs a=>exact .snoc a ⟨hs,by show(k+1) % c=(k % c+1) % c;rw[Nat.mod_add_mod]⟩
def drop{c k:Nat}{a b:Nat×Nat}(h:Wg (Pr A c) k a b):a.2 % c=a.2->Wg A k a.1 b.1/\b.2=(a.2+k) % c:=by
 induction h with
 | nil=>exact λe=>⟨.nil,e.symm⟩
 | @snoc k x y z _ hs d=>
  intro e;obtain⟨h1,h2⟩:=d e;refine⟨.snoc h1 hs.1,?_⟩;rw[hs.2,h2,Nat.mod_add_mod,Ih]
include hA
theorem sJ{c k i j:Nat}(o:1<=c)(hi:i<n)(h:Wg A k i j):∃d,d<n*c/\d % c=k % c/\Wg A d i j:=by
 obtain⟨d,f,g⟩:=EM (I:=λa=>a.1<n/\a.2<c) (λa=>a.1*c+a.2) (λa ha=>by
   have:(a.1+1)*c<=n*c:=Kv _ ha.1;rw[Ho]at this;show a.1*c+a.2<n*c;lia) (λa b ha hb e=>by
   have e':a.1*c+a.2=b.1*c+b.2:=e;have l:a.2=b.2:=by
    have:=congrArg (· % c) e'
    rwa [Jm,Jm,Nat.mod_eq_of_lt ha.2,Nat.mod_eq_of_lt hb.2]at this
   have m:a.1=b.1:=Nat.eq_of_mul_eq_mul_right (show 0<c by lia) (by lia);exact HF m l) (λa b h=>⟨(hA _ _ h.1).2,by rw[h.2];exact IT _ (by lia)⟩) k _ _ ⟨hi,IT _ (by lia)⟩ (lift h)
 obtain⟨h1,h2⟩:=drop g (Nat.mod_mod _ _);refine⟨d,f,?_,h1⟩;rw[Nat.zero_mod,Hd]at h2;exact h2.symm
def v9(hi:i<n)(h:Wg A k i j):j<n:=by
 cases h with
 | nil=>exact hi
 | snoc _ hs=>exact(hA _ _ hs).2
def Sm(A:Nat->Nat->Prop)(u v:Nat):Prop:=(∃k,Wg A k u v)/\∃k,Wg A k v u
omit hA in
def Sm.symm{u v:Nat}(h:Sm A u v):Sm A v u:=⟨h.2,h.1⟩
omit hA in
theorem Sm.trans{u v z:Nat}(h:Sm A u v)(g:Sm A v z):Sm A u z:=by obtain⟨⟨a,ha⟩,b,hb⟩:=h;obtain⟨⟨c,e⟩,d,hd⟩:=g;exact⟨⟨_,ha.trans e⟩,_,hd.trans hb⟩
omit hA in
def Sm.refl{u:Nat}:Sm A u u:=⟨⟨0,.nil⟩,0,.nil⟩
omit hA in
def sY{P:Nat->Prop}:∀k,P k->∃q,P q/\∀u,P u->q<=u:=by
 intro k;induction k using HJ with
 | _ k b=>
  intro c;by_cases h:∃u,u<k/\P u
  .obtain⟨u,a,pu⟩:=h;exact b u a pu
  .exact⟨k,c,λu a=>GX λz=>h ⟨u,by omega,a⟩⟩
def Rp(A:Nat->Nat->Prop)(q:Nat):Prop:=(∃k,1<=k/\Wg A k q q)/\∀u,Sm A q u->q<=u
omit hA in
def Bm{u k:Nat}(f:1<=k)(h:Wg A k u u):∃q,Rp A q/\Sm A u q:=by obtain⟨q,c,d⟩:=sY (P:=λq=>Sm A u q) u Sm.refl;obtain⟨⟨a,ha⟩,b,hb⟩:=id c;exact⟨q,⟨⟨b+k+a,by omega,(hb.trans h).trans ha⟩,λv e=>d v (c.trans e)⟩,c⟩
theorem ring(o:q<n)(h:Rp A q):∃(c:Nat) (L:List Nat),1<=c/\Wg A c q q/\L.length=c/\L.Nodup/\∀v∈L,v<n/\Sm A q v:=by
 obtain⟨⟨k,p,r⟩,_⟩:=h;obtain⟨c,⟨s,a⟩,u⟩:=sY (P:=λk=>1<=k/\Wg A k q q) k ⟨p,r⟩;obtain⟨w,g,l,f⟩:=a.fn;refine⟨c,(F2 c).map w,s,a,by simp,?_,?_⟩
 .unfold JG;rw[HG];refine HV ?_ (IC);intro i j hi x y e;have z:=GK.mp x;have b:=seg f (GO i) (by lia);have d:=seg f (show j<=c by lia) (Fu c);rw[<-e]at d;have m:=b.trans d;rw[g,l]at m;have:=u _ ⟨by lia,m⟩;lia
 .intro v B;obtain⟨i,hi,rfl⟩:=F7.mp B;have C:=GK.mp hi;have b:=seg f (GO i) (by lia);have d:=seg f (show i<=c by lia) (Fu c);rw[g]at b;rw[l]at d;exact⟨v9 hA o b,⟨_,b⟩,_,d⟩
theorem rings(F:n<=12):∀k,k<=n->∃(L:List Nat) (P:Nat),L.Nodup/\(∀v∈L,v<n/\∃q,q<k/\Rp A q/\Sm A q v)/\1<=P/\P ^ 3<=3 ^ L.length/\∀q,q<k->Rp A q->∃c,1<=c/\c<=n/\c ∣ P/\Wg A c q q:=by
 intro k;induction k with
 | zero=>exact λ_=>⟨[],1,Gq,λv h=>(nomatch h),Fu _,by decide,λq h=>absurd h (GS _)⟩
 | succ k y=>
  intro G;obtain⟨L,P,nd,m,s,f,u⟩:=y (by lia);by_cases l:Rp A k
  .obtain⟨c,M,w,B,x,g,hMs⟩:=ring hA (show k<n by lia) l;have o:c<=n:=by rw[<-x];exact Bfs.hZ n M g λv i=>(hMs v i).1
   refine⟨L++M,P*c,?_,?_,Nat.mul_pos s w,?_,?_⟩
   .rw[GD];refine⟨nd,g,λa ha b hb e=>?_⟩;subst e;obtain⟨_,q,j,hqr,p⟩:=m a ha;have hs:Sm A k q:=(hMs a hb).2.trans p.symm;have:=l.2 q hs;lia
   .intro v i;rcases Fx.mp i with z|z
    .obtain⟨h1,q,h2,f⟩:=m v z;exact⟨h1,q,by lia,f⟩
    .exact⟨(hMs v z).1,k,by lia,l,(hMs v z).2⟩
   .rw[Nat.mul_pow,Fs,x,Nat.pow_add];have r:∀c,c<13->c ^ 3<=3 ^ c:=by decide
    exact Jn f (r c (by lia))
   .intro q j hqr;by_cases e:q=k
    .subst e;exact⟨c,w,o,⟨P,Hy _ _⟩,B⟩
    .obtain⟨d,h1,h2,C,E⟩:=u q (by lia) hqr;exact⟨d,h1,h2,Nat.dvd_trans C ⟨c,rfl⟩,E⟩
  .refine⟨L,P,nd,λv i=>?_,s,f,λq j hqr=>?_⟩
   .obtain⟨h1,q,h2,f⟩:=m v i;exact⟨h1,q,by lia,f⟩
   .by_cases e:q=k
    .subst e;exact absurd hqr l
    .exact u q (by lia) hqr
omit hA in
theorem times{c q:Nat}(h:Wg A c q q):∀t,Wg A (t*c) q q
 | 0=>by rw[Nat.zero_mul];exact .nil
 | t+1=>by rw[Ho];exact(times h t).trans h
theorem round(H:n<=12):∃P,1<=P/\P<=81/\∀s r k f,s<n->n<=k->2*(n*n)<=f->k % P=f % P->Wg A k s r->Wg A f s r:=by
 obtain⟨L,P,nd,I,J,M,N⟩:=rings hA H n (Fu _);have hl:L.length<=n:=Bfs.hZ n L nd λv O=>(I v O).1;refine⟨P,J,?_,?_⟩
 .refine GX λz=>?_;have h1:82 ^ 3<=P ^ 3:=Nat.pow_le_pow_left (by lia) 3;have h2:3 ^ L.length<=3 ^ 12:=K0 (by decide) (by lia);have:82 ^ 3<=3 ^ 12:=FI h1 (FI M h2);exact absurd this (by decide)
 .intro s r k f hs hk Q l h;obtain⟨w,C,p,o⟩:=h.fn;have hIn:∀i,i<=k->w i<n:=λi hi=>by
   cases i with
   | zero=>rw[C];exact hs
   | succ i=>exact(hA _ _ (o i (by lia))).2
  obtain⟨i,j,u,R,e⟩:=Bfs.twice (K:=n) w (λj R=>hIn j (by lia));have loop:=seg o (HE u) (show j<=k by lia);rw[<-e]at loop;obtain⟨q,S,⟨⟨a,ha⟩,b,hb⟩⟩:=Bm (by lia) loop;have m:q<n:=v9 hA (hIn i (by lia)) ha;obtain⟨c,E,x,y,B⟩:=N q m S;have F:=seg o (GO i) (show i<=k by lia);have G:=seg o (show i<=k by lia) (Fu k);rw[C]at F;rw[p]at G;have T:=F.trans ha;have U:=(hb.trans (times (ha.trans hb) (c-1))).trans G;obtain⟨g,l1,m1,W⟩:=sJ hA E hs T;obtain⟨p2,l2,X,Y⟩:=sJ hA E m U;have Z:n*c<=n*n:=K4 _ x;have hle:g+p2<=f:=by lia
  have hm:(g+p2) % c=f % c:=by
   have e1:(g+p2) % c=((i-0+a)+(b+(c-1)*(a+b)+(k-i))) % c:=by rw[Nat.add_mod,m1,X,<-Nat.add_mod]
   have e2:(i-0+a)+(b+(c-1)*(a+b)+(k-i))=k+c*(a+b):=by obtain⟨d,rfl⟩:∃d,c=d+1:=⟨c-1,by lia⟩;rw[Ik,Ho];lia
   rw[e1,e2,Nat.add_mul_mod_self_left];obtain⟨d,rfl⟩:=y;rw[<-JA k c d,l,JA]
  obtain⟨t,ht⟩:∃t,f=g+p2+t*c:=by refine⟨(f-(g+p2)) / c,?_⟩;have hd:(f-(g+p2)) % c=0:=(Nat.sub_mod_eq_zero_of_mod_eq hm.symm);have:=IG (f-(g+p2)) c;rw[hd,Hy]at this;lia
  rw[ht,show g+p2+t*c=g+t*c+p2 by lia];exact(W.trans (times B t)).trans Y
end
open St in
def yT{st low b P:Nat}(h:Least f st low)(d:1<=P)(a:bX f b P):st ∣ P/\low<=b:=by
 have hd:st ∣ P:=by
  have e:bX f (max b low) P:=λx c=>a x (by omega);have p2:bX f (max b low) st:=λx c=>h.per x (by omega);have g:=e.mod p2;have hs:=h.pos;by_cases z:P % st=0
  .exact Nat.dvd_of_mod_eq_zero z
  .have:=h.step (P % st) _ (by omega) g;have:=IT P (show st>0 by omega);omega
 refine⟨hd,h.base b λx c=>?_⟩;have i:=a.times low x c;have j:=a.times low (x+st) (by omega);have hge:low<=low*P:=J9 low d;have l:=h.per (x+low*P) (by omega);rw[<-i,<-j,<-l];congr 1;omega
end Rnd
namespace Bfs
def Lw(S:Pl->Pl->Prop)(x:Pl)(n:Nat):Prop:=(∃y,Rw S n x y)/\∀k y,Rw S k x y->k<=n
theorem Rw.head(h:Rw S (n+1) x z):∃y,S x y/\Rw S n y z:=by
 generalize a:n+1=k at h;induction h generalizing n with
 | nil=>cases a
 | @snoc k x y z h hs b=>
  have a:n=k:=by lia
  subst a;cases n with
  | zero=>
   cases h;exact⟨z,hs,.nil⟩
  | succ n=>
   obtain⟨u,h1,h2⟩:=b rfl;exact⟨u,h1,.snoc h2 hs⟩
theorem Lw.uniq(h:Lw S x n)(g:Lw S x k):n=k:=by obtain⟨y,a⟩:=h.1;obtain⟨z,b⟩:=g.1;have:=g.2 _ _ a;have:=h.2 _ _ b;lia
theorem wL{S:Pl->Pl->Prop}{x:Pl}:∀(B:Nat),(∀k y,Rw S k x y->k<=B)->∃n,n<=B/\Lw S x n
 | 0,h=>⟨0,Fu _,⟨x,.nil⟩,h⟩
 | B+1,h=>by
  by_cases a:∃y,Rw S (B+1) x y
  .exact⟨B+1,Fu _,a,h⟩
  .obtain⟨n,d,c⟩:=wL B λk y b=>by
    have:=h k y b;by_cases e:k=B+1
    .subst e;exact absurd ⟨y,b⟩ a
    .omega
   exact⟨n,by lia,c⟩
def Lw.next(h:Lw S x n)(hs:S x y):∃k,k<n/\Lw S y k:=by
 have h1:=h.2 1 y (.snoc .nil hs);obtain⟨k,a,b⟩:=wL (S:=S) (x:=y) (n-1) λk z a=>by have:=h.2 (k+1) z (.cons hs a);omega
 exact⟨k,by omega,b⟩
theorem o6{f:Pl->Nat}(c:∀y,S x y->Lw S y (f y))(h1:(∀y,¬S x y)->M=0)(h2:∀y,S x y->f y+1<=M)(d:(∃y,S x y)->∃y,S x y/\M=f y+1):Lw S x M:=by
 constructor
 .by_cases h:∃y,S x y
  .obtain⟨y,a,e⟩:=d h;obtain⟨z,b⟩:=(c y a).1;rw[e];exact⟨z,.cons a b⟩
  .rw[h1 λy a=>h ⟨y,a⟩];exact⟨x,.nil⟩
 .intro k z g;cases k with
  | zero=>lia
  | succ k=>
   obtain⟨y,a,b⟩:=g.head;have:=(c y a).2 _ _ b;have:=h2 y a;lia
def qQ{C:Pl->Prop}{Kn:Pl->Prop}(d:∀x y,C x->S x y->C y)(h:∀x,C x->(∀y,S x y->Kn y)->Kn x):∀n x,C x->Lw S x n->Kn x:=by
 intro n;induction n using HJ with
 | _ n e=>
  intro x b f;refine h x b λy c=>?_;obtain⟨k,g,a⟩:=f.next c;exact e k g y (d _ _ b c) a
end Bfs
namespace My
open PySem L2 St
variable {P:Vd} {w:Ve} {mg:Vm->Option Va} {base:Vh}
@[irreducible] noncomputable def K:E3:=L2.sq _root_.My.top.heap_39 _root_.My.top
def stq (i : Nat) : Stmt := PySem.Challenge.pw_stairrooms_k47_whole_fate.main.body.getD i (.Pass ⟨0, 0, 0, 0⟩)
local macro_rules|`(tactic| walk_at "cond") => `(tactic| first|decide|omega|(dsimp only; omega)|(unfold kR; omega)|(unfold vw; exact ⟨by decide, by decide, by decide⟩)|(dsimp only; exact ⟨by omega, by omega⟩)|exact .inr ⟨by decide, by decide⟩|exact .inl ⟨by decide, by decide⟩|(unfold SmallR; omega))
local macro_rules|`(tactic| walk_at"") => do
 let ts <- ("xa wa wb wc wd we xb xc xd xe seq ret retN asg drop ifS next name var c op un CB cons nil ints test B exb not and or andV orV notV ifE yes I0 I U EqI NeI EqB NeB call BM tup lst sl noPart part exi chain comp iL iT i1 i2 i3 for tTru intB max2 min2 sub gcons gnil aug ipI zip rev par par2 lam calV raise fs try bseq bnext bplain bif bcall enum gget gin revL leS disp dget lrev disp1 din dnin dput min3 iS iD bm0 revS iD2 iLT thaw iD3 iDL dgt2 fs3 fs5 iDF maxD dictL iDG".splitOn " ").toArray.mapM λn =>
  let i := Lean.mkIdent (.mkSimple ("rd_" ++ n))
  if n == "var" || n == "aug" || n.startsWith "w" then `(tacticSeq| ((with_reducible apply $i); (exact rfl)))
  else if n == "I" then `(tacticSeq| ((with_reducible apply $i); (walk_at "cond")))
  else `(tacticSeq| with_reducible refine $i ?_)
 `(tactic| repeat (first $[| $ts]*|dsimp only))
local macro_rules|`(tactic|symm)=>`(tactic|refine rd_exb (aC ?_))
local macro_rules|`(tactic|exfalso)=>`(tactic|refine rd_exb (aI ?_))
local macro_rules|`(tactic|left)=>`(tactic|walk_at"")
local macro_rules|`(tactic|right)=>`(tactic|(refine aI ?_;walk_at""))
local macro_rules|`(tactic|nofun)=>`(tactic|(refine aC ?_;walk_at""))
def cx(H:Hp)(p:Vb)(kk:List (List Key)):Prop:=∃bs:List Vb,H p=Vn (.tup (bs.map V.ref))/\bs.length=kk.length/\∀(j:Nat) (b:Vb) (k:List Key),bs[j]?=Vn b->kk[j]?=Vn k->H b=Vn (.tup (k.map kV))
def cx.ext{kk:List (List Key)}(e:Ext H H')(h:cx H p kk):cx H' p kk:=by obtain⟨bs,h1,h2,a⟩:=h;exact⟨bs,e _ _ h1,h2,λj b k c d=>e _ _ (a j b k c d)⟩
structure Blt(mg:Vm->Option Va):Prop where
 len_:mg "len" = Vo
 isinstance_:mg "isinstance" = Vo
 tuple_:mg "tuple" = Vo
 list_:mg "list" = Vo
 int_:mg "int" = Vo
 bool_:mg "bool" = Vo
 range_:mg "range" = Vo
 zip_:mg "zip" = Vo
 max_:mg "max" = Vo
 min_:mg "min" = Vo
 abs_:mg "abs" = Vo
 all_:mg "all" = Vo
 enumerate_:mg "enumerate" = Vo
 set_:mg "set" = Vo
 str_:mg "str" = Vo
 reversed_:mg "reversed" = Vo
 any_:mg "any" = Vo
 dict_:mg "dict" = Vo
def mI:List (Key×V):=[(.inr "up",.int 1),(.inr "down",.int (-1)),(.inr "stay",.int 0),(.inr "zero",.int 0)]
def oN:List (Key×V):=[(.inr "up",.str "down"),(.inr "down",.str "up"),(.inr "stay",.str "stay"),(.inr "zero",.str "zero")]
abbrev Dq(K:E3)(mg:Vm->Option Va)(x:Vm)(st:Stmt):Prop:=∃(f:Vb) (fd:Vl),mg x=Vn (.ref f)/\Fun K x x st f fd
abbrev bd(x:Vm)(st:Stmt)(us:List Va)(r:List (Vm×Va)):Prop:=∀(kV doc pm:Va) (an:Option Vb) (cdv ct:Va),bindArgs (Hc x x (ip st) (eW st) (cM st) .none kV doc pm an cdv ct) ⟨us,[]⟩=pure r
def cH{K:E3}{mg:Vm->Option Va}{x:Vm}{st:Stmt}{b:Vm}(d:Dq K mg x st)(h:∀c,bd x st [c] [(b,c)]:=by(repeat intro _);rfl):Dfn K mg x st [b]:=let ⟨f,fd,a,F⟩:=d;⟨f,fd,a,F,F.binds λ_ _ _ _ _ _ us e=>match us,e with|[_],_=>h _ _ _ _ _ _ _⟩
def bZ{K:E3}{mg:Vm->Option Va}{x:Vm}{st:Stmt}{b c:Vm}(d:Dq K mg x st)(h:∀e g,bd x st [e,g] [(b,e),(c,g)]:=by(repeat intro _);rfl):Dfn K mg x st [b,c]:=let ⟨f,fd,a,F⟩:=d;⟨f,fd,a,F,F.binds λ_ _ _ _ _ _ us i=>match us,i with|[_,_],_=>h _ _ _ _ _ _ _ _⟩
def dX{K:E3}{mg:Vm->Option Va}{x:Vm}{st:Stmt}{b c p2:Vm}(d:Dq K mg x st)(h:∀e g i,bd x st [e,g,i] [(b,e),(c,g),(p2,i)]:=by(repeat intro _);rfl):Dfn K mg x st [b,c,p2]:=let ⟨f,fd,a,F⟩:=d;⟨f,fd,a,F,F.binds λ_ _ _ _ _ _ us j=>match us,j with|[_,_,_],_=>h _ _ _ _ _ _ _ _ _⟩
def lT{K:E3}{mg:Vm->Option Va}{x:Vm}{st:Stmt}{b c p2 e:Vm}(d:Dq K mg x st)(h:∀g i j l,bd x st [g,i,j,l] [(b,g),(c,i),(p2,j),(e,l)]:=by(repeat intro _);rfl):Dfn K mg x st [b,c,p2,e]:=let ⟨f,fd,a,F⟩:=d;⟨f,fd,a,F,F.binds λ_ _ _ _ _ _ us m=>match us,m with|[_,_,_,_],_=>h _ _ _ _ _ _ _ _ _ _⟩
structure Bu(w:Ve)(mg:Vm->Option Va)(base:Vh):Prop extends Blt mg where
 d__law_behind:Dq K mg "_law_behind" (stq 86)
 d__law_gone:Dq K mg "_law_gone" (stq 88)
 d__law_whole:Dq K mg "_law_whole" (stq 89)
 d__law_walk:Dq K mg "_law_walk" (stq 91)
 d__law_coming_back:Dq K mg "_law_coming_back" (stq 94)
 d__law_is:Dq K mg "_law_is" (stq 90)
 d__law_longest:Dq K mg "_law_longest" (stq 95)
 d__law_rising:Dq K mg "_law_rising" (stq 93)
 d__law_come:Dq K mg "_law_come" (stq 87)
 d__law_right:Dq K mg "_law_right" (stq 96)
 d_staying_part:Dq K mg "staying_part" (stq 72)
 d_places_ahead:Dq K mg "places_ahead" (stq 70)
 d_known_ranks:Dq K mg "known_ranks" (stq 71)
 d_raised_by:Dq K mg "raised_by" (stq 34)
 d_led_to:Dq K mg "led_to" (stq 35)
 d_is_open:Dq K mg "is_open" (stq 33)
 d_counts_by_room:Dq K mg "counts_by_room" (stq 58)
 d_steps_by_place:Dq K mg "steps_by_place" (stq 69)
 d_walk_back:Dq K mg "walk_back" (stq 61)
 d_greatest_met:Dq K mg "greatest_met" (stq 59)
 d_found_from:Dq K mg "found_from" (stq 60)
 d_sought_walk:Dq K mg "sought_walk" (stq 62)
 d_last_met:Dq K mg "last_met" (stq 64)
 d_can_go:Dq K mg "can_go" (stq 56)
 d_places_gone:Dq K mg "places_gone" (stq 57)
 d_rising_part:Dq K mg "rising_part" (stq 65)
 d_refuse_great_stair:Dq K mg "refuse_great_stair" (stq 14)
 d_is_whole:Dq K mg "is_whole" (stq 9)
 d_is_rising_row:Dq K mg "is_rising_row" (stq 10)
 d_are_stair_places:Dq K mg "are_stair_places" (stq 11)
 d_is_stair:Dq K mg "is_stair" (stq 12)
 d_refuse_no_stair:Dq K mg "refuse_no_stair" (stq 13)
 d_refuse_bad_stair:Dq K mg "refuse_bad_stair" (stq 15)
 d_holds:Dq K mg "holds" (stq 18)
 d_unbounded_goals:Dq K mg "unbounded_goals" (stq 66)
 d_least_step:Dq K mg "least_step" (stq 16)
 d_stair_of_marks:Dq K mg "stair_of_marks" (stq 17)
 d_stair_of_room:Dq K mg "stair_of_room" (stq 53)
 d_next_level:Dq K mg "next_level" (stq 51)
 d_reached:Dq K mg "reached" (stq 48)
 d_told_pairs:Dq K mg "told_pairs" (stq 39)
 d_add_arches:Dq K mg "add_arches" (stq 42)
 d_join_walks:Dq K mg "join_walks" (stq 41)
 d_ways_of_deed:Dq K mg "ways_of_deed" (stq 38)
 d_beginning_table:Dq K mg "beginning_table" (stq 40)
 d_kept_table:Dq K mg "kept_table" (stq 43)
 d_is_sign:Dq K mg "is_sign" (stq 27)
 d_is_deed:Dq K mg "is_deed" (stq 26)
 d_is_room:Dq K mg "is_room" (stq 25)
 d_is_way:Dq K mg "is_way" (stq 28)
 d_are_ways:Dq K mg "are_ways" (stq 29)
 d_is_house:Dq K mg "is_house" (stq 30)
 d_refuse_no_house:Dq K mg "refuse_no_house" (stq 31)
 d_kept:Dq K mg "kept" (stq 44)
 d_ways_by_room:Dq K mg "ways_by_room" (stq 47)
 d_led_to_from:Dq K mg "led_to_from" (stq 36)
 d_low_beside:Dq K mg "low_beside" (stq 49)
 d_low_levels:Dq K mg "low_levels" (stq 50)
 d_risen:Dq K mg "risen" (stq 45)
 d_all_levels:Dq K mg "all_levels" (stq 52)
 d_refuse_bad_places:Dq K mg "refuse_bad_places" (stq 32)
 d_forward:Dq K mg "forward" (stq 54)
 d_greatest:Dq K mg "greatest" (stq 67)
 d_fate:Dq K mg "fate" (stq 73)
 d__law_mixed:Dq K mg "_law_mixed" (stq 76)
 d__law_draws:Dq K mg "_law_draws" (stq 77)
 d__law_cell:Dq K mg "_law_cell" (stq 75)
 d__law_number:Dq K mg "_law_number" (stq 84)
 d__law_small:Dq K mg "_law_small" (stq 85)
 d__law_unlike:Dq K mg "_law_unlike" (stq 79)
 d__law_drawn_house:Dq K mg "_law_drawn_house" (stq 80)
 d__law_gate_house:Dq K mg "_law_gate_house" (stq 82)
 d__law_ring_house:Dq K mg "_law_ring_house" (stq 81)
 d__law_spare:Dq K mg "_law_spare" (stq 78)
 d__law_house:Dq K mg "_law_house" (stq 83)
 d__law_case:Dq K mg "_law_case" (stq 92)
 g_GREATEST_STEP:∃t,mg "GREATEST_STEP" = Vn (.int 840 t)
 g_GREATEST_BASE:∃t,mg "GREATEST_BASE" = Vn (.int 3000 t)
 g_GREATEST_WAYS:∃t,mg "GREATEST_WAYS" = Vn (.int 100 t)
 g_GREATEST_MANY:∃t,mg "GREATEST_MANY" = Vn (.int 12 t)
 g_GREATEST_NUMBER:∃t,mg "GREATEST_NUMBER" = Vn (.int 1000 t)
 h_RAISED:∃a,mg "RAISED" = Vn (.ref a)/\GDict w K a mI
 h_TURNED:∃a,mg "TURNED" = Vn (.ref a)/\GDict w K a oN
 b_kept:∃c T,Tab K mg base "kept" c T
 b_low_levels:∃c T,Tab K mg base "low_levels" c T
 b_risen:∃c T,Tab K mg base "risen" c T
def isInt:V->Bool
 | .int _=>true
 | _=>false
def AV{n:String}(h:ia H v n):∃b c,i8 n "int" = Vn b/\i8 n "bool" = Vn c/\(b && !c)=isInt v:=by
 cases v with
 | non=>cases(h);exact⟨_,_,rfl,rfl,rfl⟩
 | bl b=>cases(h);exact⟨_,_,rfl,rfl,rfl⟩
 | int i=>cases(h);exact⟨_,_,rfl,rfl,rfl⟩
 | str z=>cases(h);exact⟨_,_,rfl,rfl,rfl⟩
 | ref a=>rcases h with⟨rfl,xs,e⟩|⟨rfl,xs,e⟩<;>exact⟨_,_,rfl,rfl,rfl⟩
 | _=>exact GZ h
inductive xE(K:E3)(vs:List V)(H:Hp)(Q:VK)(E:XK):Prop|mk:∀v n,vs=[v]->ia H v n->Q (.bl (isInt v)) H->xE K vs H Q E
def jD(T:Bu w mg base):Cal P w K mg base "is_whole" 1 ["thing"] (xE K):=by
 refine(cH T.d_is_whole).oS ["thing"] λf nd H vs Q E h=>?_;obtain⟨v,n,rfl,a,q⟩:=h;obtain⟨b,c,hb,d,e⟩:=AV a;refine⟨_,(az (aK (cR (bq eM rfl T.isinstance_ GH (aw (pv 0) (aw (eO (v:=.ty "int") rfl T.int_ Kh rfl) aa))) (dG (tE (bq eM rfl T.isinstance_ GH (aw (pv 0) (aw (eO (v:=.ty "bool") rfl T.bool_ KP rfl) aa)))))))),?_⟩;left;refine eJ a hb ?_;left;cases b with
 | false=>refine aC ?_;rw[<-e]at q;exact q
 | true=>
  right;refine eJ a d ?_;left;rw[<-e]at q;exact q
structure Way where
 room:Int
 deed:Vm
 other:Int
 sign:Vm
 deriving DecidableEq
abbrev Way.key(w:Way):List Key:=[.inl w.room,.inr w.deed,.inl w.other,.inr w.sign]
abbrev Way.vs(w:Way):List V:=[.int w.room,.str w.deed,.int w.other,.str w.sign]
variable {m r T top U:Int}{ws us:List Way}{n d:Nat}{a c p q f th:Vb}{z y g h:Bfs.Pl}{H H2 H' H0 H1:Hp}{xs ys:List V}{v:V}{o:HO}{Q:VK}{cs:List (Vb×Obj)}{σ:St}{ts:List (Int×Int×Int)}{l qs R:List Bfs.Pl}{ks:List Nat}{rs as:List Vb}{M M':Nat->Nat->Bool}{kvs:List (List Key×V)}{zas:List (Bfs.Pl×Vb)}{A:Bfs.Pl->List Bfs.Pl}{Kn:List (Bfs.Pl×Nat)}{W0 W:Bfs.Pl->Nat}
def Way.key_inj{w u:Way}(h:w.key=u.key):w=u:=by cases w;cases u;obtain⟨rfl,rfl,rfl,rfl,_⟩:=h;rfl
def vc(z:Vm):Prop:=∃c:Nat,97<=c/\c<=122/\z=⟨#[c]⟩
def cJ(z:Vm):Prop:=z = "up"\/z = "down"\/z = "stay"\/z = "zero"
structure Way.Ok(m:Int)(w:Way):Prop where
 r0:0<=w.room
 r1:w.room<m
 o0:0<=w.other
 o1:w.other<m
 dd:cJ w.deed
 sg:vc w.sign
structure HOuse(m:Int)(ws:List Way):Prop where
 m1:1<=m
 m12:m<=12
 few:ws.length<=100
 ok:∀w∈ws,w.Ok m
 nd:ws.Nodup
def HOuse.keys(h:HOuse m ws):(ws.map Way.key).Nodup:=by have:=h.nd;unfold JG at this ⊢;rw[HG];exact this.imp λne e=>ne (Way.key_inj e)
def bt(H:Hp)(v:V)(m:Int)(ws:List Way):Prop:=∃p q,v=.ref p/\H p=Vn (.tup [.int m,.ref q])/\cx H q (ws.map Way.key)
theorem bt.ext{H H':Hp}{v:V}{m:Int}{ws:List Way}(e:Ext H H')(h:bt H v m ws):bt H' v m ws:=by obtain⟨p,q,rfl,h1,h2⟩:=h;exact⟨p,q,rfl,e _ _ h1,h2.ext e⟩
def iV(h:n<=1000):n<=sizeLine:=FI h (by decide)
inductive xZ(K:E3)(vs:List V)(H:Hp)(Q:VK)(E:XK):Prop|mk:∀i m,vs=[.int i,.int m]->0<=i->i<m->Q (.bl true) H->xZ K vs H Q E
def pO(T:Bu w mg base):Cal P w K mg base "is_room" 2 ["thing","many"] (xZ K):=by refine(bZ T.d_is_room).oS ["thing","many"] λa nd H vs Q E h=>?_;obtain⟨i,m,rfl,b,h1,q⟩:=h;refine⟨_,(az (aK (cR (aG (jD T) a (aw (pv 0) aa)) (dG (lr g8 fm ae (pv 0) (pv 1)))))),?_⟩;left;refine⟨_,"int",rfl,rfl,?_⟩;refine rd_exb ?_;right;rw[F4 b];right;rw[F4 h1];exact q
def CW{K:E3}{b c d e f g i j:Tok}(h:K.lookup a=Vn (jc w [("up",b,.str "down" c),("down",d,.str "up" e),("stay",f,.str "stay" g),("zero",i,.str "zero" j)] ep))(hs:(a == sysModules)=false):GDict w K a oN:=
 ⟨⟨_,_,h,.cons ⟨rfl,⟨_,rfl⟩⟩ (.cons ⟨rfl,⟨_,rfl⟩⟩ (.cons ⟨rfl,⟨_,rfl⟩⟩ (.cons ⟨rfl,⟨_,rfl⟩⟩ .nil)))⟩,by decide +kernel,hs⟩
def zM(z:Vm):Vm:=if z = "up" then "down" else if z = "down" then "up" else z
def CA{z:Vm}(h:cJ z):a7 oN (.inr z)=Vn (.str (zM z)):=by rcases h with rfl|rfl|rfl|rfl<;>decide +kernel
inductive wy(K:E3)(vs:List V)(H:Hp)(Q:VK)(E:XK):Prop|mk:∀z,vs=[.str z]->cJ z->Q (.bl true) H->wy K vs H Q E
def yR(T:Bu w mg base):Cal P w K mg base "is_deed" 1 ["thing"] (wy K):=by obtain⟨d,a,c⟩:=T.h_TURNED;refine(cH T.d_is_deed).oS ["thing"] λf nd H vs Q E h=>?_;obtain⟨z,rfl,e,q⟩:=h;refine⟨_,(az (aK (cR (bq eM rfl T.isinstance_ GH (aw (pv 0) (aw (eO (v:=.ty "str") rfl T.str_ Ki rfl) aa))) (dG (yO (B7 rfl a c (pv 0)) (by with_unfolding_all rfl)))))),?_⟩;left;refine eJ rfl rfl ?_;left;right;refine⟨.inr z,rfl,?_⟩;rw[CA e];exact q
def ES{c:Nat}(h:97<=c):(!decide (([c]:List Nat)<(FP "a").cps.toList))=true:=by
 have e:(FP "a").cps.toList=[97]:=by decide +kernel
 rw[e,F3 (λz=>by
  rw[Kj]at z;rcases z with z|⟨_,z⟩
  .omega
  .cases z)]
 rfl
def Di{c:Nat}(h:c<=122):(!decide ((FP "z").cps.toList<([c]:List Nat)))=true:=by
 have e:(FP "z").cps.toList=[122]:=by decide +kernel
 rw[e,F3 (λz=>by
  rw[Kj]at z;rcases z with z|⟨_,z⟩
  .omega
  .cases z)]
 rfl
inductive rg(K:E3)(vs:List V)(H:Hp)(Q:VK)(E:XK):Prop|mk:∀z,vs=[.str z]->vc z->Q (.bl true) H->rg K vs H Q E
def yq(T:Bu w mg base):Cal P w K mg base "is_sign" 1 ["thing"] (rg K):=by refine(cH T.d_is_sign).oS ["thing"] λe nd H vs Q E h=>?_;obtain⟨z,rfl,⟨c,a,d,rfl⟩,q⟩:=h;refine⟨_,(az (aK (cR (bq eM rfl T.isinstance_ GH (aw (pv 0) (aw (eO (v:=.ty "str") rfl T.str_ Ki rfl) aa))) (cR (c6 bG (bq CI rfl T.len_ GI (aw (pv 0) aa)) ae (aR _)) (dG (lr vE vE a8 (pv 0) a8)))))),?_⟩;left;refine eJ rfl rfl ?_;left;right;refine⟨_,rfl,iV (show 1<=1000 by decide),?_⟩;left;right;rw[ES a];right;rw[Di d];exact q
def my(h:H p=Vn (.tup xs)):ia H (.ref p) "tuple":=.inr ⟨rfl,xs,h⟩
inductive tL(K:E3)(vs:List V)(H:Hp)(Q:VK)(E:XK):Prop|mk:∀p w m,vs=[.ref p,.int m]->H p=Vn (.tup (Way.vs w))->w.Ok m->Q (.bl true) H->tL K vs H Q E
def Dm(T:Bu w mg base):Cal P w K mg base "is_way" 3 ["thing","many"] (tL K):=by
 refine(bZ T.d_is_way).oS ["thing","many"] λc nd H vs Q E h=>?_;obtain⟨p,w,m,rfl,a,ok,q⟩:=h;refine⟨_,(av (bB (PW.pt (cY (cI (bT (bq eM rfl T.isinstance_ GH (aw (pv 0) (aw (eO (v:=.ty "tuple") rfl T.tuple_ Ga rfl) aa))))) (eL (aT iR (bq (cn K) rfl T.len_ GI (aw (pv 0) aa)) ae (aR _))))) (az (aK b8)) aV)
   (av (bB (PW.pt (cY (cI (bT (aG (pO T) c (aw (ax (aD K) (pv 0) ae (λ_ _=>rfl)) (aw (pv 1) aa))))) (eL (cI (bT (aG (pO T) c (aw (ax (aD K) (pv 0) ae (λ_ _=>rfl)) (aw (pv 1) aa)))))))) (az (aK b8)) aV)
   (az (aK (cR (aG (yR T) c (aw (ax (aD K) (pv 0) ae (λ_ _=>rfl)) aa)) (dG (aG (yq T) c (aw (ax (aD K) (pv 0) ae (λ_ _=>rfl)) aa)))))))),?_⟩
 left;refine eJ (my a) (b:=true) rfl ?_;left;nofun;refine f9 (ay.of a) ?_;left;nofun;refine aE (ay.of a) (v:=.int w.room) rfl ?_;left;refine⟨_,_,rfl,ok.r0,ok.r1,?_⟩;left;nofun;refine aE (ay.of a) (v:=.int w.other) rfl ?_;left;refine⟨_,_,rfl,ok.o0,ok.o1,?_⟩;left;nofun;refine aE (ay.of a) (v:=.str w.deed) rfl ?_;left;refine⟨_,rfl,ok.dd,?_⟩;left;right;refine aE (ay.of a) (v:=.str w.sign) rfl ?_;left;exact⟨_,rfl,ok.sg,q⟩
def cx.item{bs:List Vb}(h:∀(j:Nat) b k,bs[j]?=Vn b->(ws.map Way.key)[j]?=Vn k->H b=Vn (.tup (k.map kV))){j:Nat}{w:Way}(a:bs[j]?=Vn b)(c:ws[j]?=Vn w):H b=Vn (.tup w.vs):=
 h j b w.key a (by rw[E9,c];rfl)
inductive xU(K:E3)(vs:List V)(H:Hp)(Q:VK)(E:XK):Prop|mk:∀q ws m,vs=[.ref q,.int m]->cx H q (ws.map Way.key)->HOuse m ws->(∀H',Ext H H'->Q (.bl true) H')->xU K vs H Q E
theorem zZ(T:Bu w mg base):Cal P w K mg base "are_ways" 4 ["thing","many"] (xU K):=by
 obtain⟨c,a⟩:=T.g_GREATEST_WAYS;refine(bZ T.d_are_ways).oS ["thing","many"] λg nd H vs Q E h=>?_;obtain⟨q,ws,m,rfl,j,ok,s⟩:=h;obtain⟨bs,h1,h2,u⟩:=id j;rw[E7]at h2;have n:=ok.few;refine⟨_,(av (bB (PW.pt (cY (cI (bT (bq eM rfl T.isinstance_ GH (aw (pv 0) (aw (eO (v:=.ty "tuple") rfl T.tuple_ Ga rfl) aa))))) (eL (aT fF (bq (cn K) rfl T.len_ GI (aw (pv 0) aa)) (kq (v:=.int 100) rfl a ⟨_,rfl⟩) (aR _))))) (az (aK b8)) aV)
   (az (aK (cR (bq (wJ K rfl) rfl T.all_ Kk (aw (cK ["way"] [1] (jF K (pv 0)) (λ_=>(aO (i:=0) (show(["way","many"]:List Vm).Nodup from by decide +kernel) rfl oi oj)) (λ_=>dm) (λ_=>(aG (Dm T) g (aw (pv 0) (aw (pv 1) aa))))) aa)) (dG (c6 bG (bq Og.call_lenSet rfl T.len_ GI (aw (jo (Og.call_setT g) rfl T.set_ PyProof.Rows.boot_set (aw (pv 0) aa)) aa)) (bq (cn K) rfl T.len_ GI (aw (pv 0) aa)) (aR _))))))),?_⟩
 left;refine eJ (my h1) (b:=true) rfl ?_;left;nofun;refine f9 (ay.of h1) ?_;left;rw[F3 (show ¬((100:Int)<((bs.map V.ref).length:Nat)) by rw[E7];lia)];nofun;refine jU (ay.of h1) ?_;refine vS (xs:=bs.map V.ref) (λi ys H'=>Ext H H'/\ys=(FU i true).map V.bl) (iV (by rw[E7];lia)) ⟨λ_ _ z=>z,rfl⟩ (λi ys H' hi h=>⟨ay.of (h.1 _ _ h1),by rw[h.2];simp⟩) ?_ ?_
 .rintro i x ys H' o ⟨e,rfl⟩;rw[E9]at o;obtain⟨b,hb,rfl⟩:=Fj.mp o;have hi:i<ws.length:=by rw[<-h2];exact(Fg.mp hb).1
  have d:ws[i]?=Vn ws[i]:=E8 hi;left;right;refine⟨b,ws[i],m,rfl,e _ _ (cx.item u hb d),ok.ok _ (FA hi),e,?_⟩;rw[Hq,Fq];rfl
 .rintro ys H' p ⟨e,rfl⟩ y;left;have f:Ext H (upd H' p (.lst ((FU (bs.map V.ref).length true).map V.bl))):=e.trans (aY y);refine⟨p,FU (bs.map V.ref).length true,rfl,ag.of aF,?_⟩;rw[show (FU (bs.map V.ref).length true).all id=true by simp];left;right;refine Og.rd_setOf (j.ext f) ok.keys (by rw[E7];lia) λl H2 r A=>?_;left;refine Og.rd_lenSet A (by rw[E7];lia) ?_;left;refine f9 (ay.of ((f.trans r) _ _ h1)) ?_;left;rw[show decide (((((ws.map Way.key).length:Nat):Int))=((bs.map V.ref).length:Nat))=true by rw[E7,E7,h2];simp];exact s _ (f.trans r)
inductive tm(K:E3)(vs:List V)(H:Hp)(Q:VK)(E:XK):Prop|mk:∀v m ws,vs=[v]->bt H v m ws->HOuse m ws->(∀H',Ext H H'->Q (.bl true) H')->tm K vs H Q E
def Cz(T:Bu w mg base):Cal P w K mg base "is_house" 5 ["thing"] (tm K):=by
 obtain⟨c,a⟩:=T.g_GREATEST_MANY;refine(cH T.d_is_house).oS ["thing"] λd nd H vs Q E h=>?_;obtain⟨v,m,ws,rfl,⟨p,r,rfl,h1,h2⟩,ok,q⟩:=h;have m1:=ok.m1;have e:=ok.m12;refine⟨_,(av (bB (PW.pt (cY (cI (bT (bq eM rfl T.isinstance_ GH (aw (pv 0) (aw (eO (v:=.ty "tuple") rfl T.tuple_ Ga rfl) aa))))) (eL (aT iR (bq (cn K) rfl T.len_ GI (aw (pv 0) aa)) ae (aR _))))) (az (aK b8)) aV)
   (az (aK (cR (aG (jD T) d (aw (ax (aD K) (pv 0) ae (λ_ _=>rfl)) aa)) (cR (lr g8 g8 ae (ax (aD K) (pv 0) ae (λ_ _=>rfl)) (kq (v:=.int 12) rfl a ⟨_,rfl⟩)) (dG (aG (zZ T) d (aw (ax (aD K) (pv 0) ae (λ_ _=>rfl)) (aw (ax (aD K) (pv 0) ae (λ_ _=>rfl)) aa))))))))),?_⟩
 left;refine eJ (my h1) (b:=true) rfl ?_;left;nofun;refine f9 (ay.of h1) ?_;left;nofun;refine aE (ay.of h1) (v:=.int m) rfl ?_;left;refine⟨_,"int",rfl,rfl,?_⟩;exfalso;left;refine aE (ay.of h1) (v:=.int m) rfl ?_;left;rw[F4 m1];right;rw[F4 e];right;refine aE (ay.of h1) (v:=.ref r) rfl ?_;left;refine aE (ay.of h1) (v:=.int m) rfl ?_;left;exact⟨r,ws,m,rfl,h2,ok,q⟩
inductive qw(K:E3)(vs:List V)(H:Hp)(Q:VK)(E:XK):Prop|mk:∀v m ws,vs=[v]->bt H v m ws->HOuse m ws->(∀H',Ext H H'->Q .non H')->qw K vs H Q E
def pP(T:Bu w mg base):Cal P w K mg base "refuse_no_house" 6 ["thing"] (qw K):=by refine(cH T.d_refuse_no_house).oS ["thing"] λa nd H vs Q E h=>?_;obtain⟨v,m,ws,rfl,h1,ok,q⟩:=h;refine⟨_,(az (bB (cI (bT (aG (Cz T) a (aw (pv 0) aa)))) (az jb) aV)),?_⟩;left;refine⟨v,m,ws,rfl,h1,ok,λH' e=>?_⟩;symm;left;exact q H' e
def AX{xs:List Int}{i:Nat}(h:(xs.map V.int)[i]?=Vn v):∃x,v=.int x/\xs[i]?=Vn x:=by
 rw[E9]at h;cases e:xs[i]? with
 | none=>rw[e]at h;cases h
 | some x=>rw[e]at h;exact⟨x,(FQ h).symm,rfl⟩
def b7(h:n<=1000000):n<=sizeLine:=FI h (by decide)
def aS(h:∀p H',Ext H H'->H' p=Vn o->H p=Vo->Q (.ref p) H')(a:xs.length<=1000000:=by simp):xs.length<=sizeLine/\fB H o Q:=⟨b7 a,cE h⟩
inductive uT(K:E3)(vs:List V)(H:Hp)(Q:VK)(E:XK):Prop|mk:∀(a:Vb) (ns:List Int) (k:Int),vs=[.ref a,.int k]->ag K H a (ns.map V.int)->ns.length<=63->0<=k->(∀z,Q (.int z) H)->uT K vs H Q E
theorem rj{ns:List Int}{i:Int}(h0:0<=i)(h:i<ns.length):∃z,b9 (ns.map V.int) i=Vn (.int z)/\ns[i.toNat]?=Vn z:=by
 have hi:i.toNat<ns.length:=by lia
 refine⟨ns[i.toNat],eQ h0 ?_,E8 hi⟩;rw[E9,E8 hi];rfl
theorem mF(T:Bu w mg base):Cal P w K mg base "_law_cell" 1 ["_law_script","_law_k"] (uT K):=by
 refine(bZ T.d__law_cell).oS ["_law_script","_law_k"] λf nd H vs Q E h=>?_;obtain⟨a,ns,k,rfl,ha,g,e,q⟩:=h;refine⟨_,(av (bB (aT bG (bq (cn K) rfl T.len_ GI (aw (pv 0) aa)) ae (aR _)) (az (aK (aJ fW ae (aJ bx (pv 1) ae)))) aV)
   (av (bB (aT fm (pv 1) (bq (cn K) rfl T.len_ GI (aw (pv 0) aa)) (aR _)) (az (aK (ax (aQ K) (pv 0) (pv 1) (λ_ _=>rfl)))) aV)
   (az (aK (aJ bx (ax (aQ K) (pv 0) (aJ c8 (pv 1) (bq (cn K) rfl T.len_ GI (aw (pv 0) aa))) (λ_ _=>rfl)) (aJ fW ae (pv 1))))))),?_⟩
 left;refine dE ha ?_;left;rw[E7];by_cases c:(ns.length:Int)=0
 .rw[F4 c];right;exact q _
 .rw[F3 c];nofun;refine dE ha ?_;left;rw[E7];by_cases h1:k<ns.length
  .rw[F4 h1];refine aI ?_;obtain⟨z,b,_⟩:=rj e h1;left;refine aP ha b ?_;exact q _
  .rw[F3 h1];nofun;refine dE ha ?_;rw[E7];have d:(0:Int)<ns.length:=by lia
   refine rd_I d ?_;obtain⟨z,b,_⟩:=rj (ns:=ns) (Ge k (by lia)) (GU k d);refine aP ha b ?_;left;exact q _
inductive yh(K:E3)(vs:List V)(H:Hp)(Q:VK)(E:XK):Prop|mk:∀c k p,vs=[.int c,.int k,.int p]->0<=k->k<100000->0<p->(∀z,0<=z->z<p->Q (.int z) H)->yh K vs H Q E
def Dr(T:Bu w mg base):Cal P w K mg base "_law_mixed" 1 ["_law_cell_here","_law_k","_law_prime"] (yh K):=by
 refine(dX T.d__law_mixed).oS ["_law_cell_here","_law_k","_law_prime","_law_far"] λd nd H vs Q E h=>?_;obtain⟨c,k,p,rfl,e,a,b,q⟩:=h;refine⟨_,(av (aH (i:=3) nd rfl oi (aJ c8 (aJ fW (aJ bx (aJ bx (aJ bx (pv 0) (aJ fW (aJ fW ae (pv 1)) (pv 1))) (aJ fW ae (pv 1))) ae) ae) ae))
   (av (aH (i:=3) nd rfl oi (aJ c8 (aJ fW (pv 3) (pv 3)) ae))
   (az (aK (aJ c8 (aJ fW (pv 3) ae) (pv 2)))))),?_⟩
 left;exact q _ (Ge _ (by omega)) (GU _ b)
def bM(e:Ext H H2)(a:H q=Vo):Ext H (upd H2 q o):=λb u hb=>by rw[aB (cG hb a)];exact e b u hb
inductive mr(K:E3)(vs:List V)(H:Hp)(Q:VK)(E:XK):Prop|mk:∀(c:Int) (w:Vb) (ws:List Int) (p:Int),vs=[.int c,.ref w,.int p]->H w=Vn (.lst (ws.map V.int))->(∀x∈ws,0<x/\x<2 ^ 40)->ws.length<=10000->0<p->(∀(q:Vb) (ds:List Int) (H':Hp),Ext H H'->H' q=Vn (.lst (ds.map V.int))->H q=Vo->ds.length=ws.length->(∀(i:Nat) d x,ds[i]?=Vn d->ws[i]?=Vn x->0<=d/\d<x)->Q (.ref q) H')->mr K vs H Q E
def kI{K:E3}{c:Int}{w:Vb}{p:Int}(ws:List Int)(h1:H w=Vn (.lst (ws.map V.int)))(h2:∀x∈ws,0<x/\x<2 ^ 40)(a:ws.length<=10000)(b:0<p)
  (k:∀q (ds:List Int) H',Ext H H'->H' q=Vn (.lst (ds.map V.int))->H q=Vo->ds.length=ws.length->(∀(i:Nat) d x,ds[i]?=Vn d->ws[i]?=Vn x->0<=d/\d<x)->Q (.ref q) H'):mr K [.int c,.ref w,.int p] H Q xe:=⟨c,w,ws,p,rfl,h1,h2,a,b,k⟩
theorem iI(T:Bu w mg base):Cal P w K mg base "_law_draws" 2 ["_law_cell_here","_law_widths","_law_prime"] (mr K):=by
 refine(dX T.d__law_draws).oS ["_law_cell_here","_law_widths","_law_prime","_law_left","_law_found","_law_k"] λA nd H vs Q E h=>?_;obtain⟨c,w,ws,p,rfl,s,n,hlen,B,q⟩:=h;refine⟨_,(av (aH (i:=3) nd rfl oi ae)
   (av (cL (aT j6 (pv 0) (aJ jR ae ae) (aR _)) (az (aH (i:=3) nd rfl oi (aJ dR (pv 0) (aJ jR ae ae)))) aV)
   (av (aH (i:=4) nd rfl oi (bI aa))
   (av (bJ F8 rfl (dv rfl T.range_ (aw (bq (cn K) rfl T.len_ GI (aw (pv 1) aa)) aa)) (aO (i:=5) nd rfl oi) (az (cL (aT fF (pv 3) ae (aR _)) (av (bA (bO K Ff Fv Fw bV (pv 4) (aw (aJ c8 (pv 3) (ax (aQ K) (pv 1) (pv 5) (λ_ _=>rfl))) aa)))
   (az (aH (i:=3) nd rfl oi (aJ yk (pv 3) (ax (aQ K) (pv 1) (pv 5) (λ_ _=>rfl)))))) (az (bA (bO K Ff Fv Fw bV (pv 4) (aw (aJ c8 (aG (Dr T) A (aw (pv 0) (aw (pv 5) (aw (pv 2) aa)))) (ax (aQ K) (pv 1) (pv 5) (λ_ _=>rfl))) aa)))))))
   (az (aK (pv 4))))))),?_⟩
 left;refine iE (λo H'=>H'=H/\∃l,o=[Vn (.int c),Vn (.ref w),Vn (.int p),Vn (.int l),Vo,Vo]) ?_ ?_
 .left;refine gH (λh=>?_) (λh=>?_)
  .left;exact⟨rfl,_,rfl⟩
  .left;exact⟨rfl,_,rfl⟩
 rintro o H' ⟨rfl,l,rfl⟩;left;refine aS λf H1 y C hfn=>?_;left;refine dE (ag.of (y _ _ s)) ?_;rw[E7];left;refine dz (by lia) ?_;refine forR (λi σ H2=>Ext H' H2/\∃(l:Int) (k:Option V) (ds:List Int),σ=[Vn (.int c),Vn (.ref w),Vn (.int p),Vn (.int l),Vn (.ref f),k]/\H2 f=Vn (.lst (ds.map V.int))/\ds.length=i/\∀(i:Nat) d x,ds[i]?=Vn d->ws[i]?=Vn x->0<=d/\d<x)
  ⟨y,l,Vo,[],rfl,C,rfl,λi d x hd=>by simp at hd⟩ ?_ ?_
 .rintro i σ H2 hi ⟨b,l,k,ds,rfl,a,hds,hb⟩;rw[Fl]at hi;have r:ws[i]?=Vn ws[i]:=E8 hi;have J:=n ws[i] (FA hi);have hat:b9 (ws.map V.int) (0+(i:Int))=Vn (.int ws[i]):=by rw[Int.zero_add];exact cN (by rw[E9,r];rfl)
  have next:∀d,0<=d->d<ws[i]->∀(j:Nat) (m x:Int),(ds++[d])[j]?=Vn m->ws[j]?=Vn x->0<=m/\m<x:=λd F h1 j m x e g=>by
   rcases FW j ds.length with h|h
   .rw[Fz h]at e;exact hb j m x e g
   .rw[Fy h]at e;have u:j-ds.length=0:=by
     rcases Nat.eq_zero_or_pos (j-ds.length)with h|h
     .exact h
     .rw[Gb (by simp;lia)]at e;cases e
    rw[u]at e;have v:j=i:=by lia
    subst v;rw[r]at g;cases g;have:d=m:=by simpa using e
    rw[<-this];exact⟨F,h1⟩
  left;refine cC ?_;left;refine gH (λh=>?_) (λh=>?_)
  .have h':1<l:=by simpa using h
   left;refine⟨cg (ag.of a),?_⟩;left;refine aP (ag.of (b _ _ s)) hat ?_;refine rd_I (show 0<ws[i] by lia) ?_;left;refine bR a (by rw[E7];exact Gv (show ds.length<=10000 by lia) (by decide)) ?_;left;refine aP (ag.of (bM b hfn _ _ s)) hat ?_;refine rd_I (show 0<ws[i]/\ws[i]<2 ^ 64 by lia) ?_;left;refine⟨bM b hfn,_,_,ds++[l % ws[i]],rfl,?_,by rw[Fs,hds];rfl,next _ (Ge _ (by lia)) (GU _ (by lia))⟩;rw[aF,Fq];rfl
  .left;refine⟨cg (ag.of a),?_⟩;left;refine⟨c,0+(i:Int),p,rfl,by lia,by lia,B,λz G I=>?_⟩;left;refine aP (ag.of (b _ _ s)) hat ?_;refine rd_I (show 0<ws[i] by lia) ?_;left;refine bR a (by rw[E7];exact Gv (show ds.length<=10000 by lia) (by decide)) ?_;left;refine⟨bM b hfn,_,_,ds++[z % ws[i]],rfl,?_,by rw[Fs,hds];rfl,next _ (Ge _ (by lia)) (GU _ (by lia))⟩;rw[aF,Fq];rfl
 .rintro σ H2 ⟨b,l,k,ds,rfl,a,hds,hb⟩;left;exact q f ds H2 b a hfn (by rw[hds,Fl]) hb
inductive qH(K:E3)(vs:List V)(H:Hp)(Q:VK)(E:XK):Prop|mk:∀c w,vs=[.int c,.int w]->0<w->w<2 ^ 64->(∀z,Q (.int z) H)->qH K vs H Q E
def Ba(T:Bu w mg base):Cal P w K mg base "_law_spare" 1 ["_law_cell_here","_law_width"] (qH K):=by
 refine(bZ T.d__law_spare).oS ["_law_cell_here","_law_width"] λa nd H vs Q E h=>?_;obtain⟨c,w,rfl,h1,h2,q⟩:=h;refine⟨_,(av (bB (aT j6 (pv 0) (aJ jR ae ae) (aR _)) (az (aK (aJ bx (aJ yk (aJ dR (pv 0) (aJ jR ae ae)) (pv 1)) (aJ jR ae ae)))) aV)
   (az (aK (aJ bx (pv 0) ae)))),?_⟩
 left;refine gH (λh=>?_) (λh=>?_)
 .left;exact q _
 .left;exact q _
def bh(H:Hp)(bs:List Vb)(ws:List Way):Prop:=bs.length=ws.length/\∀(j:Nat) (b:Vb) (w:Way),bs[j]?=Vn b->ws[j]?=Vn w->H b=Vn (.tup w.vs)
def bh.ext(e:Ext H H')(h:bh H bs ws):bh H' bs ws:=⟨h.1,λj b w a c=>e _ _ (h.2 j b w a c)⟩
def bh.put(a:H f=Vn (.lst xs))(h:bh H bs ws):bh (upd H f (.lst ys)) bs ws:=⟨h.1,λj b w c d=>by have:=h.2 j b w c d;rw[aB (bp this a (by intro z;cases z))];exact this⟩
def bh.nil(H):bh H [] []:=⟨rfl,λj b w e=>by simp at e⟩
def bh.snoc{H}{bs}{ws}{b}{w}(h:bh H bs ws)(hb:H b=Vn (.tup w.vs)):bh H (bs++[b]) (ws++[w]):=by
 refine⟨by simp[h.1],λj f g a c=>?_⟩;rcases FW j bs.length with d|d
 .rw[Fz d]at a;rw[Fz (by rw[<-h.1];exact d)]at c;exact h.2 j f g a c
 .rw[Fy d]at a;rw[Fy (by rw[<-h.1];exact d),<-h.1]at c;cases e:j-bs.length with
  | zero=>
   rw[e]at a c;cases a;cases c;exact hb
  | succ k=>rw[e]at a;simp at a
def bh.ways(h:bh H bs ws)(c:H p=Vn (.tup (bs.map V.ref))):cx H p (ws.map Way.key):=
 ⟨bs,c,by rw[E7];exact h.1,λj b k d a=>by rw[E9]at a;obtain⟨w,e,rfl⟩:=Fj.mp a;exact h.2 j b w d e⟩
def cx.al(h:cx H p (ws.map Way.key)):∃bs,H p=Vn (.tup (bs.map V.ref))/\bh H bs ws:=by obtain⟨bs,h1,h2,a⟩:=h;rw[E7]at h2;exact⟨bs,h1,h2,λj b w c d=>cx.item a c d⟩
abbrev Way.D(w:Way):PyData:=.tuple [.int w.room,.str w.deed,.int w.other,.str w.sign]
structure Way.Lay(w:Way):Prop where
 d:(PyData.str w.deed).canLay0=true
 s:(PyData.str w.sign).canLay0=true
def Dt:∀c:Fin 123,97<=c.1->(PyData.str ⟨#[c.1]⟩).canLay0=true:=by decide +kernel
def Way.Ok.lay{w:Way}(h:w.Ok m):w.Lay:=by
 constructor
 .rcases h.dd with e|e|e|e<;>rw[e]<;>decide +kernel
 .obtain⟨c,h1,h2,e⟩:=h.sg;rw[e];exact Dt ⟨c,Nat.lt_succ_of_le h2⟩ h1
def Way.rep{w:Way}(h:H b=Vn (.tup w.vs))(l:w.Lay):bD H 1 (.ref b) w.D:=
 .inr ⟨b,w.vs,_,rfl,.inl ⟨h,rfl⟩,.cons rfl (.cons ⟨rfl,l.d⟩ (.cons rfl (.cons ⟨rfl,l.s⟩ .nil)))⟩
theorem Way.eqv(w u:Way):Gw w.D u.D=decide (w=u):=by
 simp only[Gw,JH];by_cases h:w=u
 .subst h;simp
 .rw[F3 h];obtain⟨a,b,c,d⟩:=w;obtain⟨f,g,c',i⟩:=u;simp only[Way.mk.injEq,not_and]at h;simp only[Bool.and_true,Bool.and_eq_false_iff,beq_eq_false_iff_ne];by_cases h1:a=f
  .by_cases h2:b=g
   .by_cases e:c=c'
    .exact .inr (.inr (.inr (h h1 h2 e)))
    .exact .inr (.inr (.inl e))
   .exact .inr (.inl h2)
  .exact .inl h1
theorem bh.reps{H:Hp}:∀{bs:List Vb} {ws:List Way},bh H bs ws->(∀w∈ws,w.Lay)->Paired (bD H 1) (bs.map V.ref) (ws.map Way.D)
 | [],[],_,_=>.nil
 | [],_::_,h,_=>by cases h.1
 | _::_,[],h,_=>by cases h.1
 | b::bs,w::ws,h,l=>.cons (Way.rep (h.2 0 b w rfl rfl) (l w Fe)) (bh.reps ⟨Nat.succ.inj h.1,λj b w a c=>h.2 (j+1) b w a c⟩ λu d=>l u (Fb _ d))
def yJ(ws:List Way)(w):((ws.map Way.D).any λe=>Gw e w.D)=decide (w∈ws):=by
 rw[Jc];induction ws with
 | nil=>rfl
 | cons u ws a=>
  rw[Ib,a,K2,Way.eqv];by_cases h:w∈ws
  .simp[h]
  .by_cases e:u=w
   .simp[e]
   .have:¬w=u:=λz=>e z.symm;simp[h,e,this]
inductive rh(K:E3)(vs:List V)(H:Hp)(Q:VK)(E:XK):Prop|mk:∀l bs ws,vs=[.ref l]->H l=Vn (.lst (bs.map V.ref))->bh H bs ws->(∀w∈ws,Way.Lay w)->ws.length<=200->(∀q H' us,Ext H H'->cx H' q (A0 Way.key us)->us.Nodup->(∀u∈us,u∈ws)->us.length<=ws.length->Q (.ref q) H')->rh K vs H Q E
theorem pQ(T:Bu w mg base):Cal P w K mg base "_law_unlike" 1 ["_law_ways"] (rh K):=by
 refine(cH T.d__law_unlike).oS ["_law_ways","_law_found","_law_way"] λC nd H vs Q E h=>?_;obtain⟨l,bs,ws,rfl,v,al,lay,hlen,q⟩:=h;refine⟨_,(av (aH (i:=1) nd rfl oi (bI aa))
   (av (bJ F8 rfl (bP K (pv 0)) (aO (i:=2) nd rfl oi) (az (cL (aT (sS C) (pv 2) (pv 1) (by with_unfolding_all rfl)) (az (bA (bO K Ff Fv Fw bV (pv 1) (aw (pv 2) aa)))) aV)))
   (az (aK (jo (mf K) rfl T.tuple_ Ga (aw (pv 1) aa)))))),?_⟩
 left;refine aS λf H1 y F hfn=>?_;left;refine bQ (ag.of (y _ _ v)) ?_;refine forL (λi σ H2=>Ext H H2/\∃(k:Option V) (cs:List Vb) (us:List Way),σ=[Vn (.ref l),Vn (.ref f),k]/\H2 f=Vn (.lst (cs.map V.ref))/\bh H2 cs us/\us.Nodup/\(∀u∈us,u∈ws)/\us.length<=i)
  ⟨y,Vo,[],[],rfl,F,bh.nil _,Gq,λu j=>by simp at j,Fu _⟩ (λi σ H2 _ h=>ag.of (h.1 _ _ v)) ?_ ?_
 .rintro i x σ H2 A ⟨o,k,cs,us,rfl,d,e,m,sub2,g⟩;rw[E9]at A;obtain⟨b,hb,rfl⟩:=Fj.mp A;have hi:i<ws.length:=by rw[<-al.1];exact(Fg.mp hb).1
  have r:ws[i]?=Vn ws[i]:=E8 hi;have n:=o _ _ (al.2 i b _ hb r);left;refine cC ?_;left;refine yf (Way.rep n (lay _ (FA hi))) d (e.reps λu j=>lay u (sub2 u j)) (by decide) ?_;simp only[if_true,yJ];refine rd_exb ?_;by_cases s:ws[i]∈us
  .rw[F4 s];nofun;exact⟨o,_,cs,us,rfl,d,e,m,sub2,by lia⟩
  .rw[F3 s];right;refine⟨cg (ag.of d),?_⟩;left;refine bR d (by rw[E7,e.1];exact Gv (show us.length<=1000 by lia) (by decide)) ?_;left;refine⟨bM o hfn,_,cs++[b],us++[ws[i]],rfl,by rw[aF,Fq];rfl,(e.put d).snoc ?_,?_,?_,by simp;lia⟩
   .rw[aB (bp n d (by intro z;cases z))];exact n
   .rw[GD];exact⟨m,by simp,λa ha c G=>by rw[Fi.mp G];exact λz=>s (z ▸ ha)⟩
   .intro u j;rcases Fx.mp j with j|j
    .exact sub2 u j
    .rw[Fi.mp j];exact FA hi
 .rintro σ H2 ⟨o,k,cs,us,rfl,d,e,m,sub2,g⟩;left;refine lV (ag.of d) (cE λp I B J _=>?_);exact q p I us (o.trans B) ((e.ext B).ways J) m sub2 (by rw[E7,al.1]at g;exact g)
def lW(z:Vm):Prop:=∃c:Nat,97<=c/\c<=99/\z=⟨#[c]⟩
structure Way.Ok3(m:Int)(w:Way):Prop where
 r0:0<=w.room
 r1:w.room<m
 o0:0<=w.other
 o1:w.other<m
 dd:cJ w.deed
 sg:lW w.sign
structure HOuse3(m:Int)(ws:List Way):Prop where
 m1:1<=m
 m12:m<=12
 few:ws.length<=100
 ok:∀w∈ws,w.Ok3 m
 nd:ws.Nodup
theorem Way.Ok3.ok{w:Way}(h:w.Ok3 m):w.Ok m:=by obtain⟨c,h1,h2,a⟩:=h.sg;exact⟨h.r0,h.r1,h.o0,h.o1,h.dd,c,h1,by lia,a⟩
theorem Way.Ok3.lay{m:Int}{w:Way}(h:w.Ok3 m):w.Lay:=h.ok.lay
def HOuse3.house(h:HOuse3 m ws):HOuse m ws:=⟨h.m1,h.m12,h.few,λw a=>(h.ok w a).ok,h.nd⟩
theorem yW{ds:List Int}(h:i+4<=ds.length):∃a b c d,bY (ds.map V.int) (some (i:Int)) (some ((i+4:Nat):Int))=[.int a,.int b,.int c,.int d]/\ds[i]?=some a/\ds[i+1]?=some b/\ds[i+2]?=some c/\ds[i+3]?=some d:=by refine⟨ds[i],ds[i+1],ds[i+2],ds[i+3],?_,E8 _,E8 _,E8 _,E8 _⟩;unfold bY;rw[HT.pA,HT.pA,E7,JW (by lia),JW (by lia),show i+4-i=4 by lia,<-K9,<-JI];rw[Gj (show i<ds.length by omega),Gj (show i+1<ds.length by omega),Gj (show i+1+1<ds.length by lia),Gj (show i+1+1+1<ds.length by lia)];rfl
def gg:List Int:=[8,12,13,31]++(FU 30 ([12,6,12,3]:List Int)).flatten
def Cr(h:k<30):gg[4+4*k]?=Vn 12/\gg[4+4*k+1]?=Vn 6/\gg[4+4*k+2]?=Vn 12/\gg[4+4*k+3]?=Vn 3:=by
 have:∀k:Fin 30,gg[4+4*k.val]?=Vn 12/\gg[4+4*k.val+1]?=Vn 6/\gg[4+4*k.val+2]?=Vn 12/\gg[4+4*k.val+3]?=Vn 3:=by decide +kernel
 exact this ⟨k,h⟩
inductive wF(K:E3)(vs:List V)(H:Hp)(Q:VK)(E:XK):Prop|mk:∀c p,vs=[.int c,.int p]->0<p->(∀v m ws H',Ext H H'->bt H' v m ws->HOuse3 m ws->Q v H')->wF K vs H Q E
theorem yt(h0:0<=e)(h1:e<6):∃z,b9 ([.str "up",.str "down",.str "stay",.str "zero",.str "up",.str "down"]:List V) e=Vn (.str z)/\cJ z:=by
 have:e=0\/e=1\/e=2\/e=3\/e=4\/e=5:=by lia
 rcases this with rfl|rfl|rfl|rfl|rfl|rfl
 .exact⟨_,rfl,.inl rfl⟩
 .exact⟨_,rfl,.inr (.inl rfl)⟩
 .exact⟨_,rfl,.inr (.inr (.inl rfl))⟩
 .exact⟨_,rfl,.inr (.inr (.inr rfl))⟩
 .exact⟨_,rfl,.inl rfl⟩
 .exact⟨_,rfl,.inr (.inl rfl)⟩
def Av:(FP "abc").cps.toList=[97,98,99]:=by decide +kernel
theorem zh(h0:0<=e)(h1:e<3):∃c,b9 (FP "abc").cps.toList e=Vn c/\97<=c/\c<=99:=by
 rw[Av];have:e=0\/e=1\/e=2:=by lia
 rcases this with rfl|rfl|rfl
 .exact⟨97,rfl,by decide,by decide⟩
 .exact⟨98,rfl,by decide,by decide⟩
 .exact⟨99,rfl,by decide,by decide⟩
def CZ(h0:0<=e)(h1:e<8):∃w,b9 (([4,4,4,5,3,2,5,12]:List Int).map V.int) e=Vn (.int w)/\1<=w/\w<=12:=by
 obtain⟨n,rfl⟩:=Int.eq_ofNat_of_zero_le h0;have a:=Int.ofNat_lt.mp h1;have key:∀i:Fin 8,1<=([4,4,4,5,3,2,5,12]:List Int)[i]/\([4,4,4,5,3,2,5,12]:List Int)[i]<=12:=by decide
 exact⟨([4,4,4,5,3,2,5,12]:List Int)[n],cN (by rw[E9,E8 a];rfl),key ⟨n,a⟩⟩
def bt.mk(h1:H p=Vn (.tup [.int m,.ref q]))(h2:cx H q (ws.map Way.key)):bt H (.ref p) m ws:=⟨p,q,rfl,h1,h2⟩
theorem As(T:Bu w mg base):Cal P w K mg base "_law_drawn_house" 3 ["_law_cell_here","_law_prime"] (wF K):=by
 refine(bZ T.d__law_drawn_house).oS ["_law_cell_here","_law_prime","_law_draws_here","_law_many","_law_often","_law_ways","_law_k","_law_room","_law_deed","_law_other","_law_sign","_law_word"] λhr nd H vs Q E h=>?_;obtain⟨c,p,rfl,hp,q⟩:=h;refine⟨_,(@av _ _ _ _ _ (@aH _ _ 2 _ _ _ _ nd rfl oi (aG (iI T) hr (af (pv 0) (af (aJ lE (@bI _ _ _ _ (jg (.c (.c (.c (.c .n)))))) (aJ oY (@bI _ _ _ _ (jg (.c (.c (.c (.c .n)))))) ae)) (af (pv 1) aa rfl) rfl) rfl)) rfl oi)
   (@av _ _ _ _ _ (@aH _ _ 3 _ _ _ _ nd rfl oi (aJ bx ae (aJ c8 (@ax _ _ _ _ _ _ _ (aQ K) (pv 2) ae (λ_ _=>rfl)) (@ax _ _ _ _ _ _ _ (aQ K) (@bI _ _ _ _ (jg (.c (.c (.c (.c (.c (.c (.c (.c .n)))))))))) (@ax _ _ _ _ _ _ _ (aQ K) (pv 2) ae (λ_ _=>rfl)) (λ_ _=>rfl)))) rfl oi)
   (@av _ _ _ _ _ (@aH _ _ 4 _ _ _ _ nd rfl oi (@ax _ _ _ _ _ _ _ (aQ K) (pv 2) ae (λ_ _=>rfl)) rfl oi)
   (@av _ _ _ _ _ (cL (aT bG (@ax _ _ _ _ _ _ _ (aQ K) (pv 2) ae (λ_ _=>rfl)) ae (aR _)) (@az _ _ _ (@aH _ _ 4 _ _ _ _ nd rfl oi (@ax _ _ _ _ _ _ _ (aQ K) (pv 2) ae (λ_ _=>rfl)) rfl oi)) aV)
   (@av _ _ _ _ _ (@aH _ _ 5 _ _ _ _ nd rfl oi (@bI _ _ _ _ aa) rfl oi)
   (@av _ _ _ _ _ (bJ F8 rfl (dv rfl T.range_ (af (pv 4) aa rfl)) (aO (i:=6) nd rfl oi) (@av _ _ _ _ _ (@iJ _ _ _ _ _ _ (fM (f7 K) (pv 2) (eS (aJ bx ae (aJ fW ae (pv 6)))) (eS (aJ bx ae (aJ fW ae (pv 6))))) (zP (n:=4) K rfl (bF (aO (i:=7) nd rfl oi) (bF (aO (i:=8) nd rfl oi) (bF (aO (i:=9) nd rfl oi) (bF (aO (i:=10) nd rfl oi) df))))) rfl rfl rfl)
   (@av _ _ _ _ _ (@aH _ _ 11 _ _ _ _ nd rfl oi (@ax _ _ _ _ _ _ _ (aQ K) (@bI _ _ _ _ (af a8 (af a8 (af a8 (af a8 (af a8 (af a8 aa rfl) rfl) rfl) rfl) rfl) rfl)) (pv 8) (λ_ _=>rfl)) rfl oi)
   (@az _ _ _ (bA (bO K Ff Fv Fw bV (pv 5) (af (@bH _ _ _ _ _ (af (aJ c8 (pv 7) (pv 3)) (af (pv 11) (af (aJ c8 (pv 9) (pv 3)) (af (@ax _ _ _ _ _ _ _ vd a8 (pv 10) (λ_ _=>rfl)) aa rfl) rfl) rfl) rfl)) aa rfl)))))))
   (@az _ _ _ (@aK _ _ _ _ (@bH _ _ _ _ _ (af (pv 3) (af (aG (pQ T) hr (af (pv 5) aa rfl)) aa rfl) rfl)))))))))),?_⟩
 left;refine aS λw0 G1 f1 Y _=>?_;left;refine aS λw1 G2 f2 Z _=>?_;left;refine oV Z (by lia) (b7 (by decide)) (cE λw2 G3 f3 a0 _=>?_);left;refine l4 (f3 _ _ (f2 _ _ Y)) a0 (b7 (by decide)) (cE λw3 G4 f4 a1 _=>?_);left;refine kI gg a1 (by decide +kernel) (by decide +kernel) (hp) λdq ds H1 e1 hd ai hl hb=>?_;have eH:Ext H H1:=f1.trans (f2.trans (f3.trans (f4.trans e1)));have aj:ds.length=124:=hl;have at_:∀(i:Nat) (x:Int),gg[i]?=Vn x->∃d,ds[i]?=Vn d/\0<=d/\d<x:=λi x hx=>by
  have hi:i<ds.length:=by rw[hl];exact(Fg.mp hx).1
  exact⟨ds[i],E8 hi,hb i _ x (E8 hi) hx⟩
 obtain⟨d0,g0,A,B⟩:=at_ 0 8 rfl;obtain⟨d1,g1,a2,a3⟩:=at_ 1 12 rfl;obtain⟨d2,g2,C,a4⟩:=at_ 2 13 rfl;obtain⟨d3,g3,F,a5⟩:=at_ 3 31 rfl;have pick:∀{i:Nat} {d:Int},ds[i]?=Vn d->b9 (ds.map V.int) (i:Int)=Vn (.int d):=λ{i d} h=>cN (by rw[E9,h];rfl);left;refine aP (ag.of hd) (pick (i:=1) g1) ?_;left;refine aS λmq H2 U a6 _=>?_;left;refine aP (ag.of (U _ _ hd)) (pick (i:=0) g0) ?_;obtain⟨w,hw,G,I⟩:=CZ A B;refine aP (ag.of a6) hw ?_
 try refine rd_I (show(0:Int)<w by lia) ?_
 left;have r0:0<=d1 % w:=Ge _ (by lia);have r1:d1 % w<w:=GU _ (by lia);obtain⟨m,hm,m1,m2⟩:∃m,1+d1 % w=m/\1<=m/\m<=12:=⟨_,rfl,by lia,by lia⟩;rw[hm];refine aP (ag.of (U _ _ hd)) (pick (i:=2) g2) ?_;left;have a9:Ext H H2:=eH.trans U;have g:=U _ _ hd;refine iE (λJ H'=>H'=H2/\∃o:Nat,o<=30/\J=[Vn (.int c),Vn (.int p),Vn (.ref dq),Vn (.int m),Vn (.int o),Vo,Vo,Vo,Vo,Vo,Vo,Vo]) ?_ ?_
 .left;refine aP (ag.of g) (pick (i:=0) g0) ?_;left;refine gH (λh=>?_) (λh=>?_)
  .left;refine aP (ag.of g) (pick (i:=3) g3) ?_;left;exact⟨rfl,d3.toNat,by lia,by rw[Fm F];rfl⟩
  .left;exact⟨rfl,d2.toNat,by lia,by rw[Fm C];rfl⟩
 rintro J H' ⟨rfl,o,ho,rfl⟩;clear hw G I r0 r1 A B a2 a3 C a4 F a5;left;refine aS λf H3 e3 hf hfn=>?_;left;refine dz (by lia) ?_;refine forR (λi σ L=>Ext H' L/\∃(k1 k2 k3 k4 k5 k6:Option V) (cs:List Vb) (us:List Way),σ=[Vn (.int c),Vn (.int p),Vn (.ref dq),Vn (.int m),Vn (.int o),Vn (.ref f),k1,k2,k3,k4,k5,k6]/\L f=Vn (.lst (cs.map V.ref))/\bh L cs us/\(∀u∈us,u.Ok3 m)/\us.length=i)
  ⟨e3,Vo,Vo,Vo,Vo,Vo,Vo,[],[],rfl,hf,bh.nil _,λu e=>by simp at e,rfl⟩ ?_ ?_
 .rintro i σ L hi ⟨W,k1,k2,k3,k4,k5,k6,cs,us,rfl,j,al,ok,len⟩;rw[Fl]at hi;have M:i<30:=by lia
  obtain⟨a,b,c',d,N,ga,gb,gc,gd⟩:=yW (ds:=ds) (i:=4+4*i) (by lia);obtain⟨y0,y1,y2,y3⟩:=Cr M;have ba:=hb _ _ _ ga y0;have bb:=hb _ _ _ gb y1;have bc:=hb _ _ _ gc y2;have bd:=hb _ _ _ gd y3;have ab:=W _ _ g;left;refine gh (ag.of ab) (cE λt H5 O X ak=>?_);rw[show (4:Int)+4*(0+(i:Int))=((4+4*i:Nat):Int) by lia,show (8:Int)+4*(0+(i:Int))=((4+4*i+4:Nat):Int) by lia,N]at X;left;refine A7 (ag.of X) rfl ?_;left;refine aS λu1 H6 y ac _=>?_;left;obtain⟨z,hz,ad⟩:=yt bb.1 bb.2;refine aP (ag.of ac) hz ?_;left;have R:=y _ _ (O _ _ j);refine⟨cg (ag.of R),?_⟩;left
  try refine rd_I (show(0:Int)<m by lia) ?_
  left
  try refine rd_I (show(0:Int)<m by lia) ?_
  left;obtain⟨s,hs,s1,s2⟩:=zh bd.1 bd.2;refine⟨_,_,s,rfl,rfl,iV (by decide +kernel),hs,?_⟩;left;refine aS λv H7 e7 hv _=>?_;have l:=e7 _ _ R;left;refine bR l (by rw[E7,al.1,len];exact Gv (show i<=1000 by lia) (by decide)) ?_;left;have ah:bh H7 cs us:=((al.ext O).ext y).ext e7;have S:H7 v=Vn (.tup (Way.vs ⟨a % m,z,c' % m,⟨#[s]⟩⟩)):=hv;refine⟨bM (W.trans (O.trans (y.trans e7))) hfn,_,_,_,_,_,_,cs++[v],us++[⟨a % m,z,c' % m,⟨#[s]⟩⟩],rfl,by rw[aF,Fq];rfl,(ah.put l).snoc ?_,?_,by simp[len]⟩
  .rw[aB (bp S l (by intro z;cases z))];exact S
  .intro u e;rcases Fx.mp e with e|e
   .exact ok u e
   .rw[Fi.mp e];exact⟨Ge _ (by lia),GU _ (by lia),Ge _ (by lia),GU _ (by lia),ad,s,s1,s2,rfl⟩
 .rintro σ L ⟨W,k1,k2,k3,k4,k5,k6,cs,us,rfl,j,al,ok,len⟩;rw[Fl]at len;left;refine⟨f,cs,us,rfl,j,al,λu e=>(ok u e).lay,by lia,λr H5 ws O hws nd sub ln=>?_⟩;left;refine aS λt H6 y X _=>?_;exact q _ m ws H6 (a9.trans (W.trans (O.trans y))) (bt.mk X (hws.ext y)) ⟨m1,m2,by lia,λu e=>ok u (sub u e),nd⟩
structure WL(H0 H:Hp)(f:Vb)(us:List Way):Prop where
 ext:Ext H0 H
 at_:∃cs:List Vb,H f=Vn (.lst (cs.map V.ref))/\bh H cs us
theorem WL.nil{H0 H:Hp}{f:Vb}(e:Ext H0 H)(a:H f=Vn (.lst [])):WL H0 H f []:=⟨e,[],a,bh.nil _⟩
def WL.push{v:Vb}{w:Way}(h:WL H0 H f us)(hfn:H0 f=Vo)(e:Ext H H1)(b:H1 v=Vn (.tup w.vs)):
  ∃xs,H1 f=Vn (.lst xs)/\xs.length=us.length/\WL H0 (upd H1 f (.lst (xs++[.ref v]))) f (us++[w]):=by
 obtain⟨c,cs,d,al⟩:=h;have a:=e _ _ d;refine⟨cs.map V.ref,a,by rw[E7];exact al.1,bM (c.trans e) hfn,cs++[v],by rw[aF,Fq];rfl,((al.ext e).put a).snoc ?_⟩;rw[aB (bp b a (by intro z;cases z))];exact b
def WL.ty{K:E3}(h:WL H0 H f us)(e:Ext H H1):ij K "list" (.ref f) H1:=by obtain⟨_,cs,a,al⟩:=h;exact cg (ag.of (e _ _ a))
def kE:lW "a":=⟨97,by decide,by decide,by decide +kernel⟩
def ka:lW "b":=⟨98,by decide,by decide,by decide +kernel⟩
def pK:lW "c":=⟨99,by decide,by decide,by decide +kernel⟩
def kW:cJ "up":=.inl rfl
def pJ:cJ "down":=.inr (.inl rfl)
def i7:cJ "stay":=.inr (.inr (.inl rfl))
def mz:cJ "zero":=.inr (.inr (.inr rfl))
def dY(h:n<=1000):n<sizeLine:=Gv h (by decide)
theorem kJ{a b:V}(h0:0<=e)(h1:e<2):∃v,b9 [a,b] e=Vn v/\(v=a\/v=b):=by
 have:e=0\/e=1:=by lia
 rcases this with rfl|rfl
 .exact⟨a,rfl,.inl rfl⟩
 .exact⟨b,rfl,.inr rfl⟩
def fS{w:Way}(h:∀u∈us,u.Ok3 m)(b:w.Ok3 m):∀u∈us++[w],u.Ok3 m:=λu a=>by
 rcases Fx.mp a with a|a
 .exact h u a
 .rw[Fi.mp a];exact b
def zS:(FP "ab").cps.toList=[97,98]:=by decide +kernel
theorem Ay(h0:0<=e)(h1:e<2):∃c,b9 (FP "ab").cps.toList e=Vn c/\97<=c/\c<=99:=by
 rw[zS];have:e=0\/e=1:=by lia
 rcases this with rfl|rfl
 .exact⟨97,rfl,by decide,by decide⟩
 .exact⟨98,rfl,by decide,by decide⟩
def cU{ws ds:List Int}(b:ds.length=ws.length)(hb:∀(i:Nat) d x,ds[i]?=Vn d->ws[i]?=Vn x->0<=d/\d<x)(i:Nat)(a:ws[i]?=Vn x):∃d,b9 (ds.map V.int) (i:Int)=Vn (.int d)/\0<=d/\d<x:=by
 have hi:i<ds.length:=by rw[b];exact(Fg.mp a).1
 have g:ds[i]?=Vn ds[i]:=E8 hi;exact⟨ds[i],cN (by rw[E9,g];rfl),hb i _ x g a⟩
inductive sH(K:E3)(vs:List V)(H:Hp)(Q:VK)(E:XK):Prop|mk:∀c p,vs=[.int c,.int p]->0<p->(∀v m ws H',Ext H H'->bt H' v m ws->HOuse3 m ws->Q v H')->sH K vs H Q E
theorem Ey(T:Bu w mg base):Cal P w K mg base "_law_gate_house" 3 ["_law_cell_here","_law_prime"] (sH K):=by
 refine(bZ T.d__law_gate_house).oS ["_law_cell_here","_law_prime","_law_draws_here","_law_up","_law_down","_law_many","_law_ways","_law_k"] λhr nd H vs Q E h=>?_;obtain⟨c,p,rfl,hp,q⟩:=h;refine⟨_,(@av _ _ _ _ _ (@aH _ _ 2 _ _ _ _ nd rfl oi (aG (iI T) hr (af (pv 0) (af (@bI _ _ _ _ (jg (.c (.c (.c (.c (.c (.c (.c .n))))))))) (af (pv 1) aa rfl) rfl) rfl)) rfl oi)
   (@av _ _ _ _ _ (ux (i:=3) (j:=4) rfl nd rfl rfl (by decide) rfl rfl (af (aJ bx ae (@ax _ _ _ _ _ _ _ (aQ K) (pv 2) ae (λ_ _=>rfl))) (af (aJ bx ae (@ax _ _ _ _ _ _ _ (aQ K) (pv 2) ae (λ_ _=>rfl))) aa rfl) rfl) rfl)
   (@av _ _ _ _ _ (@aH _ _ 5 _ _ _ _ nd rfl oi (aJ bx (aJ bx (pv 3) (pv 4)) ae) rfl oi)
   (@av _ _ _ _ _ (@aH _ _ 6 _ _ _ _ nd rfl oi (@bI _ _ _ _ aa) rfl oi)
   (@av _ _ _ _ _ (bJ F8 rfl (dv rfl T.range_ (af (pv 3) aa rfl)) (aO (i:=7) nd rfl oi) (@az _ _ _ (bA (bO K Ff Fv Fw bV (pv 6) (af (@bH _ _ _ _ _ (af (pv 7) (af a8 (af (aJ c8 (aJ bx (pv 7) ae) (pv 3)) (af (@ax _ _ _ _ _ _ _ vd a8 (@ax _ _ _ _ _ _ _ (aQ K) (pv 2) ae (λ_ _=>rfl)) (λ_ _=>rfl)) aa rfl) rfl) rfl) rfl)) aa rfl)))))
   (@av _ _ _ _ _ (bA (bO K Ff Fv Fw bV (pv 6) (af (@bH _ _ _ _ _ (af (aJ c8 (@ax _ _ _ _ _ _ _ (aQ K) (pv 2) ae (λ_ _=>rfl)) (pv 3)) (af a8 (af (pv 3) (af a8 aa rfl) rfl) rfl) rfl)) aa rfl)))
   (@av _ _ _ _ _ (bJ F8 rfl (dv rfl T.range_ (af (pv 4) aa rfl)) (aO (i:=7) nd rfl oi) (@az _ _ _ (bA (bO K Ff Fv Fw bV (pv 6) (af (@bH _ _ _ _ _ (af (aJ bx (pv 3) (pv 7)) (af a8 (af (aJ bx (pv 3) (aJ c8 (aJ bx (pv 7) ae) (pv 4))) (af a8 aa rfl) rfl) rfl) rfl)) aa rfl)))))
   (@av _ _ _ _ _ (bA (bO K Ff Fv Fw bV (pv 6) (af (@bH _ _ _ _ _ (af (aJ bx (pv 3) (aJ c8 (@ax _ _ _ _ _ _ _ (aQ K) (pv 2) ae (λ_ _=>rfl)) (pv 4))) (af a8 (af (aJ dR (pv 5) ae) (af a8 aa rfl) rfl) rfl) rfl)) aa rfl)))
   (@av _ _ _ _ _ (bA (bO K Ff Fv Fw bV (pv 6) (af (@bH _ _ _ _ _ (af (aJ dR (pv 5) ae) (af (@ax _ _ _ _ _ _ _ (aQ K) (@bI _ _ _ _ (af a8 (af a8 aa rfl) rfl)) (@ax _ _ _ _ _ _ _ (aQ K) (pv 2) ae (λ_ _=>rfl)) (λ_ _=>rfl)) (af (@ax _ _ _ _ _ _ _ (aQ K) (@bI _ _ _ _ (af ae (af (aJ dR (pv 5) ae) aa rfl) rfl)) (@ax _ _ _ _ _ _ _ (aQ K) (pv 2) ae (λ_ _=>rfl)) (λ_ _=>rfl)) (af a8 aa rfl) rfl) rfl) rfl)) aa rfl)))
   (@az _ _ _ (@aK _ _ _ _ (@bH _ _ _ _ _ (af (pv 5) (af (aG (pQ T) hr (af (pv 6) aa rfl)) aa rfl) rfl))))))))))))),?_⟩
 left;refine aS λw0 G1 f1 Y _=>?_;left;refine kI [6,5,6,5,2,2,2] Y (by decide) (by decide) (hp) λdq ds H1 e1 hd ap G hb=>?_;have eH:Ext H H1:=f1.trans e1;obtain⟨d0,g0,Z,a0⟩:=cU G hb 0 rfl;obtain⟨d1,g1,a1,a2⟩:=cU G hb 1 rfl;obtain⟨N,g2,aq,ar⟩:=cU G hb 2 rfl;obtain⟨M,g3,as,au⟩:=cU G hb 3 rfl;obtain⟨d4,g4,a3,a4⟩:=cU G hb 4 rfl;obtain⟨d5,g5,a5,a6⟩:=cU G hb 5 rfl;obtain⟨d6,g6,a9,ab⟩:=cU G hb 6 rfl;clear hb G;left;refine aP (ag.of hd) g0 ?_;left;refine aP (ag.of hd) g1 ?_;left;obtain⟨U,hU⟩:∃U:Nat,1+d0=(U:Int):=⟨(1+d0).toNat,by lia⟩;obtain⟨D,hD⟩:∃D:Nat,1+d1=(D:Int):=⟨(1+d1).toNat,by lia⟩;rw[hU,hD];have u1:1<=U:=by lia
 have u6:U<=6:=by lia
 have v1:1<=D:=by lia
 have v5:D<=5:=by lia
 clear Z a0 a1 a2 hU hD;obtain⟨m,hm⟩:∃m:Int,(U:Int)+(D:Int)+1=m:=⟨_,rfl⟩;rw[hm];refine aS λf H2 e2 hf hfn=>?_;left;refine dz (by lia) ?_;have e:H1 f=Vo:=hfn;refine forR (λi σ I=>∃(k:Option V) (us:List Way),σ=[Vn (.int c),Vn (.int p),Vn (.ref dq),Vn (.int U),Vn (.int D),Vn (.int m),Vn (.ref f),k]/\WL H1 I f us/\(∀u∈us,u.Ok3 m)/\us.length=i)
  ⟨Vo,[],rfl,WL.nil e2 hf,λu O=>by simp at O,rfl⟩ ?_ ?_
 .rintro i σ I hi ⟨k,us,rfl,wl,ok,len⟩;rw[Fl]at hi;left;refine⟨wl.ty (Ext.rfl' _),?_⟩;left
  try refine rd_I (show(0:Int)<(U:Int) by lia) ?_
  left;refine aP (ag.of (wl.ext _ _ hd)) g4 ?_;obtain⟨s,hs,s1,s2⟩:=Ay a3 a4;refine⟨_,_,s,rfl,rfl,iV (by decide +kernel),hs,?_⟩;left;refine aS λv R F A _=>?_;left;obtain⟨xs,B,o,J⟩:=wl.push (w:=⟨0+(i:Int),"up",(0+(i:Int)+1) % (U:Int),⟨#[s]⟩⟩) e F A;refine bR B (dY (by lia)) ?_;left;exact⟨_,_,rfl,J,fS ok ⟨by show 0<=0+(i:Int);lia,by show 0+(i:Int)<m;lia,Ge _ (by lia),Int.lt_trans (GU _ (by lia)) (by lia),kW,s,s1,s2,rfl⟩,by simp[len]⟩
 rintro σ I ⟨k,us,rfl,wl,ok,len⟩;rw[Fl]at len;left;refine⟨wl.ty (Ext.rfl' _),?_⟩;left;refine aP (ag.of (wl.ext _ _ hd)) g2 ?_
 try refine rd_I (show(0:Int)<(U:Int) by lia) ?_
 left;refine aS λv R F A _=>?_;left;have r0:0<=N % (U:Int):=Ge _ (by lia);have r1:N % (U:Int)<U:=GU _ (by lia);obtain⟨xs,B,o,d⟩:=wl.push (w:=⟨N % (U:Int),"stay",(U:Int),"b"⟩) e F A;have x:=fS ok (w:=⟨N % (U:Int),"stay",(U:Int),"b"⟩) ⟨r0,by show N % (U:Int)<m;lia,by show 0<=(U:Int);lia,by show(U:Int)<m;lia,i7,ka⟩;refine bR B (dY (by lia)) ?_;generalize upd R f _=H5 at d ⊢;generalize g:us++[_]=C at d x;have l:C.length=U+1:=by rw[<-g];simp[len]
 clear g B o A F r0 r1 wl ok len;left;refine dz (by lia) ?_;refine forR (λi σ I=>∃(k:Option V) (us:List Way),σ=[Vn (.int c),Vn (.int p),Vn (.ref dq),Vn (.int U),Vn (.int D),Vn (.int m),Vn (.ref f),k]/\WL H1 I f us/\(∀u∈us,u.Ok3 m)/\us.length=U+1+i)
  ⟨_,C,rfl,d,x,l⟩ ?_ ?_
 .rintro i σ I hi ⟨k,us,rfl,wl,ok,len⟩;rw[Fl]at hi;left;refine⟨wl.ty (Ext.rfl' _),?_⟩;left
  try refine rd_I (show(0:Int)<(D:Int) by lia) ?_
  left;refine aS λv R F A _=>?_;left;have r0:0<=(0+(i:Int)+1) % (D:Int):=Ge _ (by lia);have r1:(0+(i:Int)+1) % (D:Int)<D:=GU _ (by lia);obtain⟨xs,B,o,J⟩:=wl.push (w:=⟨(U:Int)+(0+(i:Int)),"down",(U:Int)+(0+(i:Int)+1) % (D:Int),"a"⟩) e F A;refine bR B (dY (by lia)) ?_;left;exact⟨_,_,rfl,J,fS ok ⟨by show 0<=(U:Int)+(0+(i:Int));lia,by show(U:Int)+(0+(i:Int))<m;lia,by show 0<=(U:Int)+(0+(i:Int)+1) % (D:Int);lia,by show(U:Int)+(0+(i:Int)+1) % (D:Int)<m;lia,pJ,kE⟩,by simp[len];lia⟩
 clear d x l;rintro σ I ⟨k,us,rfl,wl,ok,len⟩;rw[Fl]at len;left;refine⟨wl.ty (Ext.rfl' _),?_⟩;left;refine aP (ag.of (wl.ext _ _ hd)) g3 ?_
 try refine rd_I (show(0:Int)<(D:Int) by lia) ?_
 left;refine aS λv R F A _=>?_;left;have r0:0<=M % (D:Int):=Ge _ (by lia);have r1:M % (D:Int)<D:=GU _ (by lia);obtain⟨xs,B,o,d⟩:=wl.push (w:=⟨(U:Int)+M % (D:Int),"zero",m-1,"c"⟩) e F A;have x:=fS ok (w:=⟨(U:Int)+M % (D:Int),"zero",m-1,"c"⟩) ⟨by show 0<=(U:Int)+M % (D:Int);lia,by show(U:Int)+M % (D:Int)<m;lia,by show 0<=m-1;lia,by show m-1<m;lia,mz,pK⟩;refine bR B (dY (by lia)) ?_;generalize upd R f _=H5 at d ⊢;generalize g:us++[_]=C at d x;have l:C.length=U+D+2:=by rw[<-g];simp[len];lia
 clear g B o A F r0 r1 wl ok len;left;refine⟨d.ty (Ext.rfl' _),?_⟩;left;refine aS λt1 H6 e6 ac _=>?_;left;refine aP (ag.of (e6 _ _ (d.ext _ _ hd))) g5 ?_;obtain⟨x5,ad,ah⟩:=kJ (a:=V.str "up") (b:=V.str "stay") a5 a6;refine aP (ag.of ac) ad ?_;left;refine aS λt2 H7 e7 ai _=>?_;left;refine aP (ag.of (e7 _ _ (e6 _ _ (d.ext _ _ hd)))) g6 ?_;obtain⟨x6,aj,ak⟩:=kJ (a:=V.int 0) (b:=V.int (m-1)) a9 ab;refine aP (ag.of ai) aj ?_;left;refine aS λv H8 e8 A _=>?_;left;obtain⟨z,rfl,oz⟩:∃z,x5=.str z/\cJ z:=by
  rcases ah with rfl|rfl
  .exact⟨_,rfl,kW⟩
  .exact⟨_,rfl,i7⟩
 obtain⟨y,rfl,y0,y1⟩:∃y:Int,x6=.int y/\0<=y/\y<m:=by
  rcases ak with rfl|rfl
  .exact⟨_,rfl,by lia,by lia⟩
  .exact⟨_,rfl,by lia,by lia⟩
 obtain⟨xs,B,o,L⟩:=d.push (w:=⟨m-1,z,y,"b"⟩) e (e6.trans (e7.trans e8)) A;have ok3:=fS x (w:=⟨m-1,z,y,"b"⟩) ⟨by show 0<=m-1;lia,by show m-1<m;lia,y0,y1,oz,ka⟩;refine bR B (dY (by lia)) ?_;generalize upd H8 f _=H9 at L ⊢;generalize S:C++[_]=W at L ok3;have an:W.length=U+D+3:=by rw[<-S];simp[l]
 left;obtain⟨ew,cs,am,al⟩:=L;refine⟨f,cs,W,rfl,am,al,λu O=>(ok3 u O).lay,by lia,λr I1 ws e5 hws nd sub ln=>?_⟩;left;refine aS λt I2 X ht _=>?_;exact q _ m ws I2 (eH.trans (ew.trans (e5.trans X))) (bt.mk ht (hws.ext X)) ⟨by lia,by lia,by lia,λu O=>ok3 u (sub u O),nd⟩
def bh.rev(h:bh H bs ws):bh H bs.reverse ws.reverse:=by
 refine⟨by rw[Gh,Gh];exact h.1,λj b w a c=>?_⟩;have d:j<bs.length:=by have:=(Fg.mp a).1;simpa using this
 rw[IK d]at a;rw[IK (by rw[<-h.1];exact d),<-h.1]at c;exact h.2 _ b w a c
def jh{w:Way}(h:us.Nodup)(b:w∉us):(us++[w]).Nodup:=by rw[GD];exact⟨h,by simp,λa ha c d=>by rw[Fi.mp d];exact λz=>b (z ▸ ha)⟩
def jT{P:Way->Prop}{w:Way}(h:∀u∈us,P u)(b:P w):∀u∈us++[w],P u:=λu a=>by
 rcases Fx.mp a with a|a
 .exact h u a
 .rw[Fi.mp a];exact b
def uU:(FP "a")≠"b":=by decide +kernel
def sr:(FP "a")≠"c":=by decide +kernel
def ou:(FP "b")≠"c":=by decide +kernel
inductive qG(K:E3)(vs:List V)(H:Hp)(Q:VK)(E:XK):Prop|mk:∀c p,vs=[.int c,.int p]->0<p->(∀v m ws H',Ext H H'->bt H' v m ws->HOuse3 m ws->Q v H')->qG K vs H Q E
theorem zV(T:Bu w mg base):Cal P w K mg base "_law_ring_house" 3 ["_law_cell_here","_law_prime"] (qG K):=by
 refine(bZ T.d__law_ring_house).oS ["_law_cell_here","_law_prime","_law_draws_here","_law_one","_law_two","_law_many","_law_ways","_law_k"] λhr nd H vs Q E h=>?_;obtain⟨c,p,rfl,hp,q⟩:=h;refine⟨_,(@av _ _ _ _ _ (@aH _ _ 2 _ _ _ _ nd rfl oi (aG (iI T) hr (af (pv 0) (af (@bI _ _ _ _ (jg (.c (.c (.c (.c (.c (.c (.c .n))))))))) (af (pv 1) aa rfl) rfl) rfl)) rfl oi)
   (@av _ _ _ _ _ (ux (i:=3) (j:=4) rfl nd rfl rfl (by decide) rfl rfl (af (aJ bx ae (@ax _ _ _ _ _ _ _ (aQ K) (pv 2) ae (λ_ _=>rfl))) (af (aJ bx ae (@ax _ _ _ _ _ _ _ (aQ K) (pv 2) ae (λ_ _=>rfl))) aa rfl) rfl) rfl)
   (@av _ _ _ _ _ (@aH _ _ 5 _ _ _ _ nd rfl oi (aJ bx (aJ bx (pv 3) (pv 4)) ae) rfl oi)
   (@av _ _ _ _ _ (@aH _ _ 6 _ _ _ _ nd rfl oi (@bI _ _ _ _ (af (@bH _ _ _ _ _ (af ae (af a8 (af ae (af a8 aa rfl) rfl) rfl) rfl)) (af (@bH _ _ _ _ _ (af ae (af (@ax _ _ _ _ _ _ _ (aQ K) (@bI _ _ _ _ (af a8 (af a8 aa rfl) rfl)) (@ax _ _ _ _ _ _ _ (aQ K) (pv 2) ae (λ_ _=>rfl)) (λ_ _=>rfl)) (af (aJ bx ae (pv 3)) (af a8 aa rfl) rfl) rfl) rfl)) aa rfl) rfl)) rfl oi)
   (@av _ _ _ _ _ (bJ F8 rfl (dv rfl T.range_ (af (pv 3) aa rfl)) (aO (i:=7) nd rfl oi) (@az _ _ _ (bA (bO K Ff Fv Fw bV (pv 6) (af (@bH _ _ _ _ _ (af (aJ bx ae (pv 7)) (af a8 (af (aJ bx ae (aJ c8 (aJ bx (pv 7) ae) (pv 3))) (af a8 aa rfl) rfl) rfl) rfl)) aa rfl)))))
   (@av _ _ _ _ _ (bJ F8 rfl (dv rfl T.range_ (af (pv 4) aa rfl)) (aO (i:=7) nd rfl oi) (@az _ _ _ (bA (bO K Ff Fv Fw bV (pv 6) (af (@bH _ _ _ _ _ (af (aJ bx (aJ bx ae (pv 3)) (pv 7)) (af (@ax _ _ _ _ _ _ _ (aQ K) (@bI _ _ _ _ (af a8 (af a8 aa rfl) rfl)) (@ax _ _ _ _ _ _ _ (aQ K) (pv 2) ae (λ_ _=>rfl)) (λ_ _=>rfl)) (af (aJ bx (aJ bx ae (pv 3)) (aJ c8 (aJ bx (pv 7) ae) (pv 4))) (af a8 aa rfl) rfl) rfl) rfl)) aa rfl)))))
   (@av _ _ _ _ _ (bA (bO K Ff Fv Fw bV (pv 6) (af (@bH _ _ _ _ _ (af ae (af a8 (af (aJ dR (pv 5) ae) (af a8 aa rfl) rfl) rfl) rfl)) aa rfl)))
   (@av _ _ _ _ _ (bA (bO K Ff Fv Fw bV (pv 6) (af (@bH _ _ _ _ _ (af (aJ bx ae (pv 3)) (af a8 (af (aJ dR (pv 5) ae) (af a8 aa rfl) rfl) rfl) rfl)) aa rfl)))
   (@av _ _ _ _ _ (cL (aT bG (@ax _ _ _ _ _ _ _ (aQ K) (pv 2) ae (λ_ _=>rfl)) ae (aR _)) (@az _ _ _ (bA (bO K Ff Fv Fw bV (pv 6) (af (@bH _ _ _ _ _ (af (aJ dR (pv 5) ae) (af a8 (af (aJ dR (pv 5) ae) (af a8 aa rfl) rfl) rfl) rfl)) aa rfl)))) aV)
   (@av _ _ _ _ _ (cL (aT bG (@ax _ _ _ _ _ _ _ (aQ K) (pv 2) ae (λ_ _=>rfl)) ae (aR _)) (@az _ _ _ (bA (bO K Ff Fv Fw bV (pv 6) (af (@bH _ _ _ _ _ (af (aJ dR (pv 5) ae) (af a8 (af ae (af a8 aa rfl) rfl) rfl) rfl)) aa rfl)))) aV)
   (@av _ _ _ _ _ (cL (aT bG (@ax _ _ _ _ _ _ _ (aQ K) (pv 2) ae (λ_ _=>rfl)) ae (aR _)) (@az _ _ _ (@aH _ _ 6 _ _ _ _ nd rfl oi (EN K (pv 6) (eS (dQ dH ae))) rfl oi)) aV)
   (@az _ _ _ (@aK _ _ _ _ (@bH _ _ _ _ _ (af (pv 5) (af (jo (mf K) rfl T.tuple_ Ga (af (pv 6) aa rfl)) aa rfl) rfl))))))))))))))),?_⟩
 left;refine aS λw0 G1 f1 am _=>?_;left;refine kI [5,5,2,2,4,4,2] am (by decide) (by decide) (hp) λdq ds H1 e1 hd bm N hb=>?_;have eH:Ext H H1:=f1.trans e1;obtain⟨d0,g0,an,ap⟩:=cU N hb 0 rfl;obtain⟨d1,g1,aq,ar⟩:=cU N hb 1 rfl;obtain⟨d2,g2,as,au⟩:=cU N hb 2 rfl;obtain⟨d3,g3,b0,b1⟩:=cU N hb 3 rfl;obtain⟨d4,g4,_⟩:=cU N hb 4 rfl;obtain⟨d5,g5,_⟩:=cU N hb 5 rfl;obtain⟨d6,g6,_⟩:=cU N hb 6 rfl;clear hb N;left;refine aP (ag.of hd) g0 ?_;left;refine aP (ag.of hd) g1 ?_;left;obtain⟨U,hU⟩:∃U:Nat,1+d0=(U:Int):=⟨(1+d0).toNat,by lia⟩;obtain⟨D,hD⟩:∃D:Nat,1+d1=(D:Int):=⟨(1+d1).toNat,by lia⟩;rw[hU,hD];have u1:1<=U:=by lia
 have u6:U<=5:=by lia
 have v1:1<=D:=by lia
 have v5:D<=5:=by lia
 clear an ap aq ar hU hD;obtain⟨m,hm⟩:∃m:Int,(U:Int)+(D:Int)+2=m:=⟨_,rfl⟩;rw[hm];refine aS λa1 H2 e2 ah _=>?_;left;refine aS λt1 O e3 J _=>?_;left;refine aP (ag.of (e3 _ _ (e2 _ _ hd))) g2 ?_;obtain⟨x2,b2,b3⟩:=kJ (a:=V.str "stay") (b:=V.str "zero") as au;refine aP (ag.of J) b2 ?_;left;obtain⟨z2,rfl,b4⟩:∃z,x2=.str z/\cJ z:=by
  rcases b3 with rfl|rfl
  .exact⟨_,rfl,i7⟩
  .exact⟨_,rfl,mz⟩
 refine aS λa2 R o ai _=>?_;left;refine aS λf H5 e5 hf hfn=>?_;have ba:Ext H1 H5:=e2.trans (e3.trans (o.trans e5));have l:H1 f=Vo:=(e2.trans (e3.trans o)).none hfn;obtain⟨Z,F⟩:∃y:Way,y=⟨0,"stay",1,"a"⟩:=⟨_,rfl⟩;obtain⟨y2,G⟩:∃y:Way,y=⟨0,z2,1+(U:Int),"b"⟩:=⟨_,rfl⟩;have a0:WL H1 H5 f [Z,y2]:=by
  refine⟨ba,[a1,a2],hf,?_⟩;have k1:H5 a1=Vn (.tup Z.vs):=by rw[F];exact e5 _ _ (o _ _ (e3 _ _ ah))
  have k2:H5 a2=Vn (.tup y2.vs):=by rw[G];exact e5 _ _ ai
  exact((bh.nil H5).snoc k1).snoc k2
 have a3:∀u∈[Z,y2],u.Ok3 m:=by
  intro u e;rcases Fo.mp e with rfl|e
  .subst F;exact⟨HY _,by show(0:Int)<m;lia,by show(0:Int)<=1;decide,by show(1:Int)<m;lia,i7,kE⟩
  .rw[Fi.mp e];subst G;exact⟨HY _,by show(0:Int)<m;lia,by show(0:Int)<=1+(U:Int);lia,by show 1+(U:Int)<m;lia,b4,ka⟩
 have a4:[Z,y2].Nodup:=by subst F G;refine Gp.mpr ⟨λz=>?_,by simp⟩;have:=congrArg Way.sign (Fi.mp z);exact uU this
 have a5:∀u∈[Z,y2],u.room<=((0:Nat):Int)/\u.sign≠"c":=by
  intro u e;rcases Fo.mp e with rfl|e
  .subst F;exact⟨HY _,sr⟩
  .rw[Fi.mp e];subst G;exact⟨HY _,ou⟩
 have a6:[Z,y2].length=2:=rfl;generalize [Z,y2]=bb at a0 a3 a4 a5 a6;clear F G ah ai J hf e2 e3 o e5;left;refine dz (by lia) ?_;refine forR (λi σ O=>∃(k:Option V) (us:List Way),σ=[Vn (.int c),Vn (.int p),Vn (.ref dq),Vn (.int U),Vn (.int D),Vn (.int m),Vn (.ref f),k]/\WL H1 O f us/\(∀u∈us,u.Ok3 m)/\us.Nodup/\(∀u∈us,u.room<=(i:Int)/\u.sign≠"c")/\us.length=2+i)
  ⟨Vo,bb,rfl,a0,a3,a4,a5,a6⟩ ?_ ?_
 .rintro i σ O hi ⟨k,us,rfl,wl,ok,d,pr,len⟩;rw[Fl]at hi;left;refine⟨wl.ty (Ext.rfl' _),?_⟩;left
  try refine rd_I (show(0:Int)<(U:Int) by lia) ?_
  left;refine aS λv R o B _=>?_;left;have r0:0<=(0+(i:Int)+1) % (U:Int):=Ge _ (by lia);have r1:(0+(i:Int)+1) % (U:Int)<U:=GU _ (by lia);obtain⟨xs,C,x,a9⟩:=wl.push (w:=⟨1+(0+(i:Int)),"up",1+(0+(i:Int)+1) % (U:Int),"a"⟩) l o B;refine bR C (dY (by lia)) ?_;left;refine⟨_,_,rfl,a9,fS ok ⟨by show 0<=1+(0+(i:Int));lia,by show 1+(0+(i:Int))<m;lia,by show 0<=1+(0+(i:Int)+1) % (U:Int);lia,by show 1+(0+(i:Int)+1) % (U:Int)<m;lia,kW,kE⟩,jh d λz=>?_,jT (λu e=>⟨by have:=(pr u e).1;lia,(pr u e).2⟩) ⟨by show 1+(0+(i:Int))<=_;lia,sr⟩,by simp[len];lia⟩;have:=(pr _ z).1;have:1+(0+(i:Int))<=(i:Int):=this;lia
 clear a0 a3 a4 a5 a6;rintro σ O ⟨k,us,rfl,wl,ok,d,pr,len⟩;rw[Fl]at pr len;left;refine dz (by lia) ?_;refine forR (λi σ O=>∃(k:Option V) (us:List Way),σ=[Vn (.int c),Vn (.int p),Vn (.ref dq),Vn (.int U),Vn (.int D),Vn (.int m),Vn (.ref f),k]/\WL H1 O f us/\(∀u∈us,u.Ok3 m)/\us.Nodup/\(∀u∈us,u.room<=(U:Int)+(i:Int)/\u.sign≠"c"/\(u.room=1+(U:Int)->u.sign = "b"))/\us.length=2+U+i)
  ⟨_,us,rfl,wl,ok,d,λu e=>⟨by have:=(pr u e).1;lia,(pr u e).2,λz=>by have:=(pr u e).1;lia⟩,len⟩ ?_ ?_
 .clear wl ok d pr len;rintro i σ O hi ⟨k,us,rfl,wl,ok,d,pr,len⟩;rw[Fl]at hi;left;refine⟨wl.ty (Ext.rfl' _),?_⟩;left;refine aS λt1 H6 e6 J _=>?_;left;refine aP (ag.of (e6 _ _ (wl.ext _ _ hd))) g3 ?_;obtain⟨x3,bc,be⟩:=kJ (a:=V.str "up") (b:=V.str "down") b0 b1;refine aP (ag.of J) bc ?_;left;obtain⟨z3,rfl,bg⟩:∃z,x3=.str z/\cJ z:=by
   rcases be with rfl|rfl
   .exact⟨_,rfl,kW⟩
   .exact⟨_,rfl,pJ⟩
  try refine rd_I (show(0:Int)<(D:Int) by lia) ?_
  left;refine aS λv R o B _=>?_;left;have r0:0<=(0+(i:Int)+1) % (D:Int):=Ge _ (by lia);have r1:(0+(i:Int)+1) % (D:Int)<D:=GU _ (by lia);obtain⟨xs,C,x,a9⟩:=wl.push (w:=⟨1+(U:Int)+(0+(i:Int)),z3,1+(U:Int)+(0+(i:Int)+1) % (D:Int),"b"⟩) l (e6.trans o) B;refine bR C (dY (by lia)) ?_;left;refine⟨_,_,rfl,a9,fS ok ⟨by show 0<=1+(U:Int)+(0+(i:Int));lia,by show 1+(U:Int)+(0+(i:Int))<m;lia,by show 0<=1+(U:Int)+(0+(i:Int)+1) % (D:Int);lia,by show 1+(U:Int)+(0+(i:Int)+1) % (D:Int)<m;lia,bg,ka⟩,jh d λz=>?_,jT (λu e=>⟨by have:=(pr u e).1;lia,(pr u e).2⟩) ⟨by show 1+(U:Int)+(0+(i:Int))<=_;lia,ou,λ_=>rfl⟩,by simp[len];lia⟩;have:=(pr _ z).1;have:1+(U:Int)+(0+(i:Int))<=(U:Int)+(i:Int):=this;lia
 clear wl ok d pr len;rintro σ O ⟨k,us,rfl,wl,ok,d,pr,len⟩;rw[Fl]at pr len;left;refine⟨wl.ty (Ext.rfl' _),?_⟩;left;refine aS λv R o B _=>?_;left;obtain⟨xs,C,x,I⟩:=wl.push (w:=⟨1,"stay",m-1,"c"⟩) l o B;have ab:=fS ok (w:=⟨1,"stay",m-1,"c"⟩) ⟨by show(0:Int)<=1;decide,by show(1:Int)<m;lia,by show 0<=m-1;lia,by show m-1<m;lia,i7,pK⟩;have ac:=jh d (w:=⟨1,"stay",m-1,"c"⟩) λz=>(pr _ z).2.1 rfl;have pr2:=jT (P:=λu=>u.room<=(U:Int)+(D:Int)/\(u.room=1+(U:Int)->u.sign = "b")) (λu e=>⟨(pr u e).1,(pr u e).2.2⟩) (w:=⟨1,"stay",m-1,"c"⟩) ⟨by show(1:Int)<=_;lia,λz=>by have:(1:Int)=1+(U:Int):=z;lia⟩;refine bR C (dY (by lia)) ?_;generalize upd R f _=H5 at I ⊢;generalize S:us++[_]=aj at I ab ac pr2;have W:aj.length=3+U+D:=by rw[<-S];simp[len];lia
 clear S C x B o wl ok d pr len;left;refine⟨I.ty (Ext.rfl' _),?_⟩;left;refine aS λv R o B _=>?_;left;obtain⟨xs,C,x,A⟩:=I.push (w:=⟨1+(U:Int),"stay",m-1,"a"⟩) l o B;have ok3:=fS ab (w:=⟨1+(U:Int),"stay",m-1,"a"⟩) ⟨by show(0:Int)<=1+(U:Int);lia,by show 1+(U:Int)<m;lia,by show 0<=m-1;lia,by show m-1<m;lia,i7,kE⟩;have L:=jh ac (w:=⟨1+(U:Int),"stay",m-1,"a"⟩) λz=>uU ((pr2 _ z).2 rfl);have pr3:=jT (P:=λu=>u.room<=(U:Int)+(D:Int)) (λu e=>(pr2 u e).1) (w:=⟨1+(U:Int),"stay",m-1,"a"⟩) (by show 1+(U:Int)<=_;lia);refine bR C (dY (by lia)) ?_;generalize upd R f _=H6 at A ⊢;generalize X:aj++[_]=ak at A ok3 L pr3;have Y:ak.length=4+U+D:=by rw[<-X];simp[W];lia
 clear X C x B o I ab ac pr2 W;left;refine iE (λs H'=>∃(k:Option V) (us:List Way),s=[Vn (.int c),Vn (.int p),Vn (.ref dq),Vn (.int U),Vn (.int D),Vn (.int m),Vn (.ref f),k]/\WL H1 H' f us/\(∀u∈us,u.Ok3 m)/\us.Nodup/\(∀u∈us,u.room<=(U:Int)+(D:Int)\/u.sign = "c")/\us.length<=5+U+D) ?_ ?_
 .left;refine aP (ag.of (A.ext _ _ hd)) g4 ?_;left;refine gH (λh=>?_) (λh=>?_)
  .left;refine⟨A.ty (Ext.rfl' _),?_⟩;left;refine aS λv R o B _=>?_;left;obtain⟨xs,C,x,ad⟩:=A.push (w:=⟨m-1,"down",m-1,"c"⟩) l o B;refine bR C (dY (by lia)) ?_;left;exact⟨_,_,rfl,ad,fS ok3 ⟨by show 0<=m-1;lia,by show m-1<m;lia,by show 0<=m-1;lia,by show m-1<m;lia,pJ,pK⟩,jh L λz=>by have:m-1<=(U:Int)+(D:Int):=pr3 _ z;lia,jT (λu e=>.inl (pr3 u e)) (.inr rfl),by simp[Y];lia⟩
  .left;exact⟨_,ak,rfl,A,ok3,L,λu e=>.inl (pr3 u e),by lia⟩
 clear A ok3 L pr3 Y;rintro s H7 ⟨k,us,rfl,wl,ok,d,pr,len⟩;left;refine iE (λs H'=>∃(k:Option V) (us:List Way),s=[Vn (.int c),Vn (.int p),Vn (.ref dq),Vn (.int U),Vn (.int D),Vn (.int m),Vn (.ref f),k]/\WL H1 H' f us/\(∀u∈us,u.Ok3 m)/\us.Nodup/\us.length<=6+U+D) ?_ ?_
 .left;refine aP (ag.of (wl.ext _ _ hd)) g5 ?_;left;refine gH (λh=>?_) (λh=>?_)
  .left;refine⟨wl.ty (Ext.rfl' _),?_⟩;left;refine aS λv R o B _=>?_;left;obtain⟨xs,C,x,ad⟩:=wl.push (w:=⟨m-1,"zero",0,"b"⟩) l o B;refine bR C (dY (by lia)) ?_;left;exact⟨_,_,rfl,ad,fS ok ⟨by show 0<=m-1;lia,by show m-1<m;lia,by show(0:Int)<=0;decide,by show(0:Int)<m;lia,mz,ka⟩,jh d (λz=>(pr _ z).elim (λy=>by have:m-1<=(U:Int)+(D:Int):=y;lia) λy=>ou y),by simp;lia⟩
  .left;exact⟨_,us,rfl,wl,ok,d,by lia⟩
 clear wl ok d pr len;rintro s H8 ⟨k,us,rfl,wl,ok,d,len⟩;left;refine iE (λs H'=>∃(k:Option V) (f:Vb) (cs:List Vb) (us:List Way),s=[Vn (.int c),Vn (.int p),Vn (.ref dq),Vn (.int U),Vn (.int D),Vn (.int m),Vn (.ref f),k]/\Ext H1 H'/\H' f=Vn (.lst (cs.map V.ref))/\bh H' cs us/\(∀u∈us,u.Ok3 m)/\us.Nodup/\us.length<=6+U+D) ?_ ?_
 .left;refine aP (ag.of (wl.ext _ _ hd)) g6 ?_;left;obtain⟨ew,cs,M,al⟩:=wl;refine gH (λh=>?_) (λh=>?_)
  .left;refine⟨rfl,wu (ag.of M) (cE λr H9 e9 bi _=>?_)⟩;left;exact⟨_,r,cs.reverse,us.reverse,rfl,ew.trans e9,by rw[bi,List.map_reverse],(al.ext e9).rev,λu e=>ok u (List.mem_reverse.mp e),List.pairwise_reverse.mpr (d.imp λh=>Gi h),by rw[Gh];lia⟩
  .left;exact⟨_,f,cs,us,rfl,ew,M,al,ok,d,by lia⟩
 clear wl ok d len;rintro s H9 ⟨k,g,cs,us,rfl,ew,M,al,ok,d,len⟩;left;refine lV (ag.of M) (cE λr I1 i1 bl _=>?_);left;refine aS λt I2 i2 ht _=>?_;exact q _ m us I2 (eH.trans (ew.trans (i1.trans i2))) (bt.mk ht (((al.ext i1).ways bl).ext i2)) ⟨by lia,by lia,by lia,ok,d⟩
inductive sG(K:E3)(vs:List V)(H:Hp)(Q:VK)(E:XK):Prop|mk:∀c p,vs=[.int c,.int p]->0<p->(∀v m ws H',Ext H H'->bt H' v m ws->HOuse3 m ws->Q v H')->sG K vs H Q E
def zx(T:Bu w mg base):Cal P w K mg base "_law_house" 4 ["_law_cell_here","_law_prime"] (sG K):=by
 refine(bZ T.d__law_house).oS ["_law_cell_here","_law_prime","_law_kind","_law_left"] λa nd H vs Q E h=>?_;obtain⟨c,p,rfl,d,q⟩:=h;refine⟨_,(av (aH (i:=2) nd rfl oi (ax (aQ K) (aG (iI T) a (aw (pv 0) (aw (bI (aw ae aa)) (aw (pv 1) aa)))) ae (λ_ _=>rfl)))
   (av (aH (i:=3) nd rfl oi (aG (Ba T) a (aw (pv 0) (aw ae aa))))
   (av (bB (aT bG (pv 2) ae (aR _)) (az (aK (aG (zV T) a (aw (pv 3) (aw (pv 1) aa))))) aV)
   (av (bB (aT bG (pv 2) ae (aR _)) (az (aK (aG (Ey T) a (aw (pv 3) (aw (pv 1) aa))))) aV)
   (az (aK (aG (As T) a (aw (pv 3) (aw (pv 1) aa))))))))),?_⟩
 left;refine aS λs u j f _=>?_;left;refine kI [8] f (by decide) (by decide) (d) λdq ds H1 l hd n o hb=>?_;have g:Ext H H1:=j.trans l;obtain⟨x,r,_⟩:=cU o hb 0 rfl;left;refine aP (ag.of hd) r ?_;left;refine⟨c,8,rfl,by decide,by decide,λz=>?_⟩;left;refine gH (λh=>?_) (λh=>?_)
 .left;exact⟨z,p,rfl,d,λv m ws H' e b ok=>q v m ws H' (g.trans e) b ok⟩
 .left;refine gH (λh=>?_) (λh=>?_)
  .left;exact⟨z,p,rfl,d,λv m ws H' e b ok=>q v m ws H' (g.trans e) b ok⟩
  .left;exact⟨z,p,rfl,d,λv m ws H' e b ok=>q v m ws H' (g.trans e) b ok⟩
def kc{a b:Vm}:decide (V.str a=V.str b)=decide (a=b):=by
 by_cases h:a=b
 .simp
 .rw[F3 h,F3 (λz=>h (V.str.inj z))]
def cD{a b:Vm}(h:Q (.bl (decide (a=b))) H):lD (.str a) (.str b) H Q:=⟨rfl,by rw[kc];exact h⟩
def DX{a b:Vm}(h:Q (.bl (!decide (a=b))) H):mT (.str a) (.str b) H Q:=⟨rfl,by rw[kc];exact h⟩
def bU{F:α->β->Prop}{cs:List α}{ts:List β}(h:Paired F cs ts):∀{i:Nat} {c},cs[i]?=Vn c->∃t,ts[i]?=Vn t/\F c t:=by
 induction h with
 | nil=>intro i c e;simp at e
 | cons h t a=>
  intro i c e;cases i with
  | zero=>cases e;exact⟨_,rfl,h⟩
  | succ i=>exact a e
def oO{F:α->β->Prop}{cs:List α}{ts:List β}(h:Paired F cs ts):∀{i:Nat} {t},ts[i]?=Vn t->∃c,cs[i]?=Vn c/\F c t:=by
 induction h with
 | nil=>intro i c e;simp at e
 | cons h t a=>
  intro i c e;cases i with
  | zero=>cases e;exact⟨_,rfl,h⟩
  | succ i=>exact a e
abbrev ao(H:Hp)(a:Vb)(x:Bfs.Pl):Prop:=H a=Vn (.tup [.int x.1,.int x.2])
abbrev aA(x:Bfs.Pl):List Key:=[.inl x.1,.inl x.2]
def g9(h:aA x=aA y):x=y:=by simp only[aA,List.cons.injEq,Sum.inl.injEq,and_true]at h;exact HF h.1 h.2
def ao.put(b:H f=Vn o)(c:∀xs,o≠.tup xs)(h:ao H a x):ao (upd H f o') a x:=by show upd H f o' a=_;rw[aB (bp h b (λz=>c _ z.symm))];exact h
def cF(m:Int)(x:Bfs.Pl):Prop:=0<=x.1/\x.1<m/\0<=x.2/\x.2<=1000
inductive vY(K:E3)(vs:List V)(H:Hp)(Q:VK)(E:XK):Prop|mk:∀a b m l as xs,vs=[.ref a,.ref l]->H a=Vn (.tup [.int m,b])->H l=Vn (.lst (A0 V.ref as))->Paired (ao H) as xs->(∀x∈xs,cF m x)->Q .non H->vY K vs H Q E
theorem BM(T:Bu w mg base):Cal P w K mg base "refuse_bad_places" 3 ["house","places"] (vY K):=by
 obtain⟨c,a⟩:=T.g_GREATEST_NUMBER;refine(bZ T.d_refuse_bad_places).oS ["house","places","place"] λn nd H vs Q E h=>?_;obtain⟨g,r,m,l,as,xs,rfl,h1,h2,j,hin,q⟩:=h;refine⟨_,(av (bJ F8 rfl (bP K (pv 1)) (aO (i:=2) nd rfl oi) (az (bB (PW.pt (cY (cI (bT (aG (pO T) n (aw (ax (aD K) (pv 2) ae (λ_ _=>rfl)) (aw (ax (aD K) (pv 0) ae (λ_ _=>rfl)) aa))))) (eL (aT fm (ax (aD K) (pv 2) ae (λ_ _=>rfl)) ae (aR _))))) (az jb) aV)))
   (az (bJ F8 rfl (bP K (pv 1)) (aO (i:=2) nd rfl oi) (az (bB (aT fF (ax (aD K) (pv 2) ae (λ_ _=>rfl)) (kq (v:=.int 1000) rfl a ⟨_,rfl⟩) (aR _)) (az jb) aV))))),?_⟩
 left;refine bQ (ag.of h2) ?_;refine forL (xs:=A0 V.ref as) (λi σ H'=>H'=H/\∃k,σ=[Vn (.ref g),Vn (.ref l),k]) ⟨rfl,Vo,rfl⟩ (λi σ H' _ h=>by rw[h.1];exact ag.of h2) ?_ ?_
 .rintro i x σ H' e ⟨rfl,k,rfl⟩;rw[E9]at e;obtain⟨b,hb,rfl⟩:=Fj.mp e;obtain⟨t,f,d⟩:=bU j hb;obtain⟨r0,r1,o,p⟩:=hin t (Fh f);left;refine aE (ay.of d) (v:=.int t.1) rfl ?_;left;refine aE (ay.of h1) (v:=.int m) rfl ?_;left;refine⟨_,_,rfl,r0,r1,?_⟩;left;nofun;refine aE (ay.of d) (v:=.int t.2) rfl ?_;left;rw[F3 (show ¬t.2<0 by lia)];nofun;exact⟨rfl,_,rfl⟩
 .rintro σ H' ⟨rfl,k,rfl⟩;left;refine bQ (ag.of h2) ?_;refine forL (xs:=A0 V.ref as) (λi σ H2=>H2=H'/\∃k,σ=[Vn (.ref g),Vn (.ref l),k]) ⟨rfl,_,rfl⟩ (λi σ H2 _ h=>by rw[h.1];exact ag.of h2) ?_ ?_
  .rintro i x σ H2 e ⟨rfl,k,rfl⟩;rw[E9]at e;obtain⟨b,hb,rfl⟩:=Fj.mp e;obtain⟨t,f,d⟩:=bU j hb;obtain⟨r0,r1,o,p⟩:=hin t (Fh f);left;refine aE (ay.of d) (v:=.int t.2) rfl ?_;left;rw[F3 (show ¬(1000:Int)<t.2 by lia)];nofun;exact⟨rfl,_,rfl⟩
  .rintro σ H2 ⟨rfl,k,rfl⟩;left;exact q
def cw(w:Way)(r n:Int):Bool:=decide (w.room=r) && (if decide (w.deed = "down")=true then decide (0<n)else(!decide (w.deed = "zero") || decide (n=0)))
inductive wq(K:E3)(vs:List V)(H:Hp)(Q:VK)(E:XK):Prop|mk:∀b w p x,vs=[.ref b,.ref p]->H b=Vn (.tup (Way.vs w))->ao H p x->Q (.bl (cw w x.1 x.2)) H->wq K vs H Q E
def l5(T:Bu w mg base):Cal P w K mg base "is_open" 1 ["way","place"] (wq K):=by
 refine(bZ T.d_is_open).oS ["way","place"] λd nd H vs Q E h=>?_;obtain⟨b,w,p,⟨r,n⟩,rfl,h1,h2,q⟩:=h;refine⟨_,(av (bB (aT iR (ax (aD K) (pv 0) ae (λ_ _=>rfl)) (ax (aD K) (pv 1) ae (λ_ _=>rfl)) (aR _)) (az (aK b8)) aV)
   (av (bB (aT bG (ax (aD K) (pv 0) ae (λ_ _=>rfl)) a8 (aR _)) (az (aK (c6 fF (ax (aD K) (pv 1) ae (λ_ _=>rfl)) ae (aR _)))) aV)
   (az (aK (um (c6 iR (ax (aD K) (pv 0) ae (λ_ _=>rfl)) a8 (aR _)) (dG (c6 bG (ax (aD K) (pv 1) ae (λ_ _=>rfl)) ae (aR _)))))))),?_⟩
 left;refine aE (ay.of h1) rfl ?_;left;refine aE (ay.of h2) rfl ?_;left;unfold cw at q;dsimp only at q;by_cases e:w.room=r
 .rw[F4 e];nofun;rw[F4 e,Bool.true_and]at q;refine aE (ay.of h1) (v:=.str w.deed) rfl ?_;left;refine cD ?_;refine rd_exb ?_;cases a:decide (w.deed = "down")with
  | true=>
   rw[a]at q;right;refine aE (ay.of h2) (v:=.int n) rfl ?_;left;exact q
  | false=>
   rw[a]at q;nofun;refine aE (ay.of h1) (v:=.str w.deed) rfl ?_;left;refine DX ?_;refine rd_exb ?_;cases c:decide (w.deed = "zero")with
   | true=>
    rw[c]at q;nofun;refine aE (ay.of h2) (v:=.int n) rfl ?_;left;exact q
   | false=>
    rw[c]at q;exact aI q
 .rw[F3 e];right;rw[F3 e,Bool.false_and]at q;exact q
def yV{K:E3}{b c d e f g i j:Tok}(h:K.lookup a=Vn (jc w [("up",b,.int 1 c),("down",d,.int (-1) e),("stay",f,.int 0 g),("zero",i,.int 0 j)] ep))(hs:(a == sysModules)=false):GDict w K a mI:=
 ⟨⟨_,_,h,.cons ⟨rfl,⟨_,rfl⟩⟩ (.cons ⟨rfl,⟨_,rfl⟩⟩ (.cons ⟨rfl,⟨_,rfl⟩⟩ (.cons ⟨rfl,⟨_,rfl⟩⟩ .nil)))⟩,by decide +kernel,hs⟩
def rz(z:Vm):Int:=if z = "up" then 1 else if z = "down" then -1 else 0
def zE{z:Vm}(h:cJ z):a7 mI (.inr z)=Vn (.int (rz z)):=by rcases h with rfl|rfl|rfl|rfl<;>decide +kernel
inductive ui(K:E3)(vs:List V)(H:Hp)(Q:VK)(E:XK):Prop|mk:∀b w,vs=[.ref b]->H b=Vn (.tup (Way.vs w))->cJ w.deed->Q (.int (rz w.deed)) H->ui K vs H Q E
def Eg(T:Bu w mg base):Cal P w K mg base "raised_by" 1 ["way"] (ui K):=by obtain⟨d,a,c⟩:=T.h_RAISED;refine(cH T.d_raised_by).oS ["way"] λe nd H vs Q E h=>?_;obtain⟨b,w,rfl,h1,hd,q⟩:=h;refine⟨_,(az (aK (DL rfl a c (ax (aD K) (pv 0) ae (λ_ _=>rfl)) (λ_ _=>rfl)))),?_⟩;left;refine aE (ay.of h1) rfl ?_;exact Dh (zE hd) q
def pZ(z):-1<=rz z:=by
 unfold rz;split
 .decide
 .split<;>decide
def tH(z):rz z<=1:=by
 unfold rz;split
 .decide
 .split<;>decide
inductive u5(K:E3)(vs:List V)(H:Hp)(Q:VK)(E:XK):Prop|mk:∀b w p x,vs=[.ref b,.ref p]->H b=Vn (.tup (Way.vs w))->cJ w.deed->ao H p x->(∀t H',Ext H H'->ao H' t (w.other,x.2+rz w.deed)->H t=Vo->Q (.ref t) H')->u5 K vs H Q E
def lC(T:Bu w mg base):Cal P w K mg base "led_to" 2 ["way","place"] (u5 K):=by refine(bZ T.d_led_to).oS ["way","place"] λc nd H vs Q E h=>?_;obtain⟨b,w,p,⟨r,n⟩,rfl,h1,hd,h2,q⟩:=h;refine⟨_,(az (aK (bH (aw (ax (aD K) (pv 0) ae (λ_ _=>rfl)) (aw (aJ bx (ax (aD K) (pv 1) ae (λ_ _=>rfl)) (aG (Eg T) c (aw (pv 0) aa))) aa))))),?_⟩;left;refine aE (ay.of h1) rfl ?_;left;refine aE (ay.of h2) rfl ?_;left;refine⟨b,w,rfl,h1,hd,?_⟩;left;refine aS λt H1 d e a=>?_;exact q t H1 d e a
def v8{K:E3}{g:TG}(Pv:Nat->St->Hp->Prop)(h0:Pv 0 σ H)(c:∀i σ H,i<=xs.length->Pv i σ H->ay K H a xs)
  (hs:∀i u σ H p H',xs[i]?=Vn u->Pv i σ H->Ext H H'->H' p=Vn (.tup [.int i,u])->H p=Vo->g (.ref p) σ H' λb H2=>tb { D with nx:=Pv (i+1),ct:=Pv (i+1),bk:=D.nx } b H2) (hd:∀σ H,Pv xs.length σ H->D.nx σ H) :
  iH (iP K a) g tb D σ H:=C9 Pv h0 c hs hd
def cQ(z:Vm)(n:Int):Option Int:=
 if decide (z = "up")=true then Vn (n+1)else if decide (z = "down")=true then(if decide (0<n)=true then Vn (n-1)else Vo)else if decide (z = "stay")=true then Vn n else if decide (z = "zero")=true then(if decide (n=0)=true then Vn n else Vo)else Vo
def eY(w:Way)(r n:Int)(j:Nat):List (Int×Int×Int):=if decide (w.room=r)=true then((cQ w.deed n).map λa=>((j:Int),w.other,a)).toList else[]
def cO(ws:List Way)(r n:Int):Nat->List (Int×Int×Int)
 | 0=>[]
 | k+1=>cO ws r n k++((ws[k]?).map λw=>eY w r n k).getD []
def sD{n:Int}{w:Way}(h:ws[i]?=Vn w):cO ws r n (i+1)=cO ws r n i++eY w r n i:=by show _++((ws[i]?).map λw=>eY w r n i).getD []=_;rw[h];rfl
def Du(w)(r n)(j):(eY w r n j).length<=1:=by
 unfold eY;split
 .cases cQ w.deed n<;>simp
 .simp
theorem oA(ws:List Way)(r n:Int):∀k,(cO ws r n k).length<=k
 | 0=>Fu _
 | k+1=>by
  have:=oA ws r n k;show(cO ws r n k++((ws[k]?).map λw=>eY w r n k).getD []).length<=k+1;cases h:ws[k]? with
  | none=>simp;lia
  | some w=>
   have:=Du w r n k;simp;lia
def nB{w:Way}{n:Int}(h:w.room≠r):eY w r n j=[]:=by unfold eY;rw[F3 h];rfl
def fR{w:Way}{n:Int}{o:Option Int}(h:w.room=r)(hs:cQ w.deed n=o):eY w r n j=(o.map λa=>((j:Int),w.other,a)).toList:=by unfold eY;rw[F4 h,hs];rfl
def dA(H:Hp)(c:Vb)(t:Int×Int×Int):Prop:=∃d,H c=Vn (.tup [.int t.1,.ref d])/\H d=Vn (.tup [.int t.2.1,.int t.2.2])
def qD(f:∀c t,dA H c t->dA H' c t){cs:List Vb}(h:Paired (dA H) cs ts):Paired (dA H') cs ts:=by
 induction h with
 | nil=>exact .nil
 | cons h t a=>exact .cons (f _ _ h) a
def CU{cs:List Vb}(h:Paired (dA H) cs ts)(a:dA H c t):Paired (dA H) (cs++[c]) (ts++[t]):=by
 induction h with
 | nil=>exact .cons a .nil
 | cons h _ b=>exact .cons h b
def dA.ext(e:Ext H H')(h:dA H c t):dA H' c t:=by obtain⟨d,h1,h2⟩:=h;exact⟨d,e _ _ h1,e _ _ h2⟩
def dA.put(a:H f=Vn (.lst xs))(h:dA H c t):dA (upd H f (.lst ys)) c t:=by obtain⟨d,h1,h2⟩:=h;exact⟨d,by rw[aB (bp h1 a (by intro z;cases z))];exact h1,by rw[aB (bp h2 a (by intro z;cases z))];exact h2⟩
structure BL(H0 H:Hp)(f:Vb)(ts:List (Int×Int×Int)):Prop where
 ext:Ext H0 H
 at_:∃cs:List Vb,H f=Vn (.lst (cs.map V.ref))/\Paired (dA H) cs ts
def BL.push{d:Vb}{j o n:Int}(h:BL H0 H f ts)(hfn:H0 f=Vo)(e:Ext H H1)(hd:H1 d=Vn (.tup [.int o,.int n]))(b:H1 c=Vn (.tup [.int j,.ref d])):
  ∃xs,H1 f=Vn (.lst xs)/\xs.length=ts.length/\BL H0 (upd H1 f (.lst (xs++[.ref c]))) f (ts++[(j,o,n)]):=by
 obtain⟨g,cs,i,al⟩:=h;have a:=e _ _ i;have l:dA H1 c (j,o,n):=⟨d,b,hd⟩;refine⟨cs.map V.ref,a,by rw[E7];exact F9 al,bM (g.trans e) hfn,cs++[c],by rw[aF,Fq];rfl,CU (qD (λ_ _ z=>(z.ext e).put a) al) (l.put a)⟩
def BL.ty{K:E3}(h:BL H0 H f ts)(e:Ext H H1):ij K "list" (.ref f) H1:=by obtain⟨_,cs,a,al⟩:=h;exact cg (ag.of (e _ _ a))
def BL.step(h:BL H0 H f ts)(e:Ext H H1):BL H0 H1 f ts:=by obtain⟨a,cs,b,al⟩:=h;exact⟨a.trans e,cs,e _ _ b,qD (λ_ _ z=>z.ext e) al⟩
def tu:decide ((FP "up")=FP "down")=false:=by decide +kernel
def DZ:decide ((FP "up")=FP "stay")=false:=by decide +kernel
def uC:decide ((FP "up")=FP "zero")=false:=by decide +kernel
def xS:decide ((FP "down")=FP "up")=false:=by decide +kernel
def t9:decide ((FP "down")=FP "stay")=false:=by decide +kernel
def wW:decide ((FP "down")=FP "zero")=false:=by decide +kernel
def qS:decide ((FP "stay")=FP "up")=false:=by decide +kernel
def mO:decide ((FP "stay")=FP "down")=false:=by decide +kernel
def tR:decide ((FP "zero")=FP "up")=false:=by decide +kernel
def mJ:decide ((FP "zero")=FP "down")=false:=by decide +kernel
def w8:decide ((FP "zero")=FP "stay")=false:=by decide +kernel
def fh(z:Vm):decide (z=z)=true:=F4 rfl
def j8(n):cQ "up" n=Vn (n+1):=by rfl
def iG(n):cQ "down" n=if decide (0<n)=true then Vn (n-1)else Vo:=by rfl
def j9(n):cQ "stay" n=Vn n:=by rfl
def hV(n):cQ "zero" n=if decide (n=0)=true then Vn n else Vo:=by rfl
inductive uP(K:E3)(vs:List V)(H:Hp)(Q:VK)(E:XK):Prop|mk:∀v m ws p r n,vs=[v,.ref p]->bt H v m ws->HOuse m ws->H p=Vn (.tup [.int r,.int n])->(∀l H' cs,Ext H H'->H l=Vo->H' l=Vn (.lst (A0 V.ref cs))->Paired (dA H') cs (cO ws r n ws.length)->Q (.ref l) H')->uP K vs H Q E
theorem jr(T:Bu w mg base):Cal P w K mg base "_law_behind" 1 ["_law_house_here","_law_place"] (uP K):=by
 refine(bZ T.d__law_behind).oS ["_law_house_here","_law_place","_law_found","_law_k","_law_room","_law_deed","_law_other","_law_sign"] λhr nd H vs Q E h=>?_;obtain⟨v,m,ws,p,r,n,rfl,⟨X,t,rfl,Y,Z⟩,ok,hp,q⟩:=h;obtain⟨bs,R,al⟩:=cx.al Z;have S:=ok.few;refine⟨_,(av (aH (i:=2) nd rfl oi (bI aa))
   (av (bJ F8 rfl (tX K rfl T.enumerate_ (aw (ax (aD K) (pv 0) ae (λ_ _=>rfl)) aa)) (dw (n:=2) K rfl (bF (aO (i:=3) nd rfl oi) (bF (dw (n:=4) K rfl (bF (aO (i:=4) nd rfl oi) (bF (aO (i:=5) nd rfl oi) (bF (aO (i:=6) nd rfl oi) (bF (aO (i:=7) nd rfl oi) df))))) df))) (az (cL (aT bG (pv 4) (ax (aD K) (pv 1) ae (λ_ _=>rfl)) (aR _)) (av (cL (aT bG (pv 5) a8 (aR _)) (az (bA (bO K Ff Fv Fw bV (pv 2) (aw (bH (aw (pv 3) (aw (bH (aw (pv 6) (aw (aJ bx (ax (aD K) (pv 1) ae (λ_ _=>rfl)) ae) aa))) aa))) aa)))) aV)
   (av (cL (PW.pt (gZ (aT bG (pv 5) a8 (aR _)) (ir (aT fF (ax (aD K) (pv 1) ae (λ_ _=>rfl)) ae (aR _))))) (az (bA (bO K Ff Fv Fw bV (pv 2) (aw (bH (aw (pv 3) (aw (bH (aw (pv 6) (aw (aJ dR (ax (aD K) (pv 1) ae (λ_ _=>rfl)) ae) aa))) aa))) aa)))) aV)
   (az (cL (PW.pt (cY (aT bG (pv 5) a8 (aR _)) (eL (PW.pt (gZ (aT bG (pv 5) a8 (aR _)) (ir (aT bG (ax (aD K) (pv 1) ae (λ_ _=>rfl)) ae (aR _)))))))) (az (bA (bO K Ff Fv Fw bV (pv 2) (aw (bH (aw (pv 3) (aw (bH (aw (pv 6) (aw (ax (aD K) (pv 1) ae (λ_ _=>rfl)) aa))) aa))) aa)))) aV)))) aV)))
   (az (aK (pv 2))))),?_⟩
 left;refine aS λf H1 G hf hfn=>?_;left;refine aE (ay.of (G _ _ Y)) (v:=.ref t) rfl ?_;left;refine rN (ay.of (G _ _ R)) ?_;refine v8 (xs:=bs.map V.ref) (λi σ H'=>∃k1 k2 k3 I k5,σ=[Vn (.ref X),Vn (.ref p),Vn (.ref f),k1,k2,k3,I,k5]/\BL H H' f (cO ws r n i)) ⟨Vo,Vo,Vo,Vo,Vo,rfl,G,[],hf,.nil⟩ (λi σ H' _ h=>by obtain⟨_,_,_,_,_,_,bl⟩:=h;exact ay.of (bl.ext _ _ R)) ?_ ?_
 .rintro i u σ H2 pp H3 U ⟨k1,k2,k3,I,k5,rfl,C⟩ e3 J _;rw[E9]at U;obtain⟨b,hb,rfl⟩:=Fj.mp U;have hi:i<ws.length:=by rw[<-al.1];exact(Fg.mp hb).1
  have s:ws[i]?=Vn ws[i]:=E8 hi;have bl:=C.step e3;have W:=bl.ext _ _ (al.2 i b _ hb s);have g:=bl.ext _ _ hp;have F:=(ok.ok _ (FA hi)).dd;rw[sD s];have hlen:=oA ws r n i;generalize cO ws r n i=ts at bl hlen;clear C s;generalize ws[i]=w at W F ⊢;obtain⟨room,deed,other,sign⟩:=w;refine dD (ay.of J) rfl ?_;left;refine dD (ay.of W) rfl ?_;left;refine cC ?_;left;refine aE (ay.of g) (v:=.int r) rfl ?_;left;by_cases l:room=r
  rotate_left
  .rw[F3 l];nofun;refine⟨_,_,_,_,_,rfl,?_⟩;rw[nB l,GJ];exact bl
  .rw[F4 l];refine aI ?_;rcases F with e|e|e|e<;>(simp only at e;subst e)
   .rw[fR l (j8 n)];left;refine cC ?_;left;refine cD ?_;rw[fh];exfalso;left;refine⟨bl.ty (Ext.rfl' _),?_⟩;left;refine aE (ay.of g) (v:=.int n) rfl ?_;left;refine aS λd L x hd _=>?_;left;refine aS λc y j z _=>?_;left;obtain⟨xs,A,B,a⟩:=bl.push hfn (x.trans j) (j _ _ hd) z;refine bR A (dY (by lia)) ?_;generalize upd y f _=M at a ⊢;left;refine cC ?_;left;refine cD ?_;rw[tu];symm;nofun;refine cC ?_;left;refine cD ?_;rw[DZ];symm;left;refine cD ?_;rw[uC];symm;nofun;exact⟨_,_,_,_,_,rfl,a⟩
   .left;refine cC ?_;left;refine cD ?_;rw[xS];symm;left;refine cC ?_;left;refine cD ?_;rw[fh];exfalso;left;refine aE (ay.of g) (v:=.int n) rfl ?_;left;by_cases o:0<n
    .rw[F4 o];right;refine⟨bl.ty (Ext.rfl' _),?_⟩;left;refine aE (ay.of g) (v:=.int n) rfl ?_;left;refine aS λd L x hd _=>?_;left;refine aS λc y j z _=>?_;left;obtain⟨xs,A,B,a⟩:=bl.push hfn (x.trans j) (j _ _ hd) z;refine bR A (dY (by lia)) ?_;generalize upd y f _=M at a ⊢;left;refine cC ?_;left;refine cD ?_;rw[t9];symm;left;refine cD ?_;rw[wW];symm;nofun;refine⟨_,_,_,_,_,rfl,?_⟩;rw[fR l (iG n),F4 o];exact a
    .rw[F3 o];nofun;refine cC ?_;left;refine cD ?_;rw[t9];symm;left;refine cD ?_;rw[wW];symm;nofun;refine⟨_,_,_,_,_,rfl,?_⟩;rw[fR l (iG n),F3 o];simpa using bl
   .left;refine cC ?_;left;refine cD ?_;rw[qS];symm;left;refine cC ?_;left;refine cD ?_;rw[mO];symm;nofun;refine cC ?_;left;refine cD ?_;rw[fh];exfalso;right;refine⟨bl.ty (Ext.rfl' _),?_⟩;left;refine aE (ay.of g) (v:=.int n) rfl ?_;left;refine aS λd L x hd _=>?_;left;refine aS λc y j z _=>?_;left;obtain⟨xs,A,B,a⟩:=bl.push hfn (x.trans j) (j _ _ hd) z;refine bR A (dY (by lia)) ?_;generalize upd y f _=M at a ⊢;left;refine⟨_,_,_,_,_,rfl,?_⟩;rw[fR l (j9 n)];exact a
   .left;refine cC ?_;left;refine cD ?_;rw[tR];symm;left;refine cC ?_;left;refine cD ?_;rw[mJ];symm;nofun;refine cC ?_;left;refine cD ?_;rw[w8];symm;left;refine cD ?_;rw[fh];exfalso;left;refine aE (ay.of g) (v:=.int n) rfl ?_;left;by_cases o:n=0
    .rw[F4 o];right;refine⟨bl.ty (Ext.rfl' _),?_⟩;left;refine aE (ay.of g) (v:=.int n) rfl ?_;left;refine aS λd L x hd _=>?_;left;refine aS λc y j z _=>?_;left;obtain⟨xs,A,B,a⟩:=bl.push hfn (x.trans j) (j _ _ hd) z;refine bR A (dY (by lia)) ?_;generalize upd y f _=M at a ⊢;left;refine⟨_,_,_,_,_,rfl,?_⟩;rw[fR l (hV n),F4 o];exact a
    .rw[F3 o];nofun;refine⟨_,_,_,_,_,rfl,?_⟩;rw[fR l (hV n),F3 o];simpa using bl
 .rintro σ H' ⟨k1,k2,k3,I,k5,rfl,bl⟩;rw[E7,al.1]at bl;obtain⟨ew,cs,N,O⟩:=bl;left;exact q f H' cs ew hfn N O
def DP{α:Type}{l:List α}(b:l.Nodup){i j:Nat}{a:α}(hi:l[i]?=Vn a)(e:l[j]?=Vn a):i=j:=by
 obtain⟨h1,c⟩:=Fg.mp hi;obtain⟨h2,d⟩:=Fg.mp e;rcases IP i j with z|z|z
 .exact absurd (c.trans d.symm) (Hk.mp b i j h1 h2 z)
 .exact z
 .exact absurd (d.trans c.symm) (Hk.mp b j i h2 h1 z)
def cB(ws:List Way)(r:Int)(k:Nat):List Nat:=(F2 k).filter λj=>(ws[j]?).any λw=>decide (w.room=r)
def yl{w:Way}(h:ws[i]?=Vn w):cB ws r (i+1)=cB ws r i++if w.room=r then[i]else[]:=by
 unfold cB;rw[Hm,GL];congr 1;simp only[GQ,List.filter_nil,h,Option.any_some];by_cases e:w.room=r
 .rw[F4 e,F6 rfl,F6 e]
 .rw[F3 e,F5 (by decide),F5 e]
def D8(ws)(r)(k):(cB ws r k).length<=k:=by exact FI (GF _ _) (KI G6)
def BJ{w:Way}(h:ws[j]?=Vn w)(e:w.room=r):j∈cB ws r ws.length:=by unfold cB;rw[GC,GK,h];exact⟨(Fg.mp h).1,by simp[e]⟩
def nj(h:j∈cB ws r ws.length):∃w,ws[j]?=Vn w/\w.room=r:=by unfold cB at h;rw[GC,GK]at h;have e:=E8 h.1;rw[e]at h;exact⟨_,e,by simpa using h.2⟩
def cj(h:n<=24100):n<sizeLine:=Gv h (by decide)
abbrev aW(l:List Nat):List V:=l.map λj:Nat=>V.int (j:Int)
def lj(l)(k):aW (l++[k])=aW l++[.int (k:Int)]:=Fq
structure CT(H:Hp)(c:Vb)(m:Int)(ls:List Vb)(ws:List Way)(k:Nat):Prop where
 at_:H c=Vn (.lst (A0 V.ref ls))
 len:ls.length=m.toNat
 nd:ls.Nodup
 it:∀(r:Nat) (l:Vb),ls[r]?=Vn l->H l=Vn (.lst (aW (cB ws r k)))
def CT.ext(e:Ext H H')(h:CT H c m ls ws k):CT H' c m ls ws k:=
 ⟨e _ _ h.at_,h.len,h.nd,λr l a=>e _ _ (h.it r l a)⟩
inductive w5(K:E3)(vs:List V)(H:Hp)(Q:VK)(E:XK):Prop|mk:∀v m ws,vs=[v]->bt H v m ws->HOuse m ws->(∀c ls H',Ext H H'->CT H' c m ls ws ws.length->Q (.ref c) H')->w5 K vs H Q E
theorem xc(T:Bu w mg base):Cal P w K mg base "counts_by_room" 1 ["house"] (w5 K):=by
 refine(cH T.d_counts_by_room).oS ["house","counts","count","way"] λhr nd H vs Q E h=>?_;obtain⟨v,m,ws,rfl,⟨hh,t,rfl,U,g2⟩,ok,q⟩:=h;obtain⟨bs,W,al⟩:=cx.al g2;have X:=ok.few;have m1:=ok.m1;have m2:=ok.m12;refine⟨_,(av (fE (i:=1) ["room"] [] nd rfl oi (dv rfl T.range_ (aw (ax (aD K) (pv 0) ae (λ_ _=>rfl)) aa)) (λ_=>(aO (i:=0) (show(["room"]:List Vm).Nodup from by decide +kernel) rfl oi oj)) (λ_=>dm) (λ_=>(bI aa)))
   (av (bJ F8 rfl (tX K rfl T.enumerate_ (aw (ax (aD K) (pv 0) ae (λ_ _=>rfl)) aa)) (dw (n:=2) K rfl (bF (aO (i:=2) nd rfl oi) (bF (aO (i:=3) nd rfl oi) df))) (az (bA (bO K Ff Fv Fw bV (ax (aQ K) (pv 1) (ax (aD K) (pv 3) ae (λ_ _=>rfl)) (λ_ _=>rfl)) (aw (pv 2) aa)))))
   (az (aK (pv 1))))),?_⟩
 left;refine aE (ay.of U) (v:=.int m) rfl ?_;left;refine dz ⟨by lia,by lia⟩ ?_;refine gK (λi ys H'=>Ext H H'/\∃ls:List Vb,ys=A0 V.ref ls/\ls.length=i/\ls.Nodup/\∀l∈ls,H' l=Vn (.lst [])/\H l=Vo) (iV (by lia)) ⟨Ext.rfl' _,[],rfl,rfl,Gq,λl h=>by cases h⟩ (λi ys H' _ h=>by obtain⟨_,ls,rfl,f,_⟩:=h;rw[E7,f];exact Fu _) ?_ ?_
 .rintro i ys H' hi ⟨e,ls,rfl,f,j,hls⟩;left;right;refine aS λl H1 Y N o=>?_;refine⟨e.trans Y,ls++[l],by rw[Fq];rfl,by rw[Fs,f];rfl,?_,?_⟩
  .rw[GD];refine⟨j,by simp,λa ha b hb z=>?_⟩;have:b=l:=by simpa using hb
   subst this;subst z;rw[(hls a ha).1]at o;cases o
  .intro a ha;rcases Fx.mp ha with z|z
   .exact⟨Y _ _ (hls a z).1,(hls a z).2⟩
   .have:a=l:=by simpa using z
    subst this;exact⟨N,e.none o⟩
 .rintro ys H1 c ⟨e,ls,rfl,f,j,hls⟩ J;left;have L:Ext H (upd H1 c (.lst (A0 V.ref ls))):=e.trans (aY J);have a0:H c=Vo:=e.none J;have B:CT (upd H1 c (.lst (A0 V.ref ls))) c m ls ws 0:=⟨aF,f,j,λr l f=>by have:=(hls l (Fh f)).1;rw[aB (cG this J)];exact this⟩
  have hcl:∀l∈ls,H l=Vo:=λl h=>(hls l h).2;generalize upd H1 c (.lst (A0 V.ref ls))=H2 at L B ⊢;clear hls J e H1;refine aE (ay.of (L _ _ U)) (v:=.ref t) rfl ?_;left;refine rN (ay.of (L _ _ W)) ?_;refine v8 (xs:=bs.map V.ref) (λi σ H'=>∃k1 k2,σ=[Vn (.ref hh),Vn (.ref c),k1,k2]/\Ext H H'/\CT H' c m ls ws i) ⟨Vo,Vo,rfl,L,B⟩ (λi σ H' _ h=>by obtain⟨_,_,_,e,_⟩:=h;exact ay.of (e _ _ W)) ?_ ?_
  .rintro i u σ H3 pp H4 Z ⟨k1,k2,rfl,O,C⟩ e4 R _;rw[E9]at Z;obtain⟨b,hb,rfl⟩:=Fj.mp Z;have hi:i<ws.length:=by rw[<-al.1];exact(Fg.mp hb).1
   have p:ws[i]?=Vn ws[i]:=E8 hi;have F:=O.trans e4;have ct:=C.ext e4;have s:=ok.ok _ (FA hi);have hw:=F _ _ (al.2 i b _ hb p);have G:=λr:Nat=>yl (r:=(r:Int)) p;clear C;generalize ws[i]=w at hw s G p;have r0:=s.r0;have r1:=s.r1;have S:w.room.toNat<ls.length:=by rw[ct.len];lia
   have d:ls[w.room.toNat]?=Vn ls[w.room.toNat]:=E8 S;generalize ls[w.room.toNat]=l at d;have f:=ct.it _ _ d;have hlen:=D8 ws (w.room.toNat:Nat) i;refine dD (ay.of R) rfl ?_;left;refine aE (ay.of hw) (v:=.int w.room) rfl ?_;refine aP (ag.of ct.at_) (v:=.ref l) ?_ ?_
   .refine eQ r0 ?_;rw[E9,d];rfl
   refine⟨cg (ag.of f),?_⟩;left;refine bR f (dY (by rw[E7];lia)) ?_;have lc:l≠c:=bp f ct.at_ (λz=>by
    have M:=HO.lst.inj z;have A:=congrArg Ju M;cases I:cB ws (w.room.toNat:Nat) i with
    | nil=>
     rw[I]at A;rw[E7,E7]at A;have:ls.length=0:=A.symm;lia
    | cons a r=>
     rw[I]at M;cases ls with
     | nil=>cases M
     | cons x y=>cases(List.cons.inj M).1)
   left;refine⟨_,_,rfl,bM F (hcl l (Fh d)),?_⟩;refine⟨by rw[aB lc.symm];exact ct.at_,ct.len,ct.nd,λr l' g=>?_⟩;rw[G r];by_cases er:r=w.room.toNat
   .subst er;rw[d]at g;cases g;rw[aF,F6 (by lia),lj]
   .have nl:l'≠l:=λz=>er (by subst z;exact DP ct.nd g d)
    rw[aB nl,F5 (by lia),GJ];exact ct.it r l' g
  .rintro σ H' ⟨k1,k2,rfl,O,ct⟩;rw[E7,al.1]at ct;left;exact q c ls H' O ct
def cP(m:Int)(x g:Bfs.Pl):Int:=(if g.2>x.2 then g.2 else x.2)+m*m
inductive rR(K:E3)(vs:List V)(H:Hp)(Q:VK)(E:XK):Prop|mk:∀v m ws a b x g,vs=[v,.ref a,.ref b]->bt H v m ws->HOuse m ws->ao H a x->ao H b g->Q (.int (cP m x g)) H->rR K vs H Q E
def zw(T:Bu w mg base):Cal P w K mg base "greatest_met" 1 ["house","place","goal"] (rR K):=by
 refine(dX T.d_greatest_met).oS ["house","place","goal"] λf nd H vs Q E h=>?_;obtain⟨v,m,ws,a,b,x,g,rfl,⟨i,t,rfl,c,j⟩,ok,d,e,q⟩:=h;have m1:=ok.m1;have l:=ok.m12;refine⟨_,(az (aK (aJ bx (bq (C1 rfl) rfl T.max_ HN (aw (ax (aD K) (pv 1) ae (λ_ _=>rfl)) (aw (ax (aD K) (pv 2) ae (λ_ _=>rfl)) aa))) (aJ fW (ax (aD K) (pv 0) ae (λ_ _=>rfl)) (ax (aD K) (pv 0) ae (λ_ _=>rfl)))))),?_⟩;left;refine aE (ay.of d) rfl ?_;left;refine aE (ay.of e) rfl ?_;left;refine aE (ay.of c) rfl ?_;left;refine aE (ay.of c) rfl ?_;left
 left;exact q
def aN(ws:List Way)(T:Int)(x:Bfs.Pl)(k:Nat):Option Bfs.Pl:=
 (ws[k]?).bind λw=>if w.room=x.1 then(cQ w.deed x.2).bind λn=>if n<=T then Vn (w.other,n)else Vo else Vo
def jB:rz "up" = 1:=by decide +kernel
def kN:rz "down" = -1:=by decide +kernel
def lX:rz "stay" = 0:=by decide +kernel
def oa:rz "zero" = 0:=by decide +kernel
theorem kF{z:Vm}{n a:Int}(b:cJ z)(h:cQ z n=Vn a):a=n+rz z:=by
 rcases b with e|e|e|e<;>rw[e]at h ⊢
 .cases h;rfl
 .rw[iG]at h;rw[kN];split at h
  .cases h;lia
  .cases h
 .rw[lX];cases h;lia
 .rw[hV]at h;rw[oa];split at h
  .cases h;lia
  .cases h
def j1{w:Way}(a:cJ w.deed)(x:Bfs.Pl):cw w x.1 x.2=true↔w.room=x.1/\cQ w.deed x.2=Vn (x.2+rz w.deed):=by
 unfold cw;rcases a with e|e|e|e<;>rw[e]
 .rw[tu,uC,j8,jB];simp
 .rw[fh,iG,kN];by_cases h:0<x.2
  .rw[F4 h];simp[Int.sub_eq_add_neg]
  .rw[F3 h];simp
 .rw[mO,F3 (show ¬(FP "stay")=FP "zero" by decide +kernel),j9,lX];simp
 .rw[mJ,fh,hV,oa];by_cases h:x.2=0
  .simp
  .simp
def ug{w:Way}(h:ws[k]?=Vn w)(a:cJ w.deed)(ho:cw w x.1 x.2=true)(b:x.2+rz w.deed<=T):aN ws T x k=Vn (w.other,x.2+rz w.deed):=by obtain⟨h1,h2⟩:=(j1 a x).mp ho;unfold aN;rw[h,FG,F6 h1,h2,FG,F6 b]
def gI(h:aN ws T x k=Vn y):∃w,ws[k]?=Vn w/\w.room=x.1/\cQ w.deed x.2=Vn y.2/\y.1=w.other/\y.2<=T:=by
 obtain⟨w,a,h⟩:=HK.mp h;split at h
 .rename_i hr;obtain⟨n,b,h⟩:=HK.mp h;split at h
  .rename_i ht;cases h;exact⟨w,a,hr,b,rfl,ht⟩
  .cases h
 .cases h
def o4{w:Way}(d:ws[k]?=Vn w)(b:cJ w.deed)(h:aN ws T x k=Vn y):cw w x.1 x.2=true/\y=(w.other,x.2+rz w.deed)/\x.2+rz w.deed<=T:=by obtain⟨g,a,f,hs,ho,c⟩:=gI h;rw[d]at a;cases a;have e:=kF b hs;rw[e]at c hs;exact⟨(j1 b x).mpr ⟨f,hs⟩,HF ho e,c⟩
theorem uQ{z:Vm}{n a:Int}(b:cJ z)(h0:0<=n)(h:cQ z n=Vn a):0<=a:=by
 rcases b with e|e|e|e<;>rw[e]at h
 .cases h;lia
 .rw[iG]at h;split at h
  .rename_i g;have:=of_decide_eq_true g;cases h;lia
  .cases h
 .cases h;exact h0
 .rw[hV]at h;split at h
  .cases h;exact h0
  .cases h
def gU(H:Hp)(v:V):Option (Bfs.Pl×Nat)->Prop
 | none=>v=.non
 | some (p,k)=>∃a b,v=.ref a/\H a=Vn (.tup [.ref b,.int (k:Int)])/\ao H b p
def gU.ext(e:Ext H H'){o:Option (Bfs.Pl×Nat)}(h:gU H v o):gU H' v o:=by
 cases o with
 | none=>exact h
 | some d=>
  obtain⟨a,b,h1,h2,c⟩:=h;exact⟨a,b,h1,e _ _ h2,e _ _ c⟩
theorem gU.put{H:Hp}{f:Vb}{u u':HO}(c:H f=Vn u)(d:∀xs,u≠.tup xs){v:V}{o:Option (Bfs.Pl×Nat)}(h:gU H v o):gU (upd H f u') v o:=by
 cases o with
 | none=>exact h
 | some g=>
  obtain⟨a,b,h1,h2,e⟩:=h;exact⟨a,b,h1,by rw[aB (bp h2 c (λz=>d _ z.symm))];exact h2,ao.put c d e⟩
abbrev oI(H:Hp)(kv:List Key×V)(e:Bfs.Ent):Prop:=kv.1=aA e.1/\gU H kv.2 e.2.2
abbrev CK(H:Hp)(a:Vb)(e:Bfs.Ent):Prop:=ao H a e.1
section
variable {β:Type} {F:List Key×V->β->Prop} {key:β->Bfs.Pl} {kvs:List (List Key×V)} {q:List β}
def eR(d:∀kv e,F kv e->kv.1=aA (key e))(h:Paired F kvs q)(c:x∉q.map key):a7 kvs (aA x)=Vo:=by
 induction h with
 | nil=>rfl
 | @cons a b as bs h t f=>
  rw[GY,Fo,not_or]at c;rw[eF (λz=>c.1 (g9 (z.symm.trans (d _ _ h))))];exact f c.2
def ef(c:∀kv e,F kv e->kv.1=aA (key e))(h:Paired F kvs q)(nd:(q.map key).Nodup)(d:e∈q):∃v,a7 kvs (aA (key e))=Vn v/\F (aA (key e),v) e:=by
 induction h with
 | nil=>cases d
 | @cons a b as bs h t g=>
  rw[GY,Gp]at nd;rcases Fo.mp d with z|z
  .subst z;have f:=c _ _ h;refine⟨a.2,eU f,?_⟩;rw[<-f];exact h
  .obtain⟨v,h1,h2⟩:=g nd.2 z;refine⟨v,?_,h2⟩;rw[eF (λw=>nd.1 ?_)]
   .exact h1
   .rw[g9 ((c _ _ h).symm.trans w)];exact F7.mpr ⟨e,z,rfl⟩
end
structure FF(H0 H:Hp)(f rw:Vb)(q:List Bfs.Ent):Prop where
 ext:Ext H0 H
 fn:H0 f=Vo
 rn:H0 rw=Vo
 d:∃kvs,H f=Vn (.dT kvs)/\Paired (oI H) kvs q
 r:∃as,H rw=Vn (.lst (A0 V.ref as))/\Paired (CK H) as q
def FF.step{q:List Bfs.Ent}(h:FF H0 H f rw q)(e:Ext H H1):FF H0 H1 f rw q:=by obtain⟨h1,h2,a,⟨kvs,b,c⟩,as,d,g⟩:=h;exact⟨h1.trans e,h2,a,⟨kvs,e _ _ b,Paired.mapP c λ_ _ z=>⟨z.1,z.2.ext e⟩⟩,as,e _ _ d,Paired.mapP g λ_ _ z=>e _ _ z⟩
def FF.push{q:List Bfs.Ent}{p:Bfs.Pl}{k:Nat}(h:FF H0 H f rw q)(o:y∉q.map (·.1))(i:ao H th y)(hb:ao H b p)(r:H t=Vn (.tup [.ref b,.int (k:Int)])):
  ∃kvs,H f=Vn (.dT kvs)/\kvs.length=q.length/\∃as,upd H f (.dT (putK kvs (aA y) (.ref t))) rw=Vn (.lst (A0 V.ref as))/\as.length=q.length ∧
   FF H0 (upd (upd H f (.dT (putK kvs (aA y) (.ref t)))) rw (.lst (A0 V.ref as++[.ref th]))) f rw (q++[(y,d,Vn (p,k))]):=by
 obtain⟨h1,h2,l,⟨kvs,c,j⟩,as,m,n⟩:=h;have e:∀xs,(HO.dT kvs)≠.tup xs:=λxs z=>by cases z
 have g:∀xs,(HO.lst (A0 V.ref as))≠.tup xs:=λxs z=>by cases z
 have ne:rw≠f:=bp m c (by intro z;cases z);have a:upd H f (.dT (putK kvs (aA y) (.ref t))) rw=Vn (.lst (A0 V.ref as)):=by rw[aB ne];exact m
 have s:gU H (.ref t) (Vn (p,k)):=⟨t,b,rfl,r,hb⟩;refine⟨kvs,c,F9 j,as,a,F9 n,bM (bM h1 h2) l,h2,l,⟨kvs++[(aA y,.ref t)],?_,?_⟩,as++[th],?_,?_⟩
 .rw[aB ne.symm,aF,iw _ (eR (λ_ _ z=>z.1) j o)]
 .exact Gz (Paired.mapP j λ_ _ z=>⟨z.1,(z.2.put c e).put a g⟩) ⟨rfl,(s.put c e).put a g⟩
 .rw[aF,Fq];rfl
 .exact Gz (Paired.mapP n λ_ _ z=>ao.put a g (ao.put c e z)) (ao.put a g (ao.put c e i))
def bC(m T:Int)(x:Bfs.Pl):Prop:=0<=x.1/\x.1<m/\0<=x.2/\x.2<=T
theorem bC.few(i:m<=12)(e:T<=2000)(f:l.Nodup)(h:∀x∈l,bC m T x):l.length<=24012:=
 Bfs.Al e f λx g=>by obtain⟨a,b,c,d⟩:=h x g;exact⟨a,by lia,c,d⟩
def k8(ok:HOuse m ws)(b:0<=x.2)(h:aN ws T x k=Vn y):bC m T y:=by obtain⟨w,c,e,hs,ho,d⟩:=gI h;have a:=ok.ok w (Fh c);exact⟨by rw[ho];exact a.o0,by rw[ho];exact a.o1,uQ a.dd b hs,d⟩
def uq(H1:Hp)(ws:List Way)(m T:Int)(x:Bfs.Pl)(v:V)(pa ga c f rw:Vb)(M:Nat)(σ:St)(H':Hp):Prop:=
 ∃q i B k1 k2 k3 a,σ=[Vn v,Vn (.ref pa),Vn (.ref ga),Vn (.int T),Vn (.ref c),Vn (.ref f),Vn (.ref rw),Vn (.int ((i:Nat):Int)),k1,k2,k3,a]/\FF H1 H' f rw q/\Bfs.QI (aN ws T) x q i B/\(∀e∈q,bC m T e.1)/\i<=q.length/\M+i=24013
def Bk(H1:Hp)(ws:List Way)(T:Int)(x g:Bfs.Pl)(v:V)(pa ga c f rw:Vb)(σ:St)(H':Hp):Prop:=
 ∃q i B k0 k1 k2 k3 a,σ=[Vn v,Vn (.ref pa),Vn (.ref ga),Vn (.int T),Vn (.ref c),Vn (.ref f),Vn (.ref rw),k0,k1,k2,k3,a]/\FF H1 H' f rw q/\Bfs.QI (aN ws T) x q i B/\q.length<=24012/\(i=q.length\/g∈q.map (·.1))
def DU(H1:Hp)(ws:List Way)(m T:Int)(x:Bfs.Pl)(v:V)(pa ga c f rw b:Vb)(i:Nat)(h:Bfs.Ent)(ks:List Nat)(j:Nat)(σ:St)(H':Hp):Prop:=
 ∃q k1 k2 k3,σ=[Vn v,Vn (.ref pa),Vn (.ref ga),Vn (.int T),Vn (.ref c),Vn (.ref f),Vn (.ref rw),Vn (.int ((i:Nat):Int)),Vn (.ref b),k1,k2,k3]/\FF H1 H' f rw q/\Bfs.QF (nx:=aN ws T) (s:=x) q (i-1) h ks j/\(∀e∈q,bC m T e.1)/\ao H' b h.1
theorem Au(h0:0<=m)(a:m<=12)(b:x.2<=1000)(c:g.2<=1012):cP m x g<=2000:=by unfold cP;have:m*m<=12*12:=Iz a a h0 (by decide);split<;>lia
theorem mZ(h0:0<=m):x.2<=cP m x g/\g.2<=cP m x g:=by unfold cP;have:0<=m*m:=FE h0 h0;split<;>constructor<;>lia
inductive yn(K:E3)(vs:List V)(H:Hp)(Q:VK)(E:XK):Prop|mk:∀v m ws a ga x g,vs=[v,.ref a,.ref ga]->bt H v m ws->HOuse m ws->ao H a x->ao H ga g->cF m x->g.2<=1012->(∀f H' kvs q i B,Ext H H'->H' f=Vn (.dT kvs)->Paired (oI H') kvs q->Bfs.QI (aN ws (cP m x g)) x q i B->q.length<=24012->(i=q.length\/g∈q.map (·.1))->Q (.ref f) H')->yn K vs H Q E
theorem BD(T:Bu w mg base):Cal P w K mg base "found_from" 3 ["house","place","goal"] (yn K):=by
 refine(dX T.d_found_from).oS ["house","place","goal","greatest","counts","found","row","looked","here","count","way","there"] λs nd H vs Q E h=>?_;obtain⟨v,m,ws,pa,ga,x,g,rfl,hv,ok,hx,hg,ix,ig,q⟩:=h;have m1:=ok.m1;have m2:=ok.m12;have be:=ok.few;have hT:=Au (m:=m) (x:=x) (g:=g) (by lia) m2 ix.2.2.2 ig;have a5:=(mZ (m:=m) (x:=x) (g:=g) (by lia)).1;refine⟨_,(av (aH (i:=3) nd rfl oi (aG (zw T) s (aw (pv 0) (aw (pv 1) (aw (pv 2) aa)))))
   (av (aH (i:=4) nd rfl oi (aG (xc T) s (aw (pv 0) aa)))
   (av (aH (i:=5) nd rfl oi (oZ (bo s) (pv 1) ib))
   (av (aH (i:=6) nd rfl oi (bI (aw (pv 1) aa)))
   (av (aH (i:=7) nd rfl oi ae)
   (av (fi F8 (PW.pt (gZ (aT fm (pv 7) (bq (cn K) rfl T.len_ GI (aw (pv 6) aa)) (aR _)) (ir (fY (gN (bo s) (pv 2) (pv 5)) (by with_unfolding_all rfl))))) (av (aH (i:=8) nd rfl oi (ax (aQ K) (pv 6) (pv 7) (λ_ _=>rfl)))
   (av (jS (i:=7) nd rfl oi ae ly)
   (az (bJ F8 rfl (bP K (ax (aQ K) (pv 4) (ax (aD K) (pv 8) ae (λ_ _=>rfl)) (λ_ _=>rfl))) (aO (i:=9) nd rfl oi) (av (aH (i:=10) nd rfl oi (ax (aD K) (ax (aD K) (pv 0) ae (λ_ _=>rfl)) (pv 9) (λ_ _=>rfl)))
   (av (aH (i:=11) nd rfl oi (aG (lC T) s (aw (pv 10) (aw (pv 8) aa))))
   (az (cL (PW.pt (gZ (bT (aG (l5 T) s (aw (pv 10) (aw (pv 8) aa)))) (gZ (aT g8 (ax (aD K) (pv 11) ae (λ_ _=>rfl)) (pv 3) (aR _)) (ir (fY (gN (bo s) (pv 11) (pv 5)) (by with_unfolding_all rfl)))))) (av (fg (bo s) (pv 5) (pv 11) (bH (aw (pv 8) (aw (pv 9) aa))) rfl)
   (az (bA (bO K Ff Fv Fw bV (pv 6) (aw (pv 11) aa))))) aV)))))))))
   (az (aK (pv 5))))))))),?_⟩
 left;refine⟨v,m,ws,pa,ga,x,g,rfl,hv,ok,hx,hg,?_⟩;generalize cP m x g=T at q hT a5 ⊢;left;refine⟨v,m,ws,rfl,hv,ok,λc ls H1 e1 ct=>?_⟩;left;refine λf hfn=>?_;left;refine⟨pa,aA x,rfl,(aY hfn) _ _ (e1 _ _ hx),aF,?_⟩;left;refine aS λrw H3 e3 a6 a9=>?_;left;have L:Ext H1 (upd (upd H1 f (.dT [])) f (.dT [(aA x,.non)])):=λb o hb=>by rw[aB (cG hb hfn),aB (cG hb hfn)];exact hb
 have Y:H1 rw=Vo:=L.none a9;have ab:H3 f=Vn (.dT [(aA x,.non)]):=e3 _ _ aF;have ac:FF H1 H3 f rw [(x,0,Vo)]:=⟨L.trans e3,hfn,Y,⟨_,ab,.cons ⟨rfl,rfl⟩ .nil⟩,[pa],a6,.cons (e3 _ _ (L _ _ (e1 _ _ hx))) .nil⟩;refine eV (uq H1 ws m T x v pa ga c f rw) (Bk H1 ws T x g v pa ga c f rw) 24013 ⟨[(x,0,Vo)],0,0,_,_,_,_,rfl,ac,Bfs.QI.begin _ _,?_,by simp,rfl⟩ ?_ ?_
 .intro e I;rw[Fi]at I;subst I;exact⟨ix.1,ix.2.1,ix.2.2.1,a5⟩
 .clear ac ab Y L a6 a9 e3;rintro M σ H4 ⟨N,i,B,k1,k2,k3,k4,rfl,n,Z,hin,hi,hM⟩;have A:N.length<=24012:=by
   have:=bC.few m2 hT Z.nd (λy C=>by obtain⟨e,I,rfl⟩:=F7.mp C;exact hin e I)
   rwa [E7]at this
  obtain⟨kvs,hd,O⟩:=n.d;obtain⟨as,s,pr⟩:=n.r;have hal:=F9 pr;have ad:ao H4 ga g:=n.ext _ _ (e1 _ _ hg);left;refine dE (ag.of s) ?_;left;by_cases hlt:i<N.length
  rotate_left
  .rw[F3 (show ¬((i:Nat):Int)<((A0 V.ref as).length:Nat) by rw[E7,hal];lia)];refine aC ?_;refine aC ?_;exact⟨N,i,B,_,_,_,_,_,rfl,n,Z,A,.inl (by lia)⟩
  .rw[F4 (show((i:Nat):Int)<((A0 V.ref as).length:Nat) by rw[E7,hal];lia)];right;refine⟨f,_,rfl,bw.t hd (k:=aA g) ad,?_⟩;by_cases R:g∈N.map (·.1)
   .obtain⟨e,I,rfl⟩:=F7.mp R;obtain⟨v1,S,_⟩:=ef (λ_ _ z=>z.1) O Z.nd I;rw[S];symm;exact⟨N,i,B,_,_,_,_,_,rfl,n,Z,A,.inr R⟩
   .rw[eR (λ_ _ z=>z.1) O R];exfalso;refine⟨λam H'=>∃m',m'<M/\uq H1 ws m T x v pa ga c f rw m' am H',λ_ _ h=>h,?_⟩;have J:=E8 hlt;generalize N[i]=a at J;obtain⟨b,hb,p⟩:=oO pr J;have U:=Z.look J (cB ws a.1.1 ws.length);have an:=hin a (Fh J);obtain⟨ap,bl,aq,bm⟩:=an;clear Z R ad pr hal O hd;left;refine aP (ag.of s) (cN (v:=.ref b) (by rw[E9,hb];rfl)) ?_;left;refine aE (ay.of p) (v:=.int a.1.1) rfl ?_;left;have ar:=ct.ext n.ext;have au:a.1.1.toNat<ls.length:=by rw[ct.len];lia
    have a0:ls[a.1.1.toNat]?=Vn ls[a.1.1.toNat]:=E8 au;generalize ls[a.1.1.toNat]=l at a0;have a1:=ct.it _ _ a0;rw[show ((a.1.1.toNat:Nat):Int)=a.1.1 by lia]at a1;refine aP (ag.of ar.at_) (v:=.ref l) (eQ ap (by rw[E9,a0];rfl)) ?_;refine bQ (ag.of (n.ext _ _ a1)) ?_;obtain⟨hp,ht,rfl,g1,g2⟩:=hv.ext e1;obtain⟨bs,g3,al⟩:=cx.al g2;refine forL (xs:=aW (cB ws a.1.1 ws.length)) (DU H1 ws m T x (.ref hp) pa ga c f rw b (i+1) a (cB ws a.1.1 ws.length)) ?_ (λj σ H' _ h=>?_) ?_ ?_
    .exact⟨N,k2,k3,k4,rfl,n,U,hin,p⟩
    .obtain⟨_,_,_,_,_,b0,_⟩:=h;exact ag.of (b0.ext _ _ a1)
    .clear U n p s J hlt A hin;rintro j u σ H5 hu ⟨q5,c1,c2,c3,rfl,n,U,hin,p⟩;rw[E9]at hu;obtain⟨k,hk,rfl⟩:=Fj.mp hu;obtain⟨w,hw,b1⟩:=nj (Fh hk);have W:=ok.ok w (Fh hw);have b2:k<bs.length:=by rw[al.1];exact(Fg.mp hw).1
     have a2:=E8 b2;generalize bs[k]=bk at a2;have ah:=al.2 k bk w a2 hw;have A:q5.length<=24012:=by
      have:=bC.few m2 hT U.nd (λy C=>by obtain⟨e,I,rfl⟩:=F7.mp C;exact hin e I)
      rwa [E7]at this
     left;refine aE (ay.of (n.ext _ _ g1)) (v:=.ref ht) rfl ?_;left;refine aE (ay.of (n.ext _ _ g3)) (v:=.ref bk) (cN (by rw[E9,a2];rfl)) ?_;left;refine⟨bk,w,b,a.1,rfl,n.ext _ _ ah,W.dd,p,λth H6 e6 X bg=>?_⟩;have F:=n.step e6;have G:ao H6 b a.1:=e6 _ _ p;clear n p;left;refine cC ?_;left;refine⟨bk,w,b,a.1,rfl,F.ext _ _ ah,G,?_⟩;refine rd_exb ?_;cases ho:cw w a.1.1 a.1.2 with
     | false=>
      refine aC ?_;nofun;exact⟨q5,_,_,_,rfl,F,U.skip hk (λy C=>by rw[(o4 hw W.dd C).1]at ho;cases ho),hin,G⟩
     | true=>
      right;refine aE (ay.of X) (v:=.int (a.1.2+rz w.deed)) rfl ?_;left;by_cases hle:a.1.2+rz w.deed<=T
      rotate_left
      .rw[F3 hle];refine aC ?_;nofun;exact⟨q5,_,_,_,rfl,F,U.skip hk (λy C=>absurd (o4 hw W.dd C).2.2 hle),hin,G⟩
      .rw[F4 hle];right;have C:=ug (T:=T) hw W.dd ho hle;obtain⟨kvs,hd,O⟩:=F.d;refine⟨f,_,rfl,bw.t hd (k:=aA (w.other,a.1.2+rz w.deed)) X,?_⟩;by_cases hnew:(w.other,a.1.2+rz w.deed)∈q5.map (·.1)
       .obtain⟨e,I,b3⟩:=F7.mp hnew;obtain⟨v1,S,_⟩:=ef (λ_ _ z=>z.1) O U.nd I;rw[b3]at S;rw[S];symm;left;exact⟨q5,_,_,_,rfl,F,U.skip hk (λy ai=>by rw[C]at ai;cases ai;exact hnew),hin,G⟩
       .rw[eR (λ_ _ z=>z.1) O hnew];exfalso;clear O hd;left;refine aS λt H7 e7 b4 _=>?_;left;obtain⟨kvs,hd,bn,as,a3,hal,ba⟩:=(F.step e7).push (d:=a.2.1+1) hnew (e7 _ _ X) (e7 _ _ G) b4;have bb:=ao.put (o':=.lst (A0 V.ref as++[.ref th])) a3 (λxs z=>by cases z) (ao.put (o':=.dT (putK kvs (aA (w.other,a.1.2+rz w.deed)) (.ref t))) hd (λxs z=>by cases z) (e7 _ _ G));refine⟨f,_,rfl,cX.t hd (k:=aA (w.other,a.1.2+rz w.deed)) (e7 _ _ X) (cj (by lia)),?_⟩;left;refine⟨cg (ag.of a3),?_⟩;left;refine bR a3 (cj (by rw[E7];lia)) ?_;refine⟨_,_,_,_,rfl,ba,U.add hk C hnew,?_,bb⟩;intro e I;rcases Fx.mp I with z|z
        .exact hin e z
        .rw[Fi]at z;subst z;exact k8 ok aq C
    .rintro σ H5 ⟨q5,c1,c2,c3,rfl,bc,a4,aj,bi⟩;rw[E7]at a4;refine⟨M-1,by lia,q5,i+1,a.2.1,_,_,_,_,rfl,bc,a4.next (λk y C=>?_),aj,?_,by lia⟩
     .obtain⟨w,hw,s,_⟩:=gI C;exact BJ hw s
     .have:=(Fg.mp a4.at_).1;lia
 .rintro σ H4 ⟨N,i,B,k0,k1,k2,k3,k4,rfl,n,Z,A,ak⟩;obtain⟨kvs,hd,O⟩:=n.d;left;exact q f H4 kvs N i B (e1.trans n.ext) hd O Z A ak
inductive qF(K:E3)(vs:List V)(H:Hp)(Q:VK)(E:XK):Prop|mk:∀(f ga:Vb) (kvs:List (List Key×V)) (q:List Bfs.Ent) (nx:Bfs.Pl->Nat->Option Bfs.Pl) (s:Bfs.Pl) (i B:Nat) (e:Bfs.Ent),vs=[.ref f,.ref ga]->H f=Vn (.dT kvs)->Paired (oI H) kvs q->Bfs.QI nx s q i B->ao H ga e.1->e∈q->e.2.1<=24012->(∀l H' ks,Ext H H'->H' l=Vn (.lst (aW ks))->H l=Vo->ks.length=e.2.1->Bfs.gone (nx:=nx) s ks=Vn e.1->Q (.ref l) H')->qF K vs H Q E
def rM(H:Hp)(f ga l:Vb)(q:List Bfs.Ent)(nx:Bfs.Pl->Nat->Option Bfs.Pl)(e:Bfs.Ent)(M:Nat)(σ:St)(H':Hp):Prop:=
 ∃v u ks,σ=[Vn (.ref f),Vn (.ref ga),Vn (.ref l),Vn v]/\Ext H H'/\H' l=Vn (.lst (aW ks))/\u∈q/\gU H' v u.2.2/\u.2.1=M/\ks.length+M=e.2.1/\Bfs.gone (nx:=nx) u.1 ks.reverse=Vn e.1
theorem BF(T:Bu w mg base):Cal P w K mg base "walk_back" 1 ["found","goal"] (qF K):=by
 refine(bZ T.d_walk_back).oS ["found","goal","walk","step"] λx nd H vs Q E h=>?_;obtain⟨f,ga,kvs,q,nx,s,i,B,e,rfl,C,Y,F,hg,Z,hle,qq⟩:=h;refine⟨_,(av (aH (i:=2) nd rfl oi (bI aa))
   (av (aH (i:=3) nd rfl oi (cz (bo x) (pv 0) (pv 1) (λ_ _=>rfl)))
   (av (fi F8 (aT ur (pv 3) ib (aR _)) (av (bA (bO K Ff Fv Fw bV (pv 2) (aw (ax (aD K) (pv 3) ae (λ_ _=>rfl)) aa)))
   (az (aH (i:=3) nd rfl oi (cz (bo x) (pv 0) (ax (aD K) (pv 3) ae (λ_ _=>rfl)) (λ_ _=>rfl))))))
   (az (aK (CC K rfl rfl T.list_ rfl T.reversed_ (pv 2))))))),?_⟩
 left;refine aS λl H1 y hl G=>?_;left;obtain⟨v0,I,_,J⟩:=ef (λ_ _ z=>z.1) Y F.nd Z;refine⟨f,v0,rfl,by rw[<-I];exact bw.t (y _ _ C) (k:=aA e.1) (y _ _ hg),?_⟩;left;refine eV (rM H f ga l q nx e) (λσ H'=>∃v ks,σ=[some (.ref f),some (.ref ga),some (.ref l),some v]/\Ext H H'/\H' l=some (.lst (aW ks))/\ks.length=e.2.1/\Bfs.gone (nx:=nx) s ks.reverse=some e.1) e.2.1 ⟨v0,e,[],rfl,y,hl,Z,J.ext y,rfl,by simp,rfl⟩ ?_ ?_
 .rintro M σ A ⟨v,u,ks,rfl,m,c,hu,g,hM,n,j⟩;left;rcases F.par u hu with⟨L,p2,p3⟩|⟨p,k,d,o,L,p2,p3,p4⟩
  .rw[L]at g;obtain rfl:v=.non:=g;refine⟨rfl,?_⟩;symm;exact⟨_,ks,rfl,m,c,by lia,by rw[<-p2];exact j⟩
  .rw[L]at g;obtain⟨a,b,rfl,ha,hb⟩:=g;refine⟨rfl,?_⟩;rw[F3 (show ¬(V.ref a=V.non) by intro z;cases z)];exfalso;refine⟨λN H'=>∃m',m'<M/\rM H f ga l q nx e m' N H',λ_ _ h=>h,?_⟩;left;refine⟨cg (ag.of c),?_⟩;left;refine aE (ay.of ha) (v:=.int (k:Int)) rfl ?_;left;refine bR c (cj (by rw[E7];lia)) ?_;left;have nl:∀xs,(HO.lst (aW ks))≠.tup xs:=λxs z=>by cases z
   have O:upd A l (.lst (aW ks++[.int (k:Int)])) a=Vn (.tup [.ref b,.int (k:Int)]):=by rw[aB (bp ha c (by intro z;cases z))];exact ha
   have R:=ao.put (o':=.lst (aW ks++[.int (k:Int)])) c nl hb;refine aE (ay.of O) (v:=.ref b) rfl ?_;obtain⟨v1,S,_,U⟩:=ef (λ_ _ z=>z.1) Y F.nd p4;have W:upd A l (.lst (aW ks++[.int (k:Int)])) f=Vn (.dT kvs):=by rw[aB (bp (m _ _ C) c (by intro z;cases z))];exact m _ _ C
   have eH:Ext H (upd A l (.lst (aW ks++[.int (k:Int)]))):=bM m G;refine⟨f,v1,rfl,by rw[<-S];exact bw.t W (k:=aA p) R,?_⟩;left;refine⟨d,by lia,v1,(p,d,o),ks++[k],rfl,eH,by rw[aF,lj],p4,U.ext eH,rfl,by rw[Fs];simp;lia,?_⟩;rw[K3];show(nx p k).bind _=_;rw[p2];exact j
 .rintro σ A ⟨v,ks,rfl,m,c,n,j⟩;left;refine wu (ag.of c) (cE λr H5 e5 x X=>?_);refine qq r H5 ks.reverse (m.trans e5) ?_ (m.none X) (by rw[Gh];exact n) j;rw[x,<-List.map_reverse]
inductive sh(K:E3)(vs:List V)(H:Hp)(Q:VK)(E:XK):Prop|mk:∀v m ws a ga x g,vs=[v,.ref a,.ref ga]->bt H v m ws->HOuse m ws->ao H a x->ao H ga g->cF m x->g.2<=1012->((∀n,¬Bfs.b6 (aN ws (cP m x g)) x n g)->∀H',Ext H H'->Q .non H')->(∀n l H' ks,Bfs.b6 (aN ws (cP m x g)) x n g->n<=24012->Ext H H'->H l=Vo->H' l=Vn (.lst (aW ks))->ks.length=n->Bfs.gone (nx:=aN ws (cP m x g)) x ks=Vn g->Q (.ref l) H')->sh K vs H Q E
def uR(T:Bu w mg base):Cal P w K mg base "sought_walk" 4 ["house","place","goal"] (sh K):=by
 refine(dX T.d_sought_walk).oS ["house","place","goal","found"] λp nd H vs Q E h=>?_;obtain⟨v,m,ws,L,ga,x,g,rfl,M,ok,N,r,O,R,G,I⟩:=h;refine⟨_,(av (aH (i:=3) nd rfl oi (aG (BD T) p (aw (pv 0) (aw (pv 1) (aw (pv 2) aa)))))
   (av (bB (fY (gN (bo p) (pv 2) (pv 3)) (by with_unfolding_all rfl)) (az (aK ib)) aV)
   (az (aK (aG (BF T) p (aw (pv 3) (aw (pv 2) aa))))))),?_⟩
 left;refine⟨v,m,ws,L,ga,x,g,rfl,M,ok,N,r,O,R,λf H1 kvs q i B c J s b u d=>?_⟩;generalize cP m x g=T at G I b;left;refine⟨f,_,rfl,bw.t J (k:=aA g) (c _ _ r),?_⟩;by_cases a:g∈q.map (·.1)
 .obtain⟨e,o,rfl⟩:=F7.mp a;obtain⟨W,y,_⟩:=ef (λ_ _ z=>z.1) s b.nd o;rw[y];symm;left;have hd:=b.dist o;have j:e.2.1<=24012:=FI (b.deep o) u;refine⟨f,ga,kvs,q,aN ws T,x,i,B,e,rfl,J,s,b,c _ _ r,o,j,λl H2 ks S U A C F=>?_⟩;exact I _ l H2 ks hd j (c.trans S) (c.none A) U C F
 .rw[eR (λ_ _ z=>z.1) s a];exfalso;left;refine G (λn=>?_) H1 c;rcases d with h|h
  .subst h;exact b.done a n
  .exact absurd h a
inductive wm(K:E3)(vs:List V)(H:Hp)(Q:VK)(E:XK):Prop|mk:∀i:Int,vs=[.int i]->Q (.bl true) H->wm K vs H Q E
def vN(T:Bu w mg base):Cal P w K mg base "_law_whole" 1 ["_law_found"] (wm K):=by refine(cH T.d__law_whole).oS ["_law_found"] λa nd H vs Q E h=>?_;obtain⟨i,rfl,q⟩:=h;refine⟨_,(az (aK (cR (bq eM rfl T.isinstance_ GH (aw (pv 0) (aw (eO (v:=.ty "int") rfl T.int_ Kh rfl) aa))) (dG (tE (bq eM rfl T.isinstance_ GH (aw (pv 0) (aw (eO (v:=.ty "bool") rfl T.bool_ KP rfl) aa)))))))),?_⟩;left;refine eJ rfl rfl ?_;left;right;refine eJ rfl rfl ?_;left;exact q
def qW(h:H p=Vn (.lst xs)):ia H (.ref p) "list":=.inl ⟨rfl,xs,h⟩
inductive si(K:E3)(vs:List V)(H:Hp)(Q:VK)(E:XK):Prop|mk:∀l n ks,vs=[.ref l,.int n]->H l=Vn (.lst (aW ks))->(ks.length:Int)<=n->ks.length<=24012->(∀H',Ext H H'->Q (.bl true) H')->si K vs H Q E
theorem l3(T:Bu w mg base):Cal P w K mg base "_law_walk" 2 ["_law_found","_law_most"] (si K):=by
 refine(bZ T.d__law_walk).oS ["_law_found","_law_most"] λd nd H vs Q E h=>?_;obtain⟨l,n,ks,rfl,a,g,hs,q⟩:=h;refine⟨_,(av (bB (PW.pt (cY (cI (bT (bq eM rfl T.isinstance_ GH (aw (pv 0) (aw (eO (v:=.ty "list") rfl T.list_ IA rfl) aa))))) (eL (aT fF (bq (cn K) rfl T.len_ GI (aw (pv 0) aa)) (pv 1) (aR _))))) (az (aK b8)) aV)
   (az (aK (bq (wJ K rfl) rfl T.all_ Kk (aw (cK ["_law_part"] [] (bP K (pv 0)) (λ_=>(aO (i:=0) (show(["_law_part"]:List Vm).Nodup from by decide +kernel) rfl oi oj)) (λ_=>dm) (λ_=>(aG (vN T) d (aw (pv 0) aa)))) aa))))),?_⟩
 left;refine eJ (qW a) (b:=true) rfl ?_;left;nofun;refine dE (ag.of a) ?_;left;rw[F3 (show ¬n<((aW ks).length:Nat) by rw[E7];lia)];nofun;refine bQ (ag.of a) ?_;refine dJ (xs:=aW ks) (λi ys H'=>Ext H H'/\ys=(FU i true).map V.bl) (HE (cj (by rw[E7];lia))) ⟨Ext.rfl' _,rfl⟩ (λi ys H' hi h=>⟨ag.of (h.1 _ _ a),by rw[h.2];simp⟩) ?_ ?_
 .rintro i x ys H' c ⟨e,rfl⟩;rw[E9]at c;obtain⟨k,j,rfl⟩:=Fj.mp c;left;right;refine⟨_,rfl,e,?_⟩;rw[Hq,Fq];rfl
 .rintro ys H' p ⟨e,rfl⟩ f;left;refine⟨p,FU (aW ks).length true,rfl,ag.of aF,?_⟩;rw[show (FU (aW ks).length true).all id=true by simp];exact q _ (e.trans (aY f))
theorem oP{ws:List Way}{r n:Int}{t:Int×Int×Int}:∀{k:Nat},t∈cO ws r n k->∃j w,j<k/\ws[j]?=Vn w/\w.room=r/\cQ w.deed n=Vn t.2.2/\t.1=((j:Nat):Int)/\t.2.1=w.other
 | 0,h=>by cases h
 | k+1,h=>by
  rcases Fx.mp h with z|z
  .obtain⟨j,w,h1,h2⟩:=oP z;exact⟨j,w,by lia,h2⟩
  .cases c:ws[k]? with
   | none=>rw[c]at z;cases z
   | some w=>
    rw[c]at z;have a:t∈eY w r n k:=z;by_cases b:w.room=r
    .cases hs:cQ w.deed n with
     | none=>rw[fR b hs]at a;cases a
     | some d=>
      rw[fR b hs]at a;have:t=((k:Int),w.other,d):=by simpa using a
      subst this;exact⟨k,w,IY _,c,b,hs,rfl,rfl⟩
    .rw[nB b]at a;cases a
theorem qZ{ws:List Way}{r n a:Int}{w:Way}{j:Nat}(b:ws[j]?=Vn w)(c:w.room=r)(hs:cQ w.deed n=Vn a):∀{k:Nat},j<k->((j:Int),w.other,a)∈cO ws r n k
 | 0,h=>absurd h (GS _)
 | k+1,h=>by
  rcases FW j k with l|l
  .exact FT _ (qZ b c hs l)
  .have:j=k:=by lia
   subst this;refine FR _ ?_;rw[b];show _∈eY w r n j;rw[fR c hs];simp
def qL(h:aN ws T x k=Vn y):((k:Int),y.1,y.2)∈cO ws x.1 x.2 ws.length/\y.2<=T:=by obtain⟨w,a,b,hs,ho,c⟩:=gI h;rw[ho];exact⟨qZ a b hs (Fg.mp a).1,c⟩
def BN(h:t∈cO ws x.1 x.2 ws.length)(a:t.2.2<=T):∃k:Nat,t.1=(k:Int)/\aN ws T x k=Vn (t.2.1,t.2.2):=by obtain⟨j,w,_,b,c,hs,h1,h2⟩:=oP h;refine⟨j,h1,?_⟩;unfold aN;rw[b,FG,F6 c,hs,FG,F6 a,h2]
theorem Dv(h:aN ws T x k=Vn y)(c:t∈cO ws x.1 x.2 ws.length)(f:t.1=(k:Int)):t.2.1=y.1/\t.2.2=y.2:=by
 obtain⟨w,d,g,hs,ho,_⟩:=gI h;obtain⟨j,i,_,a,e,b,h1,h2⟩:=oP c;have:j=k:=by lia
 subst this;rw[d]at a;cases a;exact⟨h2.trans ho.symm,FQ (b.symm.trans hs)⟩
def trail(nx:Bfs.Pl->Nat->Option Bfs.Pl):Bfs.Pl->List Nat->List Bfs.Pl
 | x,[]=>[x]
 | x,k::r=>x::((nx x k).map λy=>trail nx y r).getD []
theorem ub{nx:Bfs.Pl->Nat->Option Bfs.Pl}{y z:Bfs.Pl}{k:Nat}:∀{r:List Nat} {x:Bfs.Pl},Bfs.gone (nx:=nx) x r=Vn y->nx y k=Vn z->trail nx x (r++[k])=trail nx x r++[z]
 | [],x,h,b=>by cases h;show y::((nx y k).map λy=>trail nx y []).getD []=_;rw[b];rfl
 | a::r,x,h,b=>by
  have h':(nx x a).bind (λy=>Bfs.gone (nx:=nx) y r)=Vn y:=h;show x::((nx x a).map λy=>trail nx y (r++[k])).getD []=(x::((nx x a).map λy=>trail nx y r).getD [])++[z];cases e:nx x a with
  | none=>rw[e]at h';cases h'
  | some u=>
   rw[e]at h';show x::trail nx u (r++[k])=(x::trail nx u r)++[z];rw[ub h' b];rfl
theorem j7{nx:Bfs.Pl->Nat->Option Bfs.Pl}{y:Bfs.Pl}:∀{r:List Nat} {x:Bfs.Pl},Bfs.gone (nx:=nx) x r=Vn y->(trail nx x r).length=r.length+1
 | [],x,h=>rfl
 | a::r,x,h=>by
  have h':(nx x a).bind (λy=>Bfs.gone (nx:=nx) y r)=Vn y:=h;show(x::((nx x a).map λy=>trail nx y r).getD []).length=_;cases e:nx x a with
  | none=>rw[e]at h';cases h'
  | some u=>
   rw[e]at h';show(x::trail nx u r).length=_;rw[FC,j7 h',FC]
structure Part(nx:Bfs.Pl->Nat->Option Bfs.Pl)(x g:Bfs.Pl)(ks:List Nat)(j:Nat)(y:Bfs.Pl):Prop where
 lo:Bfs.gone (nx:=nx) x (ks.take j)=Vn y
 hi:Bfs.gone (nx:=nx) y (ks.drop j)=Vn g
def Part.next(h:Part nx x g ks j y)(c:ks[j]?=Vn k):∃z,nx y k=Vn z/\Part nx x g ks (j+1) z/\trail nx x (ks.take (j+1))=trail nx x (ks.take j)++[z]:=by
 have a:=(Fg.mp c).1;have e:ks.drop j=k::ks.drop (j+1):=by rw[Gj a];rw[E8 a]at c;cases c;rfl
 have d:=h.hi;rw[e]at d;obtain⟨z,f,d⟩:=HK.mp (show(nx y k).bind _=Vn g from d);have b:ks.take (j+1)=ks.take j++[k]:=by rw[Hu,c];rfl
 refine⟨z,f,⟨by rw[b];exact Bfs.kY h.lo f,d⟩,?_⟩;rw[b];exact ub h.lo f
inductive pX(K:E3)(vs:List V)(H:Hp)(Q:VK)(E:XK):Prop|mk:∀v m ws b x k w,vs=[v,.ref b,.int ((k:Nat):Int)]->bt H v m ws->ao H b x->ws[k]?=Vn w->Q (.bl (cw w x.1 x.2)) H->pX K vs H Q E
theorem yC(T:Bu w mg base):Cal P w K mg base "can_go" 2 ["house","place","count"] (pX K):=by
 refine(dX T.d_can_go).oS ["house","place","count"] λi nd H vs Q E h=>?_;obtain⟨v,m,ws,b,x,k,w,rfl,⟨l,t,rfl,e,j⟩,hb,f,q⟩:=h;obtain⟨bs,g,al⟩:=cx.al j;have c:k<bs.length:=by rw[al.1];exact(Fg.mp f).1
 have a:=E8 c;generalize bs[k]=bk at a;have d:=al.2 k bk w a f;refine⟨_,(az (aK (cR (lr g8 fm ae (pv 2) (bq (cn K) rfl T.len_ GI (aw (ax (aD K) (pv 0) ae (λ_ _=>rfl)) aa))) (dG (aG (l5 T) i (aw (ax (aD K) (ax (aD K) (pv 0) ae (λ_ _=>rfl)) (pv 2) (λ_ _=>rfl)) (aw (pv 1) aa))))))),?_⟩;left;right;refine aE (ay.of e) rfl ?_;left;refine f9 (ay.of g) ?_;left;rw[F4 (show((k:Nat):Int)<(((bs.map V.ref).length:Nat):Int) by rw[E7];lia)];right;refine aE (ay.of e) (v:=.ref t) rfl ?_;left;refine aE (ay.of g) (v:=.ref bk) (cN (by rw[E9,a];rfl)) ?_;left;exact⟨bk,w,b,x,rfl,d,hb,q⟩
inductive wx(K:E3)(vs:List V)(H:Hp)(Q:VK)(E:XK):Prop|mk:∀v m ws a l U x g ks,vs=[v,.ref a,.ref l]->bt H v m ws->HOuse m ws->ao H a x->H l=Vn (.lst (aW ks))->ks.length<=24012->Bfs.gone (nx:=aN ws U) x ks=Vn g->(∀r H' as,Ext H H'->H' r=Vn (.lst (A0 V.ref as))->Paired (ao H') as (trail (aN ws U) x ks)->Q (.ref r) H')->wx K vs H Q E
theorem Dy(T:Bu w mg base):Cal P w K mg base "places_gone" 3 ["house","place","walk"] (wx K):=by
 refine(dX T.d_places_gone).oS ["house","place","walk","places","count"] λO nd H vs Q E h=>?_;obtain⟨v,m,ws,r,l,U,x,g,ks,rfl,hv,ok,R,S,a1,G,q⟩:=h;refine⟨_,(av (aH (i:=3) nd rfl oi (bI (aw (pv 1) aa)))
   (av (bJ F8 rfl (bP K (pv 2)) (aO (i:=4) nd rfl oi) (av (bB (cI (bT (aG (yC T) O (aw (pv 0) (aw (ax (aQ K) (pv 3) (dQ dH ae) (λ_ _=>rfl)) (aw (pv 4) aa)))))) (az (aK (pv 3))) aV)
   (az (bA (bO K Ff Fv Fw bV (pv 3) (aw (aG (lC T) O (aw (ax (aD K) (ax (aD K) (pv 0) ae (λ_ _=>rfl)) (pv 4) (λ_ _=>rfl)) (aw (ax (aQ K) (pv 3) (dQ dH ae) (λ_ _=>rfl)) aa))) aa))))))
   (az (aK (pv 3))))),?_⟩
 left;refine aS λf H1 C hf hfn=>?_;left;refine bQ (ag.of (C _ _ S)) ?_;refine forL (xs:=aW ks) (λj σ H'=>∃k1 y as a,σ=[Vn v,Vn (.ref r),Vn (.ref l),Vn (.ref f),k1]/\Ext H H'/\H' f=Vn (.lst (A0 V.ref (as++[a])))/\Paired (ao H') (as++[a]) (trail (aN ws U) x (ks.take j))/\ao H' a y/\Part (aN ws U) x g ks j y) ⟨Vo,x,[],r,rfl,C,(show H1 f=Vn (.lst (A0 V.ref ([]++[r])))from hf),(show Paired (ao H1) [r] [x]from .cons (show ao H1 r x from C _ _ R) .nil),C _ _ R,rfl,G⟩ (λj σ H' _ h=>by obtain⟨_,_,_,_,_,e,_⟩:=h;exact ag.of (e _ _ S)) ?_ ?_
 .rintro j u σ H2 W ⟨k1,y,as,a,rfl,F,b,c,ha,n⟩;rw[E9]at W;obtain⟨k,X,rfl⟩:=Fj.mp W;have a2:=(Fg.mp X).1;have hal:=F9 c;rw[j7 n.lo,FZ]at hal;obtain⟨z,Y,s,I⟩:=n.next X;obtain⟨w,A,_⟩:=gI Y;have B:=ok.ok w (Fh A);obtain⟨ho,J,_⟩:=o4 A B.dd Y;obtain⟨hh,t,rfl,Z,g2⟩:=hv.ext F;obtain⟨bs,g3,al⟩:=cx.al g2;have L:k<bs.length:=by rw[al.1];exact(Fg.mp A).1
  have o:=E8 L;generalize bs[k]=bk at o;have M:=al.2 k bk w o A;left;refine aP (ag.of b) (v:=.ref a) (by rw[Fq];exact fC _ _) ?_;left;refine⟨_,m,ws,a,y,k,w,rfl,⟨hh,t,rfl,Z,g2⟩,ha,A,?_⟩;rw[ho];symm;left;refine⟨cg (ag.of b),?_⟩;left;refine aE (ay.of Z) (v:=.ref t) rfl ?_;left;refine aE (ay.of g3) (v:=.ref bk) (cN (by rw[E9,o];rfl)) ?_;left;refine aP (ag.of b) (v:=.ref a) (by rw[Fq];exact fC _ _) ?_;left;refine⟨bk,w,a,y,rfl,M,B.dd,ha,λth H3 N p a0=>?_⟩;rw[<-J]at p;have d:=N _ _ b;left;refine bR d (cj (by rw[E7,hal];lia)) ?_;left;have nl:∀xs,(HO.lst (A0 V.ref (as++[a])))≠.tup xs:=λxs z=>by cases z
  refine⟨_,z,as++[a],th,rfl,bM (F.trans N) hfn,by rw[aF,Fq (l₁:=as++[a])];rfl,?_,ao.put d nl p,s⟩;rw[I];exact Gz (Paired.mapP c λ_ _ w=>ao.put d nl (N _ _ w)) (ao.put d nl p)
 .rintro σ H2 ⟨k1,y,as,a,rfl,F,b,c,ha,n⟩;rw[E7,FD]at c;left;exact q f H2 (as++[a]) F b c
inductive r6(K:E3)(vs:List V)(H:Hp)(Q:VK)(E:XK):Prop|mk:∀v m ws b l U x g ks,vs=[v,.ref b,.ref l]->bt H v m ws->HOuse m ws->ao H b x->H l=Vn (.lst (aW ks))->ks.length<=24012->Bfs.gone (nx:=aN ws U) x ks=Vn g->(∀r H' as a,Ext H H'->H' r=Vn (.lst (A0 V.ref (as++[a])))->Paired (ao H') (as++[a]) (trail (aN ws U) x ks)->ao H' a g->Q (.ref r) H')->r6 K vs H Q E
theorem lO(T:Bu w mg base):Cal P w K mg base "_law_gone" 2 ["_law_house_here","_law_place","_law_walk_here"] (r6 K):=by
 refine(dX T.d__law_gone).oS ["_law_house_here","_law_place","_law_walk_here","_law_found","_law_k","_law_there"] λhr nd H vs Q E h=>?_;obtain⟨v,m,ws,G,l,U,x,g,ks,rfl,hv,ok,hx,hl,ac,Y,q⟩:=h;refine⟨_,(av (aH (i:=3) nd rfl oi (bI (aw (pv 1) aa)))
   (av (bJ F8 rfl (bP K (pv 2)) (aO (i:=4) nd rfl oj) (av (fE (i:=5) ["_law_way","_law_far"] [4] nd rfl oi (bP K (aG (jr T) hr (aw (pv 0) (aw (ax (aQ K) (pv 3) (dQ dH ae) (λ_ _=>rfl)) aa)))) (λ_=>(dw (n:=2) K rfl (bF (aO (i:=0) (show(["_law_way","_law_far","_law_k"]:List Vm).Nodup from by decide +kernel) rfl oi oj) (bF (aO (i:=1) (show(["_law_way","_law_far","_law_k"]:List Vm).Nodup from by decide +kernel) rfl oi oj) df)))) (λ_=>(dI (aT bG (pv 0) (pv 2) (aR _)))) (λ_=>(pv 1)))
   (av (bB (aT bG (bq (cn K) rfl T.len_ GI (aw (pv 5) aa)) ae (aR _)) (az (aK ib)) aV)
   (az (bA (bO K Ff Fv Fw bV (pv 3) (aw (ax (aQ K) (pv 5) ae (λ_ _=>rfl)) aa)))))))
   (az (aK (pv 3))))),?_⟩
 left;refine aS λf H1 S hf hfn=>?_;left;refine bQ (ag.of (S _ _ hl)) ?_;refine forL (xs:=aW ks) (λj σ H'=>∃k1 k2 y as a,σ=[Vn v,Vn (.ref G),Vn (.ref l),Vn (.ref f),k1,k2]/\Ext H H'/\H' f=Vn (.lst (A0 V.ref (as++[a])))/\Paired (ao H') (as++[a]) (trail (aN ws U) x (ks.take j))/\ao H' a y/\Part (aN ws U) x g ks j y) ⟨Vo,Vo,x,[],G,rfl,S,(show H1 f=Vn (.lst (A0 V.ref ([]++[G])))from hf),(show Paired (ao H1) [G] [x]from .cons (show ao H1 G x from S _ _ hx) .nil),S _ _ hx,rfl,Y⟩ (λj σ H' _ h=>by obtain⟨_,_,_,_,_,_,e,_⟩:=h;exact ag.of (e _ _ hl)) ?_ ?_
 .rintro j u σ H2 B ⟨k1,k2,y,as,a,rfl,W,r,b,ha,c⟩;rw[E9]at B;obtain⟨k,hk,rfl⟩:=Fj.mp B;have ad:=(Fg.mp hk).1;have hal:=F9 b;rw[j7 c.lo,FZ]at hal;obtain⟨z,hz,I,Z⟩:=c.next hk;have a0:=qL hz;left;refine aP (ag.of r) (v:=.ref a) (by rw[Fq];exact fC _ _) ?_;left;refine⟨v,m,ws,a,y.1,y.2,rfl,hv.ext W,ok,ha,λbl H3 cs e3 ah J L=>?_⟩;have hcl:=F9 L;have a1:=oA ws y.1 y.2 ws.length;have ab:=ok.few;refine bQ (ag.of J) ?_;refine dJ (xs:=cs.map V.ref) (λi ys H'=>Ext H3 H'/\(∀u∈ys,∃d,u=.ref d/\ao H' d z)/\((∃t∈(cO ws y.1 y.2 ws.length).take i,t.1=(k:Int))->ys≠[])/\ys.length<=i) (iV (by rw[E7,hcl];lia)) ⟨Ext.rfl' _,λu h=>(by cases h),λh=>(by obtain⟨t,X,_⟩:=h;simp at X),Fu _⟩ (λi ys H' _ h=>⟨ag.of (h.1 _ _ J),h.2.2.2⟩) ?_ ?_
  .rintro i u ys M B ⟨N,hall,hne,a2⟩;rw[E9]at B;obtain⟨cc,hc,rfl⟩:=Fj.mp B;obtain⟨t,X,hb⟩:=bU L hc;have a3:=Fh X;have a4:(cO ws y.1 y.2 ws.length).take (i+1)=(cO ws y.1 y.2 ws.length).take i++[t]:=by rw[Hu,X];rfl
   obtain⟨d,a5,a6⟩:=hb.ext N;refine dD (ay.of a5) rfl ?_;left;rw[a4];by_cases s:t.1=(k:Int)
   .rw[F4 s];right;have:=Dv hz a3 s;refine⟨N,λu B=>?_,λ_ z=>by simp at z,by rw[Fs];simp;lia⟩;rcases Fx.mp B with w1|w1
    .exact hall u w1
    .refine⟨d,by simpa using w1,?_⟩;show _=some (HO.tup [.int z.1,.int z.2]);rw[<-this.1,<-this.2];exact a6
   .rw[F3 s];refine aC ?_;refine⟨N,hall,λh=>hne ?_,by lia⟩;obtain⟨t',a9,O⟩:=h;rcases Fx.mp a9 with z|z
    .exact⟨t',z,O⟩
    .have:t'=t:=by simpa using z
     subst this;exact absurd O s
  .rintro ys M p ⟨N,hall,hne,a2⟩ hp;left;have hys:ys≠[]:=hne ⟨((k:Int),z.1,z.2),by rw[Hz (by rw[E7,hcl];exact Fu _)];exact a0.1,rfl⟩;obtain⟨u,us,rfl⟩:=Jo hys;obtain⟨d,rfl,hd⟩:=hall u Fe;have A:Ext H2 (upd M p (.lst (.ref d::us))):=(e3.trans N).trans (aY hp);have C:ao (upd M p (.lst (.ref d::us))) d z:=(aY hp) _ _ hd;have F:upd M p (.lst (.ref d::us)) p=Vn (.lst (.ref d::us)):=aF;generalize upd M p (.lst (.ref d::us))=H5 at A C F ⊢;refine dE (ag.of F) ?_;left;rw[F3 (show ¬(((V.ref d::us).length:Nat):Int)=0 by rw[FC];lia)];nofun;have o:=A _ _ r;refine⟨cg (ag.of o),?_⟩;left;refine aP (ag.of F) (cN (j:=0) rfl) ?_;left;refine bR o (cj (by rw[E7,hal];lia)) ?_;left;have nl:∀xs,(HO.lst (A0 V.ref (as++[a])))≠.tup xs:=λxs z=>by cases z
   refine⟨_,_,z,as++[a],d,rfl,bM (W.trans A) hfn,by rw[aF,Fq (l₁:=as++[a])];rfl,?_,ao.put o nl C,I⟩;rw[Z];exact Gz (Paired.mapP b λ_ _ w=>ao.put o nl (A _ _ w)) (ao.put o nl C)
 .rintro σ H2 ⟨k1,k2,y,as,a,rfl,W,r,b,ha,c⟩;rw[E7]at b c;rw[FD]at b;have R:=c.hi;rw[List.drop_length]at R;cases R;left;exact q f H2 as a W r b ha
abbrev oG(x:Bfs.Pl):PyData:=.tuple [.int x.1,.int x.2]
def xK(h:ao H b x):bD H 1 (.ref b) (oG x):=
 .inr ⟨b,_,_,rfl,.inl ⟨h,rfl⟩,.cons rfl (.cons rfl .nil)⟩
def Cm(x):Gw (oG x) (oG x)=true:=by simp[Gw,JH]
def bf(n:Nat)(f:Nat->Bool):List V:=(F2 n).map λi=>V.bl (f i)
def dC(n)(f):(bf n f).length=n:=by simp[bf]
def gA(f)(h:i<n):(bf n f)[i]?=Vn (.bl (f i)):=by unfold bf;rw[E9,Ia h];rfl
def f6{f g:Nat->Bool}(h:∀i,i<n->f i=g i):bf n f=bf n g:=by apply K5;intro i hi;rw[h i (GK.mp hi)]
def kf(n)(f):bf (n+1) f=bf n f++[V.bl (f n)]:=by unfold bf;rw[Hm,Fq];rfl
def nW(f)(c)(a:k<n):(bf n f).set k (.bl c)=bf n λi=>if i=k then c else f i:=by
 apply Iu;intro i;rcases FW i n with hi|hi
 .rw[List.getElem?_set,dC,gA _ hi,gA _ hi];by_cases h:k=i
  .subst h;simp[hi]
  .rw[F5 h,F5 (Gi h)]
 .rw[Gb (by rw[KU,dC];exact hi),Gb (by rw[dC];exact hi)]
theorem fo{f:Nat->Bool}{i:Int}(h0:0<=i)(h:i<n):b9 (bf n f) i=Vn (.bl (f i.toNat)):=eQ h0 (gA f (by lia))
def sy(n)(c):(FU n [V.bl c]).flatten=bf n λ_=>c:=by
 induction n with
 | zero=>rfl
 | succ n a=>
  rw[Hq,List.flatten_append,a,kf];rfl
theorem zj{f:Nat->Bool}{i:Int}(h0:0<=i)(h:i<=n):bY (bf n f) Vo (Vn i)=bf i.toNat f:=by
 unfold bY;rw[dC,HT.lJ];have e:HT.aU n n (Vn i)=i.toNat:=by show(if i<0 then(i+(n:Int)).toNat else min i.toNat n)=i.toNat;rw[F5 (by lia)];lia
 rw[e,Ji,LY];apply Iu;intro k;rcases FW k i.toNat with a|a
 .rw[HR a,gA _ (by lia),gA _ a]
 .rw[Gb (by rw[FZ,dC];lia),Gb (by rw[dC];lia)]
def Rows(H:Hp)(q:Vb)(rs:List Vb)(n:Nat)(M:Nat->Nat->Bool):Prop:=H q=Vn (.lst (rs.map V.ref))/\∀(i:Nat) (r:Vb),rs[i]?=Vn r->H r=Vn (.lst (bf n (M i)))
def Rows.ext(e:Ext H H')(h:Rows H q rs n M):Rows H' q rs n M:=⟨e _ _ h.1,λi r hi=>e _ _ (h.2 i r hi)⟩
inductive wH(K:E3)(vs:List V)(H:Hp)(Q:VK)(E:XK):Prop|mk:∀a m ws d,vs=[a,.str d]->bt H a m ws->HOuse m ws->(∀l cs us H',Ext H H'->H l=Vo->H' l=Vn (.lst (A0 V.ref cs))->bh H' cs us->us=ws.filter (λw=>decide (w.deed=d))->Q (.ref l) H')->wH K vs H Q E
theorem lI(T:Bu w mg base):Cal P w K mg base "ways_of_deed" 1 ["house","deed"] (wH K):=by
 refine(bZ T.d_ways_of_deed).oS ["house","deed"] λF nd H vs Q E h=>?_;obtain⟨G,m,ws,d,rfl,y,ok,q⟩:=h;have few:=ok.few;obtain⟨z,n,rfl,A,B⟩:=id y;obtain⟨bs,s,hal⟩:=cx.al B;have p:=hal.1;refine⟨_,(@az _ _ _ (@aK _ _ _ _ (cK ["way"] [1] (jF K (@ax _ _ _ _ _ _ _ (aD K) (pv 0) ae (λ_ _=>rfl))) (λ_=>(aO (i:=0) (show(["way","deed"]:List Vm).Nodup from by decide +kernel) rfl oi oj)) (λ_=>(dI (aT bG (@ax _ _ _ _ _ _ _ (aD K) (pv 0) ae (λ_ _=>rfl)) (pv 1) (aR _)))) (λ_=>(pv 0))))),?_⟩;left;refine aE (ay.of A) (v:=.ref n) rfl ?_;left;refine jU (ay.of s) ?_;refine vS (xs:=bs.map V.ref) (λi ys H'=>H'=H/\∃cs us,ys=A0 V.ref cs/\bh H cs us/\us=(ws.take i).filter λw=>decide (w.deed=d)) (b7 (by rw[E7];lia)) ⟨rfl,[],[],rfl,bh.nil _,rfl⟩ ?_ ?_ ?_
 .rintro i ys H' _ ⟨rfl,cs,us,rfl,a,rfl⟩;refine⟨ay.of s,?_⟩;rw[E7,a.1];exact FI (GF _ _) (by rw[FZ];lia)
 .rintro i v ys H' u ⟨rfl,cs,us,rfl,a,c⟩;rw[E9]at u;obtain⟨b,hb,rfl⟩:=Fj.mp u;have r:i<ws.length:=by have:=(Fg.mp hb).1;lia
  have f:ws[i]?=Vn ws[i]:=E8 r;have g:=hal.2 i b _ hb f;generalize ws[i]=j at f g;left;refine aE (ay.of g) (v:=.str j.deed) rfl ?_;left;refine cD (rd_exb ?_);cases x:decide (j.deed=d)with
  | true=>
   right;refine⟨rfl,cs++[b],us++[j],?_,a.snoc g,?_⟩
   .rw[Fq];rfl
   .rw[c,GA,f,GL];congr 1;show[j]=G7 _ [j];rw[GQ,F6 x];rfl
  | false=>
   refine aC ⟨rfl,cs,us,rfl,a,?_⟩;rw[c,GA,f,GL];have:G7 (λw:Way=>decide (w.deed=d)) [j]=[]:=by rw[GQ,F5 (by rw[x];exact Fp)];rfl
   show _=_++G7 _ [j];rw[this,GJ]
 .rintro ys H' pc ⟨C,cs,us,rfl,a,c⟩ l;subst C;rw[E7,p,FD]at c;have e:=aY (o:=.lst (A0 V.ref cs)) l;exact q pc cs us _ e l aF (a.ext e) c
theorem wG{x:Vb}:∀{l:List Vb} {i:Nat},l.Nodup->x∉l->(l.set i x).Nodup
 | [],_,_,_=>Gq
 | a::l,0,h,b=>by rw[Gp]at h;exact Gp.mpr ⟨λz=>b (Fb _ z),h.2⟩
 | a::l,i+1,h,b=>by
  rw[Gp]at h;refine Gp.mpr ⟨λz=>?_,wG h.2 λz=>b (Fb _ z)⟩;rcases IZ z with z|z
  .exact h.1 z
  .exact b (by rw[z];exact Fe)
structure TB(H H':Hp)(q:Vb)(rs rs':List Vb)(n:Nat)(M:Nat->Nat->Bool):Prop where
 keep:∀b o,b≠q->H b=Vn o->H' b=Vn o
 len:rs'.length=n
 nd:rs'.Nodup
 nq:q∉rs'
 old:∀r∈rs',r∈rs\/H r=Vo
 rows:Rows H' q rs' n M
theorem TB.congr{H H':Hp}{q:Vb}{rs rs':List Vb}{n:Nat}{M M':Nat->Nat->Bool}(h:TB H H' q rs rs' n M)(e:∀i j,i<n->j<n->M i j=M' i j):TB H H' q rs rs' n M':=
 ⟨h.keep,h.len,h.nd,h.nq,h.old,h.rows.1,λi r hi=>by
  rw[h.rows.2 i r hi];have a:i<n:=by rw[<-h.len];exact(Fg.mp hi).1
  congr 2;exact f6 λj b=>e i j a b⟩
theorem TB.set{H H1:Hp}{q d:Vb}{rs c:List Vb}{n i:Nat}{M:Nat->Nat->Bool}{f:Nat->Bool}(h:TB H H1 q rs c n M)(hi:i<n)(g:H1 d=Vo):TB H (upd (upd H1 d (.lst (bf n f))) q (.lst ((c.map V.ref).set i (.ref d)))) q rs (c.set i d) n (λa b=>if a=i then f b else M a b):=by
 have u:H1 q=Vn (.lst (c.map V.ref)):=h.rows.1;have l:q≠d:=λz=>by rw[z,g]at u;cases u
 have nin:d∉c:=λz=>by obtain⟨j,w⟩:=FX z;rw[h.rows.2 j d w]at g;cases g
 refine⟨λb o nb e=>?_,by rw[KU];exact h.len,wG h.nd nin,λz=>?_,λr p=>?_,?_,λa r ha=>?_⟩
 .have v:=h.keep b o nb e;rw[aB nb,aB (cG v g)];exact v
 .rcases IZ z with z|z
  .exact h.nq z
  .exact l z
 .rcases IZ p with p|rfl
  .exact h.old r p
  .right;cases e:H r with
   | none=>rfl
   | some o=>rw[h.keep r o (Gi l) e]at g;cases g
 .rw[aF,List.map_set]
 .rw[List.getElem?_set]at ha;by_cases m:i=a
  .subst m;rw[F6 rfl,F6 (by rw[h.len];exact hi)]at ha;cases ha;rw[aB (Gi l),aF];congr 2;exact f6 λj _=>by dsimp only;rw[F6 rfl]
  .rw[F5 m]at ha;have e:=h.rows.2 a r ha;have s:r≠q:=λz=>h.nq (z ▸ Fh ha);rw[aB s,aB (cG e g),e];congr 2;exact f6 λj _=>by dsimp only;rw[F5 (Gi m)]
def jn(M:Nat->Nat->Bool)(k:Nat):Nat->Nat->Bool:=λi j=>M i j || (M i k && M k j)
def cy(M:Nat->Nat->Bool):Nat->Nat->Nat->Bool
 | 0=>M
 | k+1=>jn (cy M k) k
structure Joined(n:Nat)(M M':Nat->Nat->Bool):Prop where
 le:∀i j,M i j=true->M' i j=true
 tr:∀i a j,a<n->M' i a=true->M' a j=true->M' i j=true
 least:∀S:Nat->Nat->Prop,(∀i a j,S i a->S a j->S i j)->(∀i j,M i j=true->S i j)->∀i j,M' i j=true->S i j
theorem rY(M:Nat->Nat->Bool):∀k,Joined k M (cy M k)
 | 0=>⟨λ_ _ h=>h,λ_ _ _ h=>absurd h (GS _),λ_ _ h=>h⟩
 | k+1=>by
  have b:=rY M k;have up:∀i j,cy M (k+1) i j=true↔(cy M k i j=true\/(cy M k i k=true/\cy M k k j=true)):=λi j=>by show(cy M k i j || (cy M k i k && cy M k k j))=true↔_;simp
  refine⟨λi j h=>(up i j).mpr (.inl (b.le i j h)),λi a j ha h1 h2=>?_,λS d e i j h=>?_⟩
  .rw[up]at h1 h2 ⊢;by_cases f:a=k
   .subst f;have l:cy M a i a=true:=by rcases h1 with h|h;exact h;exact h.1
    have m:cy M a a j=true:=by rcases h2 with h|h;exact h;exact h.2
    exact .inr ⟨l,m⟩
   .have hlt:a<k:=by lia
    rcases h1 with h1|⟨h1,g⟩<;>rcases h2 with h2|⟨h2,c⟩
    .exact .inl (b.tr i a j hlt h1 h2)
    .exact .inr ⟨b.tr i a k hlt h1 h2,c⟩
    .exact .inr ⟨h1,b.tr k a j hlt g h2⟩
    .exact .inr ⟨h1,c⟩
  .rcases(up i j).mp h with h|⟨h1,h2⟩
   .exact b.least S d e i j h
   .exact d i k j (b.least S d e i k h1) (b.least S d e k j h2)
inductive wO(K:E3)(vs:List V)(H:Hp)(Q:VK)(E:XK):Prop|mk:∀q rs n M,vs=[.ref q]->TB H H q rs rs n M->n<=12->(∀rs' M' H',TB H H' q rs rs' n M'->Joined n M M'->Q .non H')->wO K vs H Q E
theorem vI(T:Bu w mg base):Cal P w K mg base "join_walks" 1 ["table"] (wO K):=by
 refine(cH T.d_join_walks).oS ["table","many","middle","p"] λS nd H vs Q E h=>?_;obtain⟨d,rs,n,M,rfl,o,U,q⟩:=h;refine⟨_,(@av _ _ _ _ _ (@aH _ _ 1 _ _ _ _ nd rfl oi (bq (cn K) rfl T.len_ GI (af (pv 0) aa rfl)) rfl oi)
   (@az _ _ _ (bJ F8 rfl (dv rfl T.range_ (af (pv 1) aa rfl)) (aO (i:=2) nd rfl oj) (@az _ _ _ (bJ F8 rfl (dv rfl T.range_ (af (pv 1) aa rfl)) (aO (i:=3) nd rfl oj) (@az _ _ _ (cL (bT (@ax _ _ _ _ _ _ _ (aQ K) (@ax _ _ _ _ _ _ _ (aQ K) (pv 0) (pv 3) (λ_ _=>rfl)) (pv 2) (λ_ _=>rfl))) (@az _ _ _ (@iJ _ _ _ _ _ _ (cK ["q"] [0,3,2] (dv rfl T.range_ (af (pv 1) aa rfl)) (λ_=>(aO (i:=0) (show(["q","table","p","middle"]:List Vm).Nodup from by decide +kernel) rfl oi oj)) (λ_=>dm) (λ_=>(um (@ax _ _ _ _ _ _ _ (aQ K) (@ax _ _ _ _ _ _ _ (aQ K) (pv 1) (pv 2) (λ_ _=>rfl)) (pv 0) (λ_ _=>rfl)) (dG (@ax _ _ _ _ _ _ _ (aQ K) (@ax _ _ _ _ _ _ _ (aQ K) (pv 1) (pv 3) (λ_ _=>rfl)) (pv 0) (λ_ _=>rfl)))))) (jV (pv 0) (pv 3) set_list) rfl rfl rfl)) aV))))))),?_⟩
 left;refine dE (ag.of o.rows.1) ?_;rw[E7,o.len];left;refine dz (by lia) ?_;rw[Fl];refine forR (λk σ H'=>∃c k1 k2,TB H H' d rs c n (cy M k)/\σ=[Vn (.ref d),Vn (.int (n:Nat)),k1,k2]) ⟨rs,_,_,o,rfl⟩ ?_ ?_
 .rintro k σ H1 N ⟨c,k1,k2,tb,rfl⟩;rw[show (0:Int)+(k:Int)=((k:Nat):Int) by lia];left;refine dz (by lia) ?_;rw[Fl];refine forR (λp σ H'=>∃a k2,TB H H' d rs a n (λi j=>if i<p then jn (cy M k) k i j else cy M k i j)/\σ=[Vn (.ref d),Vn (.int (n:Nat)),Vn (.int (k:Nat)),k2]) ⟨c,_,tb,rfl⟩ ?_ ?_
  .rintro p σ H2 A ⟨a,k2,b,rfl⟩;rw[show (0:Int)+(p:Int)=((p:Nat):Int) by lia];have r:p<a.length:=by rw[b.len];exact A
   have s:k<a.length:=by rw[b.len];exact N
   have u:a[p]?=Vn a[p]:=E8 r;have v:a[k]?=Vn a[k]:=E8 s;have B:=b.rows.2 p _ u;have C:=b.rows.2 k _ v;generalize a[p]=ap at u B;generalize a[k]=F at v C;have e:b9 (a.map V.ref) ((p:Nat):Int)=Vn (.ref ap):=cN (by rw[E9,u];rfl);have x:b9 (a.map V.ref) ((k:Nat):Int)=Vn (.ref F):=cN (by rw[E9,v];rfl);have g:H2 ap=Vn (.lst (bf n (cy M k p))):=by rw[B];congr 2;exact f6 λj _=>by dsimp only;rw[F5 (Gy _)]
   have y:H2 F=Vn (.lst (bf n (cy M k k))):=by
    rw[C];congr 2;refine f6 λj _=>?_;dsimp only;by_cases l:k<p
    .rw[F6 l];unfold jn;cases cy M k k j<;>simp
    .rw[F5 l]
   left;refine cC ?_;left;refine aP (ag.of b.rows.1) e ?_;left;refine aP (ag.of g) (fo (by lia) (by lia)) ?_;rw[Fl];left;cases G:cy M k p k with
   | false=>
    nofun;refine⟨a,_,b.congr λi j hi I=>?_,rfl⟩
    try dsimp only
    by_cases h1:i<p
    .rw[F6 h1,F6 (by lia)]
    .rw[F5 h1];by_cases h2:i<p+1
     .have:i=p:=by lia
      subst this;rw[F6 h2];unfold jn;rw[G];simp
     .rw[F5 h2]
   | true=>
    right;refine dz (by lia) ?_;rw[Fl];refine gK (λi ys H'=>H'=H2/\ys=bf i (jn (cy M k) k p)) (b7 (by lia)) ⟨rfl,rfl⟩ ?_ ?_ ?_
    .rintro i ys H' _ ⟨_,rfl⟩;rw[dC];exact Fu _
    .rintro i ys J hi ⟨rfl,rfl⟩;rw[show (0:Int)+(i:Int)=((i:Nat):Int) by lia];left;right;refine aP (ag.of b.rows.1) e ?_;left;refine aP (ag.of g) (fo (by lia) (by lia)) ?_;rw[Fl];refine rd_exb ?_;cases L:cy M k p i with
     | true=>
      refine aI ⟨rfl,?_⟩;rw[kf];congr 1;show[V.bl true]=[V.bl (cy M k p i || _)];rw[L];rfl
     | false=>
      nofun;refine aP (ag.of b.rows.1) x ?_;left;refine aP (ag.of y) (fo (by lia) (by lia)) ?_;rw[Fl];refine⟨rfl,?_⟩;rw[kf];congr 1;show[V.bl (cy M k k i)]=[V.bl (cy M k p i || (cy M k p k && cy M k k i))];rw[L,G];simp
    .rintro ys J O ⟨R,rfl⟩ m;subst R;have z:(upd J O (.lst (bf n (jn (cy M k) k p)))) d=Vn (.lst (a.map V.ref)):=(aY m) _ _ b.rows.1;left;refine ke z (jP (by lia) (by rw[E7,b.len];lia)) ?_;rw[Fl];refine⟨_,_,(b.set (f:=jn (cy M k) k p) A m).congr λi j hi I=>?_,rfl⟩
     try dsimp only
     by_cases h1:i=p
     .subst h1;rw[F6 rfl,F6 (by lia)]
     .rw[F5 h1];by_cases h2:i<p
      .rw[F6 h2,F6 (by lia)]
      .rw[F5 h2,F5 (by lia)]
  .rintro σ H2 ⟨a,k2,b,rfl⟩;exact⟨a,_,_,b.congr (λi j hi I=>by rw[F6 hi];rfl),rfl⟩
 .rintro σ H1 ⟨c,k1,k2,tb,rfl⟩;left;exact q c _ H1 tb (rY M n)
def put2(M:Nat->Nat->Bool)(i x:Nat):Nat->Nat->Bool:=λj y=>if j=i/\y=x then true else M j y
structure TW(H H':Hp)(q:Vb)(rs:List Vb)(n:Nat)(M:Nat->Nat->Bool):Prop where
 keep:∀b o,b∉rs->H b=Vn o->H' b=Vn o
 len:rs.length=n
 nd:rs.Nodup
 nq:q∉rs
 rows:Rows H' q rs n M
def TW.mark{r:Vb}(h:TW H H1 q rs n M)(hi:rs[i]?=Vn r)(m:j<n):TW H (upd H1 r (.lst ((bf n (M i)).set j (.bl true)))) q rs n (put2 M i j):=by
 have g:=Fh hi;have nqr:q≠r:=λz=>h.nq (z ▸ g);refine⟨λb o nb e=>?_,h.len,h.nd,h.nq,?_,λa l ha=>?_⟩
 .have f:b≠r:=λz=>nb (by rw[z];exact g);rw[aB f];exact h.keep b o nb e
 .rw[aB nqr];exact h.rows.1
 .by_cases c:a=i
  .subst c;rw[hi]at ha;cases ha;rw[aF,nW _ _ m];congr 2;refine f6 λy _=>?_;unfold put2;by_cases d:y=j
   .rw[F6 d,F6 ⟨rfl,d⟩]
   .rw[F5 d,F5 λz=>d z.2]
  .have p:l≠r:=λz=>c ((HM (by rw[h.len];exact(by rw[<-h.len];exact(Fg.mp ha).1)) h.nd).mp (by rw[ha,hi,z]));rw[aB p,h.rows.2 a l ha];congr 2;exact f6 λy _=>by unfold put2;rw[F5 λz=>c z.1]
structure ArchR(n:Nat)(us ds:List Way)(M M':Nat->Nat->Bool)(ad:Bool):Prop where
 le:∀i j,M i j=true->M' i j=true
 same:ad=false->∀i j,M' i j=M i j
 more:ad=true->∃i j,i<n/\j<n/\M i j=false/\M' i j=true
 least:∀S:Nat->Nat->Prop,(∀u∈us,∀d∈ds,S u.other.toNat d.room.toNat->S u.room.toNat d.other.toNat)->(∀i j,M i j=true->S i j)->∀i j,M' i j=true->S i j
def ArchR.refl:ArchR n us ds M M false:=⟨λ_ _ h=>h,λ_ _ _=>rfl,λh=>(nomatch h),λ_ _ h=>h⟩
def ArchR.put(h:ArchR n us ds M M' ad){u d:Way}(g:u∈us)(hd:d∈ds)(h1:M' u.other.toNat d.room.toNat=true)(h2:M' u.room.toNat d.other.toNat=false)(b:u.room.toNat<n)(c:d.other.toNat<n):ArchR n us ds M (put2 M' u.room.toNat d.other.toNat) true:=by
 have le:∀i j,M i j=true->put2 M' u.room.toNat d.other.toNat i j=true:=λi j a=>by
  unfold put2;split
  .rfl
  .exact h.le i j a
 refine⟨le,λz=>(nomatch z),λ_=>⟨_,_,b,c,?_,by unfold put2;rw[F6 ⟨rfl,rfl⟩]⟩,λS e a i j f=>?_⟩
 .rw[Hr];intro z;rw[h.le _ _ z]at h2;cases h2
 .unfold put2 at f;split at f
  .rename_i z;rw[z.1,z.2];exact e u g d hd (h.least S e a _ _ h1)
  .exact h.least S e a i j f
inductive qc(K:E3)(vs:List V)(H:Hp)(Q:VK)(E:XK):Prop|mk:∀q rs n M lu cu us ld cd ds,vs=[.ref q,.ref lu,.ref ld]->TW H H q rs n M->H lu=Vn (.lst (A0 V.ref cu))->bh H cu us->H ld=Vn (.lst (A0 V.ref cd))->bh H cd ds->lu∉rs->ld∉rs->(∀w∈us++ds,0<=w.room/\w.room<(n:Int)/\0<=w.other/\w.other<(n:Int))->(∀M' ad H',TW H H' q rs n M'->ArchR n us ds M M' ad->(ad=false->∀u∈us,∀d∈ds,M u.other.toNat d.room.toNat=true->M u.room.toNat d.other.toNat=true)->Q (.bl ad) H')->qc K vs H Q E
theorem EC(T:Bu w mg base):Cal P w K mg base "add_arches" 1 ["table","ups","downs"] (qc K):=by
 refine(dX T.d_add_arches).oS ["table","ups","downs","added","rise","fall"] λhr nd H vs Q E h=>?_;obtain⟨Y,rs,n,M,lu,cu,us,ld,cd,ds,rfl,tw,C,F,G,I,a0,J,hin,q⟩:=h;have L:=F.1;have N:=I.1;refine⟨_,(@av _ _ _ _ _ (@aH _ _ 3 _ _ _ _ nd rfl oi b8 rfl oi)
   (@av _ _ _ _ _ (bJ F8 rfl (bP K (pv 1)) (aO (i:=4) nd rfl oi) (@az _ _ _ (bJ F8 rfl (bP K (pv 2)) (aO (i:=5) nd rfl oi) (@az _ _ _ (cL (PW.pt (gZ (bT (@ax _ _ _ _ _ _ _ (aQ K) (@ax _ _ _ _ _ _ _ (aQ K) (pv 0) (@ax _ _ _ _ _ _ _ (aD K) (pv 4) ae (λ_ _=>rfl)) (λ_ _=>rfl)) (@ax _ _ _ _ _ _ _ (aD K) (pv 5) ae (λ_ _=>rfl)) (λ_ _=>rfl))) (ir (cI (bT (@ax _ _ _ _ _ _ _ (aQ K) (@ax _ _ _ _ _ _ _ (aQ K) (pv 0) (@ax _ _ _ _ _ _ _ (aD K) (pv 4) ae (λ_ _=>rfl)) (λ_ _=>rfl)) (@ax _ _ _ _ _ _ _ (aD K) (pv 5) ae (λ_ _=>rfl)) (λ_ _=>rfl))))))) (@av _ _ _ _ _ (@iJ _ _ _ _ _ _ b8 (jV (@ax _ _ _ _ _ _ _ (aQ K) (pv 0) (@ax _ _ _ _ _ _ _ (aD K) (pv 4) ae (λ_ _=>rfl)) (λ_ _=>rfl)) (@ax _ _ _ _ _ _ _ (aD K) (pv 5) ae (λ_ _=>rfl)) set_list) rfl rfl rfl)
   (@az _ _ _ (@aH _ _ 3 _ _ _ _ nd rfl oi b8 rfl oi))) aV)))))
   (@az _ _ _ (@aK _ _ _ _ (pv 3))))),?_⟩
 have tupN:∀(b:Vb) (w:Way),H b=Vn (.tup w.vs)->b∉rs:=λb w hb z=>by obtain⟨j,hj⟩:=FX z;rw[tw.rows.2 j b hj]at hb;cases hb
 left;refine bQ (ag.of C) ?_;refine forL (xs:=A0 V.ref cu) (λi σ H'=>∃M' ad k1 k2,TW H H' Y rs n M'/\ArchR n us ds M M' ad/\(ad=false->∀a,a<i->∀u,us[a]?=Vn u->∀d∈ds,M u.other.toNat d.room.toNat=true->M u.room.toNat d.other.toNat=true)/\σ=[Vn (.ref Y),Vn (.ref lu),Vn (.ref ld),Vn (.bl ad),k1,k2]) ⟨M,false,_,_,tw,.refl,λ_ a ha=>absurd ha (GS _),rfl⟩ (λi σ H' _ h=>by obtain⟨M',ad,k1,k2,t,_⟩:=h;exact ag.of (t.keep _ _ a0 C)) ?_ ?_
 .rintro i v σ H1 hx ⟨M1,ad,k1,k2,o,r,p,rfl⟩;rw[E9]at hx;obtain⟨bu,O,rfl⟩:=Fj.mp hx;have a3:i<us.length:=by rw[<-L];exact(Fg.mp O).1
  have Z:us[i]?=Vn us[i]:=E8 a3;have g:=F.2 i bu _ O Z;generalize us[i]=u at Z g;have R:=Fh Z;obtain⟨u0,u1,u2,u3⟩:=hin u (FT _ R);left;refine bQ (ag.of (o.keep _ _ J G)) ?_;refine forL (xs:=A0 V.ref cd) (λj σ H'=>∃M' ad k2,TW H H' Y rs n M'/\ArchR n us ds M M' ad/\(ad=false->(∀a,a<i->∀u,us[a]?=Vn u->∀d∈ds,M u.other.toNat d.room.toNat=true->M u.room.toNat d.other.toNat=true)/\∀b,b<j->∀d,ds[b]?=Vn d->M u.other.toNat d.room.toNat=true->M u.room.toNat d.other.toNat=true)/\σ=[Vn (.ref Y),Vn (.ref lu),Vn (.ref ld),Vn (.bl ad),Vn (.ref bu),k2]) ⟨M1,ad,_,o,r,λh=>⟨p h,λb hb=>absurd hb (GS _)⟩,rfl⟩ (λj σ H' _ h=>by obtain⟨M',ad,k2,t,_⟩:=h;exact ag.of (t.keep _ _ J G)) ?_ ?_
  .rintro j v σ H2 S ⟨B,l,k2,c,e,cl2,rfl⟩;rw[E9]at S;obtain⟨bd,U,rfl⟩:=Fj.mp S;have a4:j<ds.length:=by rw[<-N];exact(Fg.mp U).1
   have gd:ds[j]?=Vn ds[j]:=E8 a4;have m:=I.2 j bd _ U gd;generalize ds[j]=d at gd m;have W:=Fh gd;obtain⟨d0,d1,d2,d3⟩:=hin d (FR _ W);have ku:=c.keep _ _ (tupN bu u g) g;have kd:=c.keep _ _ (tupN bd d m) m;have x1:u.other.toNat<rs.length:=by rw[c.len];lia
   have x2:u.room.toNat<rs.length:=by rw[c.len];lia
   have r1:rs[u.other.toNat]?=Vn rs[u.other.toNat]:=E8 x1;have r2:rs[u.room.toNat]?=Vn rs[u.room.toNat]:=E8 x2;have w1:=c.rows.2 _ _ r1;have w2:=c.rows.2 _ _ r2;generalize rs[u.other.toNat]=a1 at r1 w1;generalize rs[u.room.toNat]=a2 at r2 w2;have a5:b9 (rs.map V.ref) u.other=Vn (.ref a1):=eQ u2 (by rw[E9,r1];rfl);have at2:b9 (rs.map V.ref) u.room=Vn (.ref a2):=eQ u0 (by rw[E9,r2];rfl);have step:(M u.other.toNat d.room.toNat=true->M u.room.toNat d.other.toNat=true)->l=false->∀b,b<j+1->∀X,ds[b]?=Vn X->M u.other.toNat X.room.toNat=true->M u.room.toNat X.other.toNat=true:=λhs f b hb X s=>by
    by_cases a6:b<j
    .exact(cl2 f).2 b a6 X s
    .have:b=j:=by lia
     subst this;rw[gd]at s;cases s;exact hs
   left;refine cC ?_;left;refine aE (ay.of ku) (v:=.int u.other) rfl ?_;left;refine aP (ag.of c.rows.1) a5 ?_;left;refine aE (ay.of kd) (v:=.int d.room) rfl ?_;left;refine aP (ag.of w1) (fo d0 (by lia)) ?_;left;cases x:B u.other.toNat d.room.toNat with
   | false=>
    nofun;refine⟨B,l,_,c,e,λf=>⟨(cl2 f).1,step (λz=>?_) f⟩,rfl⟩;rw[e.same f]at x;rw[x]at z;cases z
   | true=>
    right;refine aE (ay.of ku) (v:=.int u.room) rfl ?_;left;refine aP (ag.of c.rows.1) at2 ?_;left;refine aE (ay.of kd) (v:=.int d.other) rfl ?_;left;refine aP (ag.of w2) (fo d2 (by lia)) ?_;left;cases y:B u.room.toNat d.other.toNat with
    | true=>
     nofun;refine⟨B,l,_,c,e,λf=>⟨(cl2 f).1,step (λ_=>?_) f⟩,rfl⟩;rw[e.same f]at y;exact y
    | false=>
     right;refine aE (ay.of ku) (v:=.int u.room) rfl ?_;left;refine aP (ag.of c.rows.1) at2 ?_;left;refine aE (ay.of kd) (v:=.int d.other) rfl ?_;left;refine ke w2 (jP d2 (by rw[dC];lia)) ?_;left;exact⟨_,true,_,c.mark r2 (by lia),e.put R W x y (by lia) (by lia),λz=>(nomatch z),rfl⟩
  .rintro σ H2 ⟨B,l,k2,c,e,cl2,rfl⟩;rw[E7,N]at cl2;refine⟨B,l,_,_,c,e,λf a ha u' A=>?_,rfl⟩;by_cases a9:a<i
   .exact(cl2 f).1 a a9 u' A
   .have:a=i:=by lia
    subst this;rw[Z]at A;cases A;intro d hd;obtain⟨b,hb⟩:=FX hd;exact(cl2 f).2 b (Fg.mp hb).1 d hb
 .rintro σ H1 ⟨M1,ad,k1,k2,o,r,p,rfl⟩;rw[E7,L]at p;left;refine q M1 ad H1 o r λf u hu d hd=>?_;obtain⟨a,ha⟩:=FX hu;exact p f a (Fg.mp ha).1 u ha d hd
inductive Kpt(ws:List Way)(n:Nat):Nat->Nat->Prop
 | refl {i:Nat}:i<n->Kpt ws n i i
 | stay {w:Way}:w∈ws->w.deed = "stay"->Kpt ws n w.room.toNat w.other.toNat
 | trans {i a j:Nat}:Kpt ws n i a->Kpt ws n a j->Kpt ws n i j
 | arch {u d:Way}:u∈ws->u.deed = "up"->d∈ws->d.deed = "down"->Kpt ws n u.other.toNat d.room.toNat->Kpt ws n u.room.toNat d.other.toNat
theorem ji(ok:∀w∈ws,w.Ok m){w:Way}(a:w∈ws):w.room.toNat<m.toNat/\w.other.toNat<m.toNat:=by have h:=ok w a;have:=h.r1;have:=h.o0;have:=h.o1;lia
def Kpt.lt{m}{ws}(ok:∀w∈ws,w.Ok m){i j}(h:Kpt ws m.toNat i j):i<m.toNat/\j<m.toNat:=by
 induction h with
 | refl h=>exact⟨h,h⟩
 | stay h _=>exact ji ok h
 | trans _ _ h1 h2=>exact⟨h1.1,h2.2⟩
 | arch h1 _ h2 _ _ _=>exact⟨(ji ok h1).1,(ji ok h2).2⟩
def Cw(ws:List Way)(M:Nat->Nat->Bool):Prop:=∀i j,M i j=true↔(i=j\/∃w∈ws,w.deed = "stay"/\w.room.toNat=i/\w.other.toNat=j)
def iX(n:Nat)(M:Nat->Nat->Bool):Nat:=((F2 n).flatMap λi=>(F2 n).map λj=>(i,j)).countP λz=>!M z.1 z.2
theorem rJ{α:Type}{p c:α->Bool}(hi:∀y,c y=true->p y=true){a:α}(ha:p a=true)(d:c a=false):∀{L:List α},a∈L->L.countP c<L.countP p
 | b::L,e=>by
  have hle:L.countP c<=L.countP p:=List.countP_mono_left λy _=>hi y;rw[List.countP_cons,List.countP_cons];rcases Fo.mp e with rfl|e
  .rw[ha,d];simp;lia
  .have:=rJ hi ha d e;cases h1:c b with
   | false=>simp[h1];split<;>lia
   | true=>rw[hi b h1];lia
def Dk(hi:i<n)(d:j<n)(le:∀a b,M a b=true->M' a b=true)(h1:M i j=false)(h2:M' i j=true):iX n M'<iX n M:=by
 refine rJ (a:=(i,j)) (λy e=>?_) (by simp[h1]) (by simp[h2]) (by simp;exact⟨hi,d⟩);have c:M' y.1 y.2=false:=by simpa using e
 have:M y.1 y.2=false:=by rw[Hr];intro z;rw[le _ _ z]at c;cases c
 simp[this]
structure KT(H H':Hp)(q:Vb)(rs:List Vb)(n:Nat)(M:Nat->Nat->Bool):Prop where
 ext:Ext H H'
 fq:H q=Vo
 fr:∀r∈rs,H r=Vo
 len:rs.length=n
 nd:rs.Nodup
 nq:q∉rs
 rows:Rows H' q rs n M
def KT.tw(h:KT H H' q rs n M):TW H' H' q rs n M:=⟨λ_ _ _ e=>e,h.len,h.nd,h.nq,h.rows⟩
def KT.tb(h:KT H H' q rs n M):TB H' H' q rs rs n M:=⟨λ_ _ _ e=>e,h.len,h.nd,h.nq,λ_ h=>.inl h,h.rows⟩
def KT.more(h:KT H H1 q rs n M)(e:Ext H1 H2):KT H H2 q rs n M:=⟨h.ext.trans e,h.fq,h.fr,h.len,h.nd,h.nq,h.rows.ext e⟩
def KT.byW(h:KT H H1 q rs n M)(t:TW H1 H2 q rs n M'):KT H H2 q rs n M':=
 ⟨λb o e=>t.keep b o (λz=>by rw[h.fr b z]at e;cases e) (h.ext b o e),h.fq,h.fr,h.len,h.nd,h.nq,t.rows⟩
def KT.byB(h:KT H H1 q rs n M)(t:TB H1 H2 q rs rs' n M'):KT H H2 q rs' n M':=
 ⟨λb o e=>t.keep b o (λz=>by rw[z,h.fq]at e;cases e) (h.ext b o e),h.fq,λr a=>by
  rcases t.old r a with z|z
  .exact h.fr r z
  .cases e:H r with
   | none=>rfl
   | some o=>exact absurd ((h.ext r o e).symm.trans z) (by simp),t.len,t.nd,t.nq,t.rows⟩
inductive wK(K:E3)(vs:List V)(H:Hp)(Q:VK)(E:XK):Prop|mk:∀a m ws,vs=[a]->bt H a m ws->HOuse m ws->(∀q rs M H',KT H H' q rs m.toNat M->Cw ws M->Q (.ref q) H')->wK K vs H Q E
theorem EB(T:Bu w mg base):Cal P w K mg base "beginning_table" 2 ["house"] (wK K):=by
 refine(cH T.d_beginning_table).oS ["house","table","p","way"] λy nd H vs Q E h=>?_;obtain⟨vh,m,ws,rfl,hv,ok,q⟩:=h;have m1:=ok.m1;have m12:=ok.m12;obtain⟨F,a6,rfl,hh,_⟩:=id hv;refine⟨_,(@av _ _ _ _ _ (@aH _ _ 1 _ _ _ _ nd rfl oi (@bI _ _ _ _ aa) rfl oi)
   (@av _ _ _ _ _ (bJ F8 rfl (dv rfl T.range_ (af (@ax _ _ _ _ _ _ _ (aD K) (pv 0) ae (λ_ _=>rfl)) aa rfl)) (aO (i:=2) nd rfl oj) (@az _ _ _ (bA (bO K Ff Fv Fw bV (pv 1) (af (cK ["q"] [2] (dv rfl T.range_ (af (@ax _ _ _ _ _ _ _ (aD K) (pv 0) ae (λ_ _=>rfl)) aa rfl)) (λ_=>(aO (i:=0) (show(["q","p"]:List Vm).Nodup from by decide +kernel) rfl oi oj)) (λ_=>dm) (λ_=>(c6 bG (pv 1) (pv 0) (aR _)))) aa rfl)))))
   (@av _ _ _ _ _ (bJ F8 rfl (bP K (aG (lI T) y (af (pv 0) (af a8 aa rfl) rfl))) (aO (i:=3) nd rfl oi) (@az _ _ _ (@iJ _ _ _ _ _ _ b8 (jV (@ax _ _ _ _ _ _ _ (aQ K) (pv 1) (@ax _ _ _ _ _ _ _ (aD K) (pv 3) ae (λ_ _=>rfl)) (λ_ _=>rfl)) (@ax _ _ _ _ _ _ _ (aD K) (pv 3) ae (λ_ _=>rfl)) set_list) rfl rfl rfl)))
   (@az _ _ _ (@aK _ _ _ _ (pv 1)))))),?_⟩
 left;refine aS λtq H1 e1 a4 R=>?_;left;refine aE (ay.of (e1 _ _ hh)) (v:=.int m) rfl ?_;left;refine dz (by lia) ?_;refine forR (λp σ H'=>∃rs k1 k2,Ext H H'/\H' tq=Vn (.lst (A0 V.ref rs))/\(∀r∈rs,H r=Vo)/\rs.length=p/\rs.Nodup/\tq∉rs/\(∀(a:Nat) (r:Vb),rs[a]?=Vn r->H' r=Vn (.lst (bf m.toNat λj=>decide (a=j))))/\σ=[Vn (.ref F),Vn (.ref tq),k1,k2]) ⟨[],_,_,e1,a4,λr y=>(by cases y),rfl,Gq,by simp,λa r h=>by simp at h,rfl⟩ ?_ ?_
 .rintro p σ H2 hp ⟨rs,k1,k2,N,d,G,A,B,s,hrs,rfl⟩;rw[show (0:Int)+(p:Int)=((p:Nat):Int) by lia];left;refine⟨cg (ag.of d),?_⟩;left;refine aE (ay.of (N _ _ hh)) (v:=.int m) rfl ?_;left;refine dz (by lia) ?_;refine gK (λi ys H'=>H'=H2/\ys=bf i (λj=>decide (p=j))) (b7 (by lia)) ⟨rfl,rfl⟩ ?_ ?_ ?_
  .rintro i ys H' _ ⟨_,rfl⟩;rw[dC];exact Fu _
  .rintro i ys I hi ⟨rfl,rfl⟩;rw[show (0:Int)+(i:Int)=((i:Nat):Int) by lia];left;right;refine⟨rfl,?_⟩;rw[kf];congr 3;rw[FN];simp;lia
  .rintro ys I n ⟨hH,rfl⟩ g;subst hH;have O:=aY (o:=.lst (bf m.toNat λj=>decide (p=j))) g;have S:=O _ _ d;have h9:(upd I n (.lst (bf m.toNat λj=>decide (p=j)))) n=_:=aF;have U:=N.trans O;have hrs3:∀(a:Nat) (r:Vb),rs[a]?=Vn r->(upd I n (.lst (bf m.toNat λj=>decide (p=j)))) r=Vn (.lst (bf m.toNat λj=>decide (a=j))):=λa r h=>O _ _ (hrs a r h);have n9:H n=Vo:=by
    cases z:H n with
    | none=>rfl
    | some o=>rw[N _ _ z]at g;cases g
   have nin:n∉rs:=λz=>by obtain⟨j,W⟩:=FX z;rw[hrs j n W]at g;cases g
   have X:tq≠n:=λz=>by rw[z,g]at d;cases d
   generalize upd I n (.lst (bf m.toNat λj=>decide (p=j)))=Y at O S h9 U hrs3 ⊢;left;refine bR S (by rw[E7];exact Gv (show rs.length<=12 by lia) (by decide)) ?_;left;have keep:∀b o,b≠tq->Y b=Vn o->upd Y tq (.lst (A0 V.ref rs++[.ref n])) b=Vn o:=λb o nb e=>by rw[aB nb];exact e
   refine⟨rs++[n],_,_,bM U R,?_,λr y=>?_,by rw[Fs,A];rfl,?_,λz=>?_,λa r ha=>?_,rfl⟩
   .rw[aF,Fq];rfl
   .rcases Fx.mp y with y|y
    .exact G r y
    .rw[Fi.mp y];exact n9
   .rw[GD];refine⟨B,by simp,λa ha c hc z=>?_⟩;rw[Fi.mp hc]at z;exact nin (z ▸ ha)
   .rcases Fx.mp z with z|z
    .exact s z
    .exact X (Fi.mp z)
   .by_cases hal:a<rs.length
    .rw[Fz hal]at ha;exact keep r _ (λz=>s (z ▸ Fh ha)) (hrs3 a r ha)
    .rw[Fy (by lia)]at ha;have hz:a-rs.length=0:=by have:=(Fg.mp ha).1;simp at this;lia
     rw[hz]at ha;cases ha;have:a=p:=by lia
     subst this;exact keep n _ (Gi X) h9
 .rintro σ H2 ⟨rs,k1,k2,N,d,G,A,B,s,hrs,rfl⟩;have tw:TW H2 H2 tq rs m.toNat (λi j=>decide (i=j)):=⟨λ_ _ _ e=>e,A,B,s,d,hrs⟩;have kt:KT H H2 tq rs m.toNat (λi j=>decide (i=j)):=⟨N,R,G,A,B,s,d,hrs⟩;left;refine⟨.ref F,m,ws,_,rfl,hv.ext N,ok,λl cs us I O Z hl a0 a1=>?_⟩;have J:=kt.more O;have nl:l∉rs:=λz=>by obtain⟨j,W⟩:=FX z;rw[hrs j l W]at Z;cases Z
  have a3:=a0.1;have tupN:∀(b:Vb) (w:Way),I b=Vn (.tup w.vs)->b∉rs:=λb w hb z=>by obtain⟨j,W⟩:=FX z;rw[J.rows.2 j b W]at hb;cases hb
  refine bQ (ag.of hl) ?_;refine forL (xs:=A0 V.ref cs) (λi σ H'=>∃M k1 k2,TW I H' tq rs m.toNat M/\(∀a b,M a b=true↔(a=b\/∃w∈us.take i,w.room.toNat=a/\w.other.toNat=b))/\σ=[Vn (.ref F),Vn (.ref tq),k1,k2]) ⟨_,_,_,J.tw,λa b=>by simp,rfl⟩ (λi σ H' _ h=>by obtain⟨M,k1,k2,t,_⟩:=h;exact ag.of (t.keep _ _ nl hl)) ?_ ?_
  .rintro i v σ Y hx ⟨M,k1,k2,f,hM,rfl⟩;rw[E9]at hx;obtain⟨b,hb,rfl⟩:=Fj.mp hx;have hi:i<us.length:=by rw[<-a3];exact(Fg.mp hb).1
   have gu:us[i]?=Vn us[i]:=E8 hi;have L:=a0.2 i b _ hb gu;generalize us[i]=u at gu L;have a5:u∈ws:=by have:=Fh gu;rw[a1]at this;exact(GC.mp this).1
   have C:=ok.ok u a5;have u0:=C.r0;have u1:=C.r1;have u2:=C.o0;have u3:=C.o1;have kb:=f.keep _ _ (tupN b u L) L;have x2:u.room.toNat<rs.length:=by rw[f.len];lia
   have r2:rs[u.room.toNat]?=Vn rs[u.room.toNat]:=E8 x2;have w2:=f.rows.2 _ _ r2;generalize rs[u.room.toNat]=a2 at r2 w2;have at2:b9 (rs.map V.ref) u.room=Vn (.ref a2):=eQ u0 (by rw[E9,r2];rfl);left;refine aE (ay.of kb) (v:=.int u.room) rfl ?_;left;refine aP (ag.of f.rows.1) at2 ?_;left;refine aE (ay.of kb) (v:=.int u.other) rfl ?_;left;refine ke w2 (jP u2 (by rw[dC];lia)) ?_;refine⟨_,_,_,f.mark r2 (by lia),λa c=>?_,rfl⟩;rw[GA,gu];unfold put2;split
   .rename_i z;simp only[true_iff];exact .inr ⟨u,FR _ (by simp),z.1.symm,z.2.symm⟩
   .rename_i z;rw[hM];constructor
    .rintro(h|⟨w,x,h⟩)
     .exact .inl h
     .exact .inr ⟨w,FT _ x,h⟩
    .rintro(h|⟨w,x,h1,h2⟩)
     .exact .inl h
     .rcases Fx.mp x with x|x
      .exact .inr ⟨w,x,h1,h2⟩
      .have:w=u:=by simpa using x
       subst this;exact absurd ⟨h1.symm,h2.symm⟩ z
  .rintro σ Y ⟨M,k1,k2,f,hM,rfl⟩;rw[E7,a3,FD]at hM;left;refine q tq rs M Y (J.byW f) λa b=>?_;rw[hM,a1];constructor
   .rintro(h|⟨w,x,h⟩)
    .exact .inl h
    .obtain⟨h1,h2⟩:=GC.mp x;exact .inr ⟨w,h1,of_decide_eq_true h2,h⟩
   .rintro(h|⟨w,x,hd,h⟩)
    .exact .inl h
    .exact .inr ⟨w,GC.mpr ⟨x,F4 hd⟩,h⟩
structure UD(H:Hp)(tq:Vb)(rs:List Vb)(lu ld:Vb)(cu cd:List Vb)(us ds:List Way):Prop where
 u:H lu=Vn (.lst (A0 V.ref cu))
 au:bh H cu us
 d:H ld=Vn (.lst (A0 V.ref cd))
 ad:bh H cd ds
 nu:lu∉rs
 nd:ld∉rs
 qu:lu≠tq
 qd:ld≠tq
def bh.byW(r:Rows H q rs n M)(t:TW H H' q rs n M')(h:bh H bs ws):bh H' bs ws:=⟨h.1,λj b w a c=>by have hb:=h.2 j b w a c;refine t.keep b _ (λz=>?_) hb;obtain⟨j,d⟩:=FX z;rw[r.2 j b d]at hb;cases hb⟩
def bh.byB(r:Rows H q rs n M)(t:TB H H' q rs rs' n M')(h:bh H bs ws):bh H' bs ws:=⟨h.1,λj b w a c=>by have hb:=h.2 j b w a c;refine t.keep b _ (λz=>?_) hb;rw[z,r.1]at hb;cases hb⟩
theorem UD.byW{H H':Hp}{tq:Vb}{rs:List Vb}{lu ld:Vb}{cu cd:List Vb}{us ds:List Way}{n:Nat}{M M':Nat->Nat->Bool}(r:Rows H tq rs n M)(t:TW H H' tq rs n M')(h:UD H tq rs lu ld cu cd us ds):UD H' tq rs lu ld cu cd us ds:=
 ⟨t.keep _ _ h.nu h.u,h.au.byW r t,t.keep _ _ h.nd h.d,h.ad.byW r t,h.nu,h.nd,h.qu,h.qd⟩
theorem UD.byB{H H':Hp}{tq:Vb}{rs rs':List Vb}{lu ld:Vb}{cu cd:List Vb}{us ds:List Way}{n:Nat}{M M':Nat->Nat->Bool}(r:Rows H tq rs n M)(t:TB H H' tq rs rs' n M')(h:UD H tq rs lu ld cu cd us ds):UD H' tq rs' lu ld cu cd us ds:=by
 have no:∀l o,H l=Vn o->l∉rs->l∉rs':=λl o a b z=>by
  rcases t.old l z with y|y
  .exact b y
  .rw[a]at y;cases y
 exact⟨t.keep _ _ h.qu h.u,h.au.byB r t,t.keep _ _ h.qd h.d,h.ad.byB r t,no _ _ h.u h.nu,no _ _ h.d h.nd,h.qu,h.qd⟩
def m9(ws:List Way)(n:Nat)(M:Nat->Nat->Bool):Prop:=∀i j,i<n->j<n->(M i j=true↔Kpt ws n i j)
structure KJ(ws:List Way)(n:Nat)(M:Nat->Nat->Bool):Prop where
 beg:∀i j,(i=j\/∃w∈ws,w.deed = "stay"/\w.room.toNat=i/\w.other.toNat=j)->M i j=true
 snd:∀i j,M i j=true->i=j\/Kpt ws n i j
def zc(ok:∀w∈ws,w.Ok m)(h:KJ ws m.toNat M)(tr:∀i a j,a<m.toNat->M i a=true->M a j=true->M i j=true)(b:∀u∈ws.filter (λw=>decide (w.deed=FP "up")),∀d∈ws.filter (λw=>decide (w.deed=FP "down")),M u.other.toNat d.room.toNat=true->M u.room.toNat d.other.toNat=true):m9 ws m.toNat M:=by
 intro i j hi c;constructor
 .intro e;rcases h.snd i j e with rfl|h
  .exact .refl hi
  .exact h
 .intro f;clear hi c;induction f with
  | refl _=>exact h.beg _ _ (.inl rfl)
  | stay h1 h2=>exact h.beg _ _ (.inr ⟨_,h1,h2,rfl,rfl⟩)
  | trans h1 h2 i1 i2=>exact tr _ _ _ (Kpt.lt ok h1).2 i1 i2
  | arch h1 h2 g l o n=>exact b _ (GC.mpr ⟨h1,F4 h2⟩) _ (GC.mpr ⟨g,F4 l⟩) n
def KJ.join(h:KJ ws m.toNat M)(j:Joined m.toNat M M'):KJ ws m.toNat M':=by
 refine⟨λa b hb=>j.le _ _ (h.beg a b hb),λa b c=>j.least (λa b=>a=b\/Kpt ws m.toNat a b) (λi a j h1 h2=>?_) h.snd a b c⟩;rcases h1 with rfl|h1
 .exact h2
 .rcases h2 with rfl|h2
  .exact .inr h1
  .exact .inr (.trans h1 h2)
theorem KJ.arch{m:Int}{ws:List Way}{M M':Nat->Nat->Bool}{ad:Bool}(ok:∀w∈ws,w.Ok m)(h:KJ ws m.toNat M)(a:ArchR m.toNat (ws.filter λw=>decide (w.deed=FP "up")) (ws.filter λw=>decide (w.deed=FP "down")) M M' ad):KJ ws m.toNat M':=by
 refine⟨λi j hb=>a.le _ _ (h.beg i j hb),λi j g=>a.least (λa b=>a=b\/Kpt ws m.toNat a b) (λu l d hd hs=>?_) h.snd i j g⟩;obtain⟨n,c⟩:=GC.mp l;obtain⟨f,e⟩:=GC.mp hd;have c:=of_decide_eq_true c;have e:=of_decide_eq_true e;refine .inr ?_;refine .arch n c f e ?_;rcases hs with hs|hs
 .rw[hs];exact .refl (ji ok f).1
 .exact hs
inductive rC(K:E3)(vs:List V)(H:Hp)(Q:VK)(E:XK):Prop|mk:∀a m ws,vs=[a]->bt H a m ws->HOuse m ws->(∀q rs M H',KT H H' q rs m.toNat M->m9 ws m.toNat M->Q (.ref q) H')->rC K vs H Q E
theorem qJ(T:Bu w mg base):Cal P w K mg base "kept_table" 3 ["house"] (rC K):=by
 refine(cH T.d_kept_table).oS ["house","table","ups","downs"] λy nd H vs Q E h=>?_;obtain⟨A,m,ws,rfl,S,ok,q⟩:=h;have m12:=ok.m12;refine⟨_,(av (aH (i:=1) nd rfl oi (aG (EB T) y (aw (pv 0) aa)))
   (av (aH (i:=2) nd rfl oi (aG (lI T) y (aw (pv 0) (aw a8 aa))))
   (av (aH (i:=3) nd rfl oi (aG (lI T) y (aw (pv 0) (aw a8 aa))))
   (av (bA (aG (vI T) y (aw (pv 1) aa)))
   (av (fi F8 (bT (aG (EC T) y (aw (pv 1) (aw (pv 2) (aw (pv 3) aa))))) (az (bA (aG (vI T) y (aw (pv 1) aa)))))
   (az (aK (pv 1)))))))),?_⟩
 left;refine⟨A,m,ws,rfl,S,ok,λtq rs M H1 kt bg=>?_⟩;left;refine⟨A,m,ws,_,rfl,S.ext kt.ext,ok,λlu cu us H2 U C r F v=>?_⟩;left;refine⟨A,m,ws,_,rfl,S.ext (kt.ext.trans U),ok,λld cd ds H3 W G s I hds=>?_⟩;have x:=kt.more (U.trans W);have kj:KJ ws m.toNat M:=⟨λi j h=>(bg i j).mpr h,λi j h=>by
  rcases(bg i j).mp h with h|⟨w,X,hd,rfl,rfl⟩
  .exact .inl h
  .exact .inr (.stay X hd)⟩
 have nin:∀l,H1 l=Vo->l∉rs/\l≠tq:=λl O=>by
  refine⟨λz=>?_,λz=>?_⟩
  .obtain⟨j,Y⟩:=FX z;rw[kt.rows.2 j l Y]at O;cases O
  .rw[z,kt.rows.1]at O;cases O
 have e:H1 ld=Vo:=by
  cases z:H1 ld with
  | none=>rfl
  | some o=>rw[U _ _ z]at G;cases G
 have ud:UD H3 tq rs lu ld cu cd us ds:=⟨W _ _ r,F.ext W,s,I,(nin lu C).1,(nin ld e).1,(nin lu C).2,(nin ld e).2⟩;have hin:∀w∈us++ds,0<=w.room/\w.room<(m.toNat:Int)/\0<=w.other/\w.other<(m.toNat:Int):=λw X=>by
  have Z:w∈ws:=by
   rcases Fx.mp X with h|h
   .rw[v]at h;exact(GC.mp h).1
   .rw[hds]at h;exact(GC.mp h).1
  have h:=ok.ok w Z;have h1:=h.r0;have h2:=h.r1;have h3:=h.o0;have h4:=h.o1;lia
 clear r F s I nin e;left;refine⟨tq,rs,m.toNat,M,rfl,x.tb,by lia,λa0 M1 H4 tb jd=>?_⟩;have a9:=x.byB tb;have ab:=ud.byB x.rows tb;have ac:=kj.join jd;left;refine eV (λmm σ H'=>∃rs M,KT H H' tq rs m.toNat M/\UD H' tq rs lu ld cu cd us ds/\KJ ws m.toNat M/\(∀i a j,a<m.toNat->M i a=true->M a j=true->M i j=true)/\mm=iX m.toNat M/\σ=[Vn A,Vn (.ref tq),Vn (.ref lu),Vn (.ref ld)]) (λσ H'=>∃rs M,KT H H' tq rs m.toNat M/\m9 ws m.toNat M/\σ=[Vn A,Vn (.ref tq),Vn (.ref lu),Vn (.ref ld)]) (iX m.toNat M1) ⟨a0,M1,a9,ab,ac,jd.tr,rfl,rfl⟩ ?_ ?_
 .rintro mm σ H5 ⟨f,R,g,c,ah,ai,rfl,rfl⟩;left;refine⟨tq,f,m.toNat,R,lu,cu,us,ld,cd,ds,rfl,g.tw,c.u,c.au,c.d,c.ad,c.nu,c.nd,hin,λM6 ad H6 tw B cl=>?_⟩;have n:=g.byW tw;have aj:=c.byW g.rows tw;rw[v,hds]at B;have J:=ah.arch ok.ok B;left;cases ad with
  | false=>
   refine aC ⟨f,M6,n,zc ok.ok J (λi a j ha h1 h2=>?_) (λu hu d hd hm=>?_),rfl⟩
   .rw[B.same rfl]at h1 h2 ⊢;exact ai i a j ha h1 h2
   .rw[B.same rfl]at hm ⊢;exact cl rfl u (by rw[v];exact hu) d (by rw[hds];exact hd) hm
  | true=>
   refine aI ⟨λL H'=>∃rs M,KT H H' tq rs m.toNat M/\UD H' tq rs lu ld cu cd us ds/\KJ ws m.toNat M/\(∀i a j,a<m.toNat->M i a=true->M a j=true->M i j=true)/\iX m.toNat M<iX m.toNat R/\L=[Vn A,Vn (.ref tq),Vn (.ref lu),Vn (.ref ld)],λL H' ⟨rs,M,a1,a2,a3,a4,a5,a6⟩=>⟨_,a5,rs,M,a1,a2,a3,a4,rfl,a6⟩,?_⟩;left;refine⟨tq,f,m.toNat,M6,rfl,n.tb,by lia,λak M7 H7 N p=>?_⟩;left;obtain⟨i,j,hi,Y,hf,ht⟩:=B.more rfl;exact⟨ak,M7,n.byB N,aj.byB n.rows N,J.join p,p.tr,Dk hi Y (λa b h=>p.le _ _ (B.le _ _ h)) hf (p.le _ _ ht),rfl⟩
 .rintro σ H5 ⟨f,R,g,am,rfl⟩;left;exact q tq f R H5 g am
def nQ (h:ta σ H λvs H1=>(∀j∈js,∃v,σ[j]?=Vn (Vn v)) ∧
 ∀cp,cp.length=js.length->(∀(i j:Nat) e,js[i]?=Vn j->cp[i]?=Vn e->N[j]?=Vn e.n/\cells.lookup e.n=Vn e.c/\σ[j]?=Vn (Vn e.v)/\H1 e.c=Vo/\∃u,e.o.data=.cell (Vn u)/\RelV e.v u) ->
  sp vs (cq (cellsOf cp) H1) (λv H'=>(∀b o,(cellsOf cp).lookup b=Vn o->H' b=Vn (eE b o))/\Q v (bE (cellsOf cp) H')) E0):jw sp js cells N ta σ H Q:=h
def xo{K:E3}{a:TE}(h:a σ H λb H1=>∃f pre R,b=.ref f/\FunR P w K mg base k f pre R/\pre H1/\ta σ H1 λvs H2=>pre H2/\R vs H2 Q):qV P w K mg base k a ta σ H Q:=h
def mn(a:∀b o,cs.lookup b=Vn o->H b=Vo):Ext H (cq cs H):=λb o e=>pE a e
def ic(a:∀b o,cs.lookup b=Vn o->H b=Vn (eE b o))(hb:H b=Vn x)(nx:∀f,x≠.ext f):bE cs H b=Vn x:=by
 cases q:cs.lookup b with
 | none=>rw[cZ q];exact hb
 | some o=>rw[a b o q]at hb;cases hb;exact absurd rfl (nx _)
def DI(a:∀b o,cs.lookup b=Vn o->H b=Vn (eE b o)):Ext H (cq cs (bE cs H)):=λb x e=>by
 cases q:cs.lookup b with
 | none=>rw[dO q,cZ q];exact e
 | some o=>rw[fU q,<-a b o q];exact e
def DK(a:∀b o,cs.lookup b=Vn o->H b=Vo)(e:Ext (cq cs H) H'):Ext H (bE cs H'):=λb x hb=>by
 cases q:cs.lookup b with
 | none=>rw[cZ q];exact e b x (by rw[dO q];exact hb)
 | some o=>rw[a b o q]at hb;cases hb
def ee(n:Nat)(g:Nat->Nat->Bool):Nat->List Bfs.Pl
 | 0=>[]
 | p+1=>ee n g p++((F2 n).filter (g p)).map λq:Nat=>(((p:Nat):Int),((q:Nat):Int))
theorem i6{n:Nat}{g:Nat->Nat->Bool}{x:Bfs.Pl}:∀{k:Nat},x∈ee n g k↔∃p q:Nat,p<k/\q<n/\g p q=true/\x=(((p:Nat):Int),((q:Nat):Int))
 | 0=>⟨λh=>(nomatch h),λ⟨p,_,h,_⟩=>absurd h (GS _)⟩
 | k+1=>by
  show x∈ee n g k++_↔_;rw[Fx,i6 (k:=k)];constructor
  .rintro(⟨p,q,h1,h2⟩|h)
   .exact⟨p,q,by lia,h2⟩
   .obtain⟨q,b,rfl⟩:=F7.mp h;obtain⟨h1,h2⟩:=GC.mp b;exact⟨k,q,by lia,GK.mp h1,h2,rfl⟩
  .rintro⟨p,q,h1,h2,a,rfl⟩;by_cases c:p<k
   .exact .inl ⟨p,q,c,h2,a,rfl⟩
   .have:p=k:=by lia
    subst this;exact .inr (F7.mpr ⟨q,GC.mpr ⟨GK.mpr h2,a⟩,rfl⟩)
def m6(n)(g):((F2 n).filter g).length<=n:=FI (GF _ _) (by rw[G6];exact Fu _)
theorem m5{n:Nat}{g:Nat->Nat->Bool}:∀k:Nat,(ee n g k).length<=k*n
 | 0=>by simp[ee]
 | k+1=>by show(ee n g k++_).length<=_;rw[Fs,E7,Ho];have:=m5 (n:=n) (g:=g) k;have:=m6 n (g k);lia
def bz(f:∀a x,ao H a x->ao H' a x){xs:List Bfs.Pl}(h:Paired (ao H) as xs):Paired (ao H') as xs:=by
 induction h with
 | nil=>exact .nil
 | cons h t b=>exact .cons (f _ _ h) b
def gr{xs:List Bfs.Pl}(h:Paired (ao H) as xs)(b:ao H a x):Paired (ao H) (as++[a]) (xs++[x]):=by
 induction h with
 | nil=>exact .cons b .nil
 | cons h _ c=>exact .cons h c
def wC{xs ys:List Bfs.Pl}(h:Paired (ao H) as xs)(h':Paired (ao H) bs ys):Paired (ao H) (as++bs) (xs++ys):=by
 induction h with
 | nil=>exact h'
 | cons h _ a=>exact .cons h a
def cA{xs:List Bfs.Pl}(h:Paired (ao H) as xs):as.length=xs.length:=by
 induction h with
 | nil=>rfl
 | cons _ _ a=>rw[FC,FC,a]
def rP(P:Vd)(w:Ve)(K:E3)(mg:Vm->Option Va)(base:Vh):Sp:=λvs H Q _=>∃a m ws f pre g,vs=[a,.ref f]/\bt H a m ws/\HOuse m ws/\FunR P w K mg base 1 f pre (λvs H Q=>∃p q:Nat,vs=[.int (p:Nat),.int (q:Nat)]/\(p:Int)<m/\(q:Int)<m/\∀H',Ext H H'->Q (.bl (g p q)) H')/\pre H/\(∀H H',Ext H H'->pre H->pre H') ∧
 ∀l ps H',Ext H H'->H l=Vo->H' l=Vn (.lst (A0 V.ref ps))->Paired (ao H') ps (ee m.toNat g m.toNat)->Q (.ref l) H'
theorem xR(T:Bu w mg base):Cal P w K mg base "told_pairs" 2 ["house","choice"] (rP P w K mg base):=by
 have ln:∀vs H Q E,(rP P w K mg base) vs H Q E->vs.length=2:=by intro vs H Q E h;obtain⟨Z,m,ws,f,pre,g,rfl,_⟩:=h;rfl
 refine(bZ T.d_told_pairs).oS ["house","choice","pairs","p"] (λhr nd H vs Q E h=>?_) ln;obtain⟨Z,m,ws,O,pre,g,rfl,hv,ok,hF,s,d,q⟩:=h;have m1:=ok.m1;have m12:=ok.m12;obtain⟨L,a0,rfl,R,_⟩:=id hv;refine⟨_,(@av _ _ _ _ _ (@aH _ _ 2 _ _ _ _ nd rfl oi (@bI _ _ _ _ aa) rfl oi)
   (@av _ _ _ _ _ (bJ F8 rfl (dv rfl T.range_ (af (@ax _ _ _ _ _ _ _ (aD K) (pv 0) ae (λ_ _=>rfl)) aa rfl)) (aO (i:=3) nd rfl oj) (@az _ _ _ (bA (bO K Ff J1 J2 uz (pv 2) (af (cK ["q"] [3,1] (dv rfl T.range_ (af (@ax _ _ _ _ _ _ _ (aD K) (pv 0) ae (λ_ _=>rfl)) aa rfl)) (λ_=>(aO (i:=0) (show(["q","p","choice"]:List Vm).Nodup from by decide +kernel) rfl oi oj)) (λ_=>(dI (bT (vH (P:=P) (w:=w) (K:=K) (mg:=mg) (base:=base) hr (pv 2) (af (pv 1) (af (pv 0) aa rfl) rfl))))) (λ_=>(@bH _ _ _ _ _ (af (pv 1) (af (pv 0) aa rfl) rfl)))) aa rfl)))))
   (@az _ _ _ (@aK _ _ _ _ (pv 2))))),?_⟩
 left;refine aS λl H1 S hl B=>?_;left;refine aE (ay.of (S _ _ R)) (v:=.int m) rfl ?_;left;refine dz (by lia) ?_;refine forR (λp σ H'=>∃ps k1,Ext H H'/\H' l=Vn (.lst (A0 V.ref ps))/\Paired (ao H') ps (ee m.toNat g p)/\σ=[Vn (.ref L),Vn (.ref O),Vn (.ref l),k1]) ⟨[],_,S,hl,.nil,rfl⟩ ?_ ?_
 .rintro p σ H2 hp ⟨ps,k1,C,e,j,rfl⟩;rw[show (0:Int)+(p:Int)=((p:Nat):Int) by lia];have a1:=cA j;have a2:=m5 (n:=m.toNat) (g:=g) p;have a3:p*m.toNat<=12*12:=Jn (by lia) (by lia);left;refine⟨cg (ag.of e),?_⟩;left;refine aE (ay.of (C _ _ R)) (v:=.int m) rfl ?_;left;refine dz (by lia) ?_;refine gK (λi ys H'=>Ext H2 H'/\∃cs,ys=A0 V.ref cs/\Paired (ao H') cs (((F2 i).filter (g p)).map λq:Nat=>(((p:Nat):Int),((q:Nat):Int)))) (b7 (by lia)) ⟨Ext.rfl' _,[],rfl,.nil⟩ ?_ ?_ ?_
  .rintro i ys H' _ ⟨_,cs,rfl,b⟩;rw[E7,cA b,E7];exact m6 i (g p)
  .rintro i ys M hi ⟨I,cs,rfl,b⟩;rw[show (0:Int)+(i:Int)=((i:Nat):Int) by lia];have G:=C.trans I;left;refine xo ?_;left;refine⟨O,pre,_,rfl,hF,d _ _ G s,?_⟩;left;refine⟨d _ _ G s,p,i,rfl,by lia,by lia,λH4 A=>?_⟩;have c:=I.trans A;cases U:g p i with
   | false=>
    refine rd_exb (aC ⟨c,cs,rfl,?_⟩);rw[Hm,GL];have:G7 (g p) [i]=[]:=by rw[GQ,F5 (by rw[U];exact Fp)];rfl
    rw[this,GJ];exact bz (λa x h=>A _ _ h) b
   | true=>
    exfalso;left;refine aS λt H5 W ht _=>?_;refine⟨c.trans W,cs++[t],?_,?_⟩
    .rw[Fq];rfl
    .rw[Hm,GL,Fq];have:G7 (g p) [i]=[i]:=by rw[GQ,F6 U];rfl
     rw[this];exact gr (bz (λa x h=>(A.trans W) _ _ h) b) ht
  .rintro ys M J ⟨I,cs,rfl,b⟩ N;have A:=aY (o:=.lst (A0 V.ref cs)) N;have X:(upd M J (.lst (A0 V.ref cs))) J=_:=aF;have u:=bz (λa x h=>A _ _ h) b;have c:=I.trans A;have r:=c _ _ e;have y:=bz (λa x h=>c _ _ h) j;generalize upd M J (.lst (A0 V.ref cs))=H4 at A X u c r y ⊢;have hcl:=cA b;rw[E7]at hcl;have Y:=m6 m.toNat (g p);left;refine⟨l,J,_,_,rfl,rfl,r,X,b7 (by rw[E7,E7];lia),?_⟩;left;refine⟨ps++cs,_,bM (C.trans c) B,?_,?_,rfl⟩
   .rw[aF,Fq]
   .exact wC (bz (λa x h=>ao.put r (λxs z=>by cases z) h) y) (bz (λa x h=>ao.put r (λxs z=>by cases z) h) u)
 .rintro σ H2 ⟨ps,k1,C,e,j,rfl⟩;left;exact q l ps H2 C B e j
def fO(K:E3):Prop:=∀x∈(["kept","low_levels","risen"]:List Vm),∀y∈(["kept","low_levels","risen"]:List Vm),x≠y->∀c T c' a,Gr K x=Vn (c,T)->Gr K y=Vn (c',a)->a≠T
def Ep(K:E3):Bool:=(["kept","low_levels","risen"]:List Vm).all λx=>(["kept","low_levels","risen"]:List Vm).all λy=>x == y || (match Gr K x,Gr K y with|some a,Vn b=>b.2 != a.2|_,_=>true)
def Bi{K:E3}(h:Ep K=true):fO K:=λx a y b d c T c' g e f=>by
 have h1:=FK.mp (FK.mp h x a) y b;rw[e,f,Bool.or_eq_true]at h1;rcases h1 with h1|h1
 .exact absurd (eq_of_beq h1) d
 .exact bne_iff_ne.mp h1
structure Tbs(K:E3)(H:Hp):Prop where
 kept:de K "kept" ("kept" ++ ".<locals>." ++ "<lambda>") 153 29 H
 low:de K "low_levels" ("low_levels" ++ ".<locals>." ++ "<lambda>") 186 39 H
 risen:de K "risen" ("risen" ++ ".<locals>." ++ "<lambda>") 158 29 H
theorem Tbs.ext{K:E3}{H H':Hp}(e:Ext H H')(h:Tbs K H):Tbs K H':=⟨h.kept.ext e,h.low.ext e,h.risen.ext e⟩
def cx.et{kk:List (List Key)}(e:Et H H')(h:cx H p kk):cx H' p kk:=by obtain⟨bs,h1,h2,a⟩:=h;exact⟨bs,e _ _ h1 (λps z=>by cases z),h2,λj b k c d=>e _ _ (a j b k c d) (λps z=>by cases z)⟩
theorem bt.et{H H':Hp}{v:V}{m:Int}{ws:List Way}(e:Et H H')(h:bt H v m ws):bt H' v m ws:=by obtain⟨p,q,rfl,h1,h2⟩:=h;exact⟨p,q,rfl,e _ _ h1 (λps z=>by cases z),h2.et e⟩
def Rows.et(e:Et H H')(h:Rows H q rs n M):Rows H' q rs n M:=⟨e _ _ h.1 (λps z=>by cases z),λi r hi=>e _ _ (h.2 i r hi) (λps z=>by cases z)⟩
def bh.et(e:Et H H')(h:bh H bs ws):bh H' bs ws:=⟨h.1,λj b w a c=>e _ _ (h.2 j b w a c) (λps z=>by cases z)⟩
def ao.et(e:Et H H')(h:ao H p x):ao H' p x:=e _ _ h (λps z=>by cases z)
def fZ(H:Hp)(l:Vb)(n:Nat)(R:Nat->Nat->Prop):Prop:=∃ps g,H l=Vn (.lst (A0 V.ref ps))/\Paired (ao H) ps (ee n g n)/\∀i j,i<n->j<n->(g i j=true↔R i j)
theorem fZ.et{H H':Hp}(e:Et H H'){l:Vb}{n:Nat}{R:Nat->Nat->Prop}(h:fZ H l n R):fZ H' l n R:=by obtain⟨ps,g,h1,h2,b⟩:=h;exact⟨ps,g,e _ _ h1 (λps z=>by cases z),bz (λa x h=>h.et e) h2,b⟩
def held{c a:Hp}(h:∀b o,cs.lookup b=Vn o->c b=Vo)(d:Ext (cq cs c) a):(∀b o,cs.lookup b=Vn o->a b=Vn (eE b o))/\Ext c (bE cs a)/\(∀l,cq cs c l=Vo->bE cs a l=a l)/\∀b x,a b=Vn x->(∀f,x≠.ext f)->bE cs a b=Vn x:=by
 have e:∀b o,cs.lookup b=Vn o->a b=Vn (eE b o):=λb o q=>d _ _ (fU q);refine⟨e,DK h d,λl g=>?_,λb x hb nx=>ic e hb nx⟩;cases q:cs.lookup l with
 | none=>exact cZ q
 | some o=>rw[fU q]at g;cases g
def pN{α:Type}{cp:List α}(h:cp.length=1):∃e,cp=[e]:=by
 cases cp with
 | nil=>exact absurd h (by simp)
 | cons e r=>
  cases r with
  | nil=>exact⟨e,rfl⟩
  | cons _ _=>exact absurd h (by simp)
def mj{α:Type}{cp:List α}(h:cp.length=2):∃e e',cp=[e,e']:=by
 cases cp with
 | nil=>exact absurd h (by simp)
 | cons e r=>
  obtain⟨e',rfl⟩:=pN (cp:=r) (by simpa using h);exact⟨e,e',rfl⟩
def AI{α:Type}{cp:List α}(h:cp.length=3):∃e e' a,cp=[e,e',a]:=by
 cases cp with
 | nil=>exact absurd h (by simp)
 | cons e r=>
  obtain⟨e',a,rfl⟩:=mj (cp:=r) (by simpa using h);exact⟨e,e',a,rfl⟩
def nJ{K:E3}{q:Vm}(i:H0 f=Vn (fN f c q params body scope cl))(C:ClOk scope cells cl)(ps)(cp)(R)(I:Hp->Prop)
  (S:LamSc ps scope) (bind:∀pm g d us,us.length=ps.length->bindArgs (PySem.W.kla_fn "<lambda>" q params body scope cl pm g d) ⟨us,[]⟩=pure (ps.zip us))
  (h:∀vs H Q,R vs H Q->vs.length=ps.length)
  (a:∀A outer s H (vs:List V) Q,Room k (A.deeper (fV q scope s.heap.objs.size f (.ref c) cl))->iD f c q params body scope cl cp H->I H->R vs H Q ->
   ∃te,PE (jJ P w K mg base (ps++cp.map (·.n)) q scope f (.ref c) cl A outer s (bE (cellsOf cp) H)) body te/\te (vs.map Vn++cp.map λe=>Vn e.v) (bE (cellsOf cp) H) λv H'=>(∀b o,(cellsOf cp).lookup b=Vn o->H' b=Vo)->Q v (cq (cellsOf cp) H')) :
  FunR P w K mg base (k+1) f (λH=>iD f c q params body scope cl cp H/\I H) R:=AO I S C bind h a
inductive qp(K:E3)(vs:List V)(H:Hp)(Q:VK)(E:XK):Prop|mk:∀a m ws,vs=[a]->bt H a m ws->HOuse m ws->fO K->Tbs K H->(∀l H',Et H H'->Tbs K H'->fZ H' l m.toNat (Kpt ws m.toNat)->Q (.ref l) H')->qp K vs H Q E
theorem DY(T:Bu w mg base):Cal P w K mg base "kept" 7 ["house"] (qp K):=by
 obtain⟨c9,T9,B⟩:=T.b_kept;refine(cH T.d_kept).oL B ["house","table"] λhr nd H vs Q E h=>?_;obtain⟨vh,m,ws,rfl,hv,ok,U,I,q⟩:=h;refine⟨_,(av (bA (aG (pP T) hr (aw (pv 0) aa)))
   (av (aH (i:=1) nd rfl oj (aG (qJ T) hr (aw (pv 0) aa)))
   (az (aK (n6 [1] (xR T) hr (aw (pv 0) (aw (pM rfl rfl B.hd B.blt B.gl (by decide +kernel) rfl rfl rfl) aa))))))),?_⟩
 left;refine⟨vh,m,ws,rfl,hv,ok,λH1 e1=>?_⟩;left;refine⟨vh,m,ws,rfl,hv.ext e1,ok,λtq rs M H2 kt km=>?_⟩;have g:=e1.trans kt.ext;have J:=kt.rows;have aj:=kt.len;left;show jw _ [1] _ (["house","table"]:List Vm) _ _ _ _;generalize KZ _=cells0;refine nQ ?_;left;refine nY ?_;refine mE (x:="kept") (I.ext g).kept B.tin λfl c' cl H3 hcl e3 a6 ot hf a9=>?_;have t3:Tbs K H3:=⟨a6,ot "low_levels" _ _ _ (λc2 T2 e2=>U "kept" (by simp) "low_levels" (by simp) (by decide +kernel) _ _ _ _ B.tin e2) (I.ext g).low,ot "risen" _ _ _ (λc2 T2 e2=>U "kept" (by simp) "risen" (by simp) (by decide +kernel) _ _ _ _ B.tin e2) (I.ext g).risen⟩;left;refine⟨λj hj=>?_,λcp hlen W=>?_⟩
 .rw[Fi.mp hj];exact⟨_,rfl⟩
 obtain⟨⟨n,c,o,v⟩,rfl⟩:=pN hlen;obtain⟨hN,X,L,y,u,F,G⟩:=W 0 1 _ rfl rfl;clear W hlen;dsimp only at hN X L y F G;have ab:(FP "table")=n:=FQ hN;have Y:(V.ref tq)=v:=FQ (FQ L);clear hN L;subst ab;subst Y;have Z:∀b o',(cellsOf [⟨FP "table",c,o,V.ref tq⟩]).lookup b=Vn o'->H3 b=Vo:=λb o' hb=>by obtain⟨e,he,rfl,rfl⟩:=il hb;rw[Fi.mp he];exact y
 have ex:=mn Z;have C:=(J.et e3).ext ex;have ac:=((hv.ext g).et e3).ext ex;have N:Caps (cq (cellsOf [⟨FP "table",c,o,V.ref tq⟩]) H3) cl [⟨FP "table",c,o,V.ref tq⟩]:=by
  obtain⟨c2,O⟩:=hcl.has (FP "table") rfl;have a0:=(hcl.fr _ _ O).2;rw[X]at a0;cases a0;refine⟨λe he=>?_,λx d hx=>?_⟩
  .rw[Fi.mp he];exact⟨O,fU (by simp[cellsOf]),u,F,G⟩
  .have hm:=jm (hcl.fr x d hx).1;simp at hm;subst hm;rw[O]at hx;cases hx;exact⟨_,Fi.mpr rfl,rfl,rfl⟩
 have hF:=nJ (P:=P) (w:=w) (K:=K) (mg:=mg) (base:=base) (k:=0) hf hcl (["p","q"]:List Vm) [⟨FP "table",c,o,V.ref tq⟩] (λvs H Q=>∃p q:Nat,vs=[.int (p:Nat),.int (q:Nat)]/\(p:Int)<m/\(q:Int)<m/\∀H',Ext H H'->Q (.bl (M p q)) H') (λH=>Rows H tq rs m.toNat M) ⟨rfl,rfl,rfl,by decide +kernel,by decide +kernel⟩ (λ_ _ _ us hl=>by obtain⟨u1,u2,rfl⟩:=mj hl;rfl) (λvs H Q h=>by obtain⟨p,q,rfl,_⟩:=h;rfl) (λA outer s H vs Q ak a5 hI hR=>by
  obtain⟨p,q,rfl,hp,hq,hQ⟩:=hR;have R:=a5.2.2.look;have S:Rows (bE (cellsOf [⟨FP "table",c,o,V.ref tq⟩]) H) tq rs m.toNat M:=⟨ic R hI.1 (λf z=>by cases z),λi r hi=>ic R (hI.2 i r hi) (λf z=>by cases z)⟩;refine⟨_,(ax (aQ K) (ax (aQ K) (pv 2) (pv 0) (λ_ _=>rfl)) (pv 1) (λ_ _=>rfl)),?_⟩;have hb:=DI R;generalize bE (cellsOf [⟨FP "table",c,o,V.ref tq⟩]) H=HU at S hb ⊢;have ad:p<rs.length:=by lia
  have gp:rs[p]?=Vn rs[p]:=E8 ad;have rp:=S.2 p _ gp;generalize rs[p]=ap at gp rp;show jk _ _ _ [Vn (.int (p:Nat)),Vn (.int (q:Nat)),Vn (.ref tq)] _ _;left;refine aP (ag.of S.1) (v:=.ref ap) (cN (by rw[E9,gp];rfl)) ?_;left;refine aP (ag.of rp) (fo (by lia) (by lia)) ?_;rw[Fl];exact λ_=>hQ _ hb)
 refine⟨vh,m,ws,fl,_,M,rfl,ac,ok,hF,⟨⟨ex _ _ hf,ex _ _ a9,N⟩,C⟩,λH H' e h=>⟨h.1.ext e,h.2.ext e⟩,λl ps H4 e4 hl ah ai=>?_⟩;obtain⟨a1,a2,a3,a4⟩:=held Z e4;exact⟨a1,q l _ ((g.et.trans e3).trans a2.et) (t3.ext a2) ⟨ps,M,a4 _ _ ah (λf z=>by cases z),bz (λa x h=>a4 _ _ h (λf z=>by cases z)) ai,km⟩⟩
def bL(ws:List Way)(n:Nat)(i j:Nat):Prop:=∃u∈ws,u.deed = "up"/\u.room.toNat=i/\Kpt ws n u.other.toNat j
def se(a:∀b o,cs.lookup b=Vn o->H b=Vn (eE b o))(e:Ext (bE cs H) H'):Ext H (cq cs H'):=λb x hb=>by
 cases q:cs.lookup b with
 | none=>rw[dO q];exact e b x (by rw[cZ q];exact hb)
 | some o=>rw[fU q,<-a b o q];exact hb
def lg(us:List Way)(M:Nat->Nat->Bool)(p q:Nat):Bool:=((us.filter λu=>decide (u.room=(p:Int))).map λu=>M u.other.toNat q).any id
inductive yc(K:E3)(vs:List V)(H:Hp)(Q:VK)(E:XK):Prop|mk:∀a m ws,vs=[a]->bt H a m ws->HOuse m ws->fO K->Tbs K H->(∀l H',Et H H'->Tbs K H'->fZ H' l m.toNat (bL ws m.toNat)->Q (.ref l) H')->yc K vs H Q E
theorem BK(T:Bu w mg base):Cal P w K mg base "risen" 7 ["house"] (yc K):=by
 obtain⟨c9,T9,B⟩:=T.b_risen;refine(cH T.d_risen).oL B ["house","table","ups"] λhr nd H vs Q E h=>?_;obtain⟨vh,m,ws,rfl,hv,ok,ap,ab,q⟩:=h;have few:=ok.few;refine⟨_,(av (bA (aG (pP T) hr (aw (pv 0) aa)))
   (av (aH (i:=1) nd rfl oj (aG (qJ T) hr (aw (pv 0) aa)))
   (av (aH (i:=2) nd rfl oj (aG (lI T) hr (aw (pv 0) (aw a8 aa))))
   (az (aK (n6 [2,1] (xR T) hr (aw (pv 0) (aw (pM rfl rfl B.hd B.blt B.gl (by decide +kernel) rfl rfl rfl) aa)))))))),?_⟩
 left;refine⟨vh,m,ws,rfl,hv,ok,λH1 e1=>?_⟩;left;refine⟨vh,m,ws,rfl,hv.ext e1,ok,λtq rs M ca kt km=>?_⟩;left;refine⟨vh,m,ws,_,rfl,hv.ext (e1.trans kt.ext),ok,λlu cu us H2 Z cc aq ar ac=>?_⟩;have G:=(e1.trans kt.ext).trans Z;have ad:=kt.rows.ext Z;have cd:=kt.len;have as:=ar.1;have ce:us.length<=100:=by rw[ac];exact FI (GF _ _) few
 have hin:∀u∈us,u∈ws/\u.deed=FP "up":=λu hu=>by rw[ac]at hu;obtain⟨h1,h2⟩:=GC.mp hu;exact⟨h1,of_decide_eq_true h2⟩
 left;show jw _ [2,1] _ (["house","table","ups"]:List Vm) _ _ _ _;generalize KZ _=cells0;refine nQ ?_;left;refine nY ?_;refine mE (x:="risen") (ab.ext G).risen B.tin λfl c' cl H3 hcl e3 bm ot hf bn=>?_;have t3:Tbs K H3:=⟨ot "kept" _ _ _ (λc2 T2 Z=>ap "risen" (by simp) "kept" (by simp) (by decide +kernel) _ _ _ _ B.tin Z) (ab.ext G).kept,ot "low_levels" _ _ _ (λc2 T2 Z=>ap "risen" (by simp) "low_levels" (by simp) (by decide +kernel) _ _ _ _ B.tin Z) (ab.ext G).low,bm⟩;left;refine⟨λj hj=>?_,λcp hlen ah=>?_⟩
 .rcases Fo.mp hj with rfl|hj
  .exact⟨_,rfl⟩
  .rw[Fi.mp hj];exact⟨_,rfl⟩
 obtain⟨⟨n,c,o,v⟩,⟨n',d,o',v'⟩,rfl⟩:=mj hlen;obtain⟨hN,au,ai,I,u,a0,a5⟩:=ah 0 2 _ rfl rfl;obtain⟨aj,a6,J,y,u2,L,N⟩:=ah 1 1 _ rfl rfl;clear ah hlen;dsimp only at hN au ai I a0 a5 aj a6 J y L N;have bu:(FP "ups")=n:=FQ hN;have b0:(V.ref lu)=v:=FQ (FQ ai);have b1:(FP "table")=n':=FQ aj;have ak:(V.ref tq)=v':=FQ (FQ J);clear hN ai aj J;subst bu;subst b0;subst b1;subst ak;obtain⟨c2,O⟩:=hcl.has (FP "ups") rfl;obtain⟨d2,R⟩:=hcl.has (FP "table") rfl;have b2:=(hcl.fr _ _ O).2;have b3:=(hcl.fr _ _ R).2;rw[au]at b2;rw[a6]at b3;cases b2;cases b3;have bv:c≠d:=λz=>by have:=hcl.inj _ _ _ O (z ▸ R);exact absurd this (by decide +kernel)
 have b4:∀b o9,(cellsOf [⟨FP "ups",c,o,V.ref lu⟩,⟨FP "table",d,o',V.ref tq⟩]).lookup b=Vn o9->H3 b=Vo:=λb o9 hb=>by
  obtain⟨e,he,rfl,rfl⟩:=il hb;rcases Fo.mp he with rfl|he
  .exact I
  .rw[Fi.mp he];exact y
 have ex:=mn b4;have X:=(ad.et e3).ext ex;have ba:=ex _ _ (e3 _ _ aq (λps z=>by cases z));have bb:=(ar.et e3).ext ex;have c0:=((hv.ext G).et e3).ext ex;have am:Caps (cq (cellsOf [⟨FP "ups",c,o,V.ref lu⟩,⟨FP "table",d,o',V.ref tq⟩]) H3) cl [⟨FP "ups",c,o,V.ref lu⟩,⟨FP "table",d,o',V.ref tq⟩]:=by
  refine⟨λe he=>?_,λx g C=>?_⟩
  .rcases Fo.mp he with rfl|he
   .exact⟨O,fU (by simp[cellsOf]),u,a0,a5⟩
   .rw[Fi.mp he];refine⟨R,fU ?_,u2,L,N⟩;show JL d ((c,o)::[(d,o')])=Vn o';rw[FY,show (d == c)=false from beq_eq_false_iff_ne.mpr (Gi bv),FY,beq_self_eq_true]
  .have hm:=jm (hcl.fr x g C).1;simp at hm;rcases hm with rfl|rfl
   .first|(rw[O]at C;cases C;exact⟨_,Fe,rfl,rfl⟩)|(rw[R]at C;cases C;exact⟨_,Fb _ (Fi.mpr rfl),rfl,rfl⟩)
   .first|(rw[O]at C;cases C;exact⟨_,Fe,rfl,rfl⟩)|(rw[R]at C;cases C;exact⟨_,Fb _ (Fi.mpr rfl),rfl,rfl⟩)
 have hF:=nJ (P:=P) (w:=w) (K:=K) (mg:=mg) (base:=base) (k:=0) hf hcl (["p","q"]:List Vm) [⟨FP "ups",c,o,V.ref lu⟩,⟨FP "table",d,o',V.ref tq⟩] (λvs H Q=>∃p q:Nat,vs=[.int (p:Nat),.int (q:Nat)]/\(p:Int)<m/\(q:Int)<m/\∀H',Ext H H'->Q (.bl (lg us M p q)) H') (λH=>Rows H tq rs m.toNat M/\H lu=Vn (.lst (A0 V.ref cu))/\bh H cu us) ⟨rfl,rfl,rfl,by decide +kernel,by decide +kernel⟩ (λ_ _ _ us hl=>by obtain⟨u1,u2,rfl⟩:=mj hl;rfl) (λvs H Q h=>by obtain⟨p,q,rfl,_⟩:=h;rfl) (λA outer s H vs Q cf bc hI hR=>by
  obtain⟨p,q,rfl,hp,hq,hQ⟩:=hR;have S:=bc.2.2.look;obtain⟨be,c1,bg⟩:=hI;have U:Rows (bE (cellsOf [⟨FP "ups",c,o,V.ref lu⟩,⟨FP "table",d,o',V.ref tq⟩]) H) tq rs m.toNat M:=⟨ic S be.1 (λf z=>by cases z),λi r hi=>ic S (be.2 i r hi) (λf z=>by cases z)⟩;have W:=ic S c1 (λf z=>by cases z);have a9:bh (bE (cellsOf [⟨FP "ups",c,o,V.ref lu⟩,⟨FP "table",d,o',V.ref tq⟩]) H) cu us:=⟨bg.1,λj b w e1 Z=>ic S (bg.2 j b w e1 Z) (λf z=>by cases z)⟩;refine⟨_,(bq (Ee K rfl) rfl T.any_ PyProof.Rows.boot_any (aw (cK ["way"] [3,1,0] (bP K (pv 2)) (λ_=>(aO (i:=0) (show(["way","table","q","p"]:List Vm).Nodup from by decide +kernel) rfl oi oj)) (λ_=>(dI (aT bG (ax (aD K) (pv 0) ae (λ_ _=>rfl)) (pv 3) (aR _)))) (λ_=>(ax (aQ K) (ax (aQ K) (pv 1) (ax (aD K) (pv 0) ae (λ_ _=>rfl)) (λ_ _=>rfl)) (pv 2) (λ_ _=>rfl)))) aa)),?_⟩;have hb:∀H',Ext (bE (cellsOf [⟨FP "ups",c,o,V.ref lu⟩,⟨FP "table",d,o',V.ref tq⟩]) H) H'->Ext H (cq (cellsOf [⟨FP "ups",c,o,V.ref lu⟩,⟨FP "table",d,o',V.ref tq⟩]) H'):=λH' e=>se S e;generalize bE (cellsOf [⟨FP "ups",c,o,V.ref lu⟩,⟨FP "table",d,o',V.ref tq⟩]) H=HU at U W a9 hb ⊢;show kK _ _ [Vn (.int (p:Nat)),Vn (.int (q:Nat)),Vn (.ref lu),Vn (.ref tq)] _ _;left;refine bQ (ag.of W) ?_;refine dJ (xs:=A0 V.ref cu) (λi ys H'=>H'=HU/\ys=(((us.take i).filter λu=>decide (u.room=(p:Int))).map λu=>M u.other.toNat q).map V.bl) (b7 (by rw[E7];lia)) ⟨rfl,rfl⟩ (λi ys H' _ h=>⟨by rw[h.1];exact ag.of W,by rw[h.2,E7,E7];exact FI (GF _ _) (by rw[FZ];lia)⟩) ?_ ?_
  .rintro i v ys H4 C ⟨rfl,rfl⟩;rw[E9]at C;obtain⟨b,bi,rfl⟩:=Fj.mp C;have hi:i<us.length:=by rw[<-as];exact(Fg.mp bi).1
   have gu:us[i]?=Vn us[i]:=E8 hi;have an:=a9.2 i b _ bi gu;generalize us[i]=F at gu an;have Y:=ok.ok F (hin F (Fh gu)).1;have v0:=Y.r0;have v1:=Y.r1;have v2:=Y.o0;have v3:=Y.o1;have x2:F.other.toNat<rs.length:=by lia
   have r2:rs[F.other.toNat]?=Vn rs[F.other.toNat]:=E8 x2;have w2:=U.2 _ _ r2;generalize rs[F.other.toNat]=a2 at r2 w2;have at2:b9 (rs.map V.ref) F.other=Vn (.ref a2):=eQ v2 (by rw[E9,r2];rfl);left;refine aE (ay.of an) (v:=.int F.room) rfl ?_;left;cases hc:decide (F.room=(p:Int))with
   | true=>
    right;refine aE (ay.of an) (v:=.int F.other) rfl ?_;left;refine aP (ag.of U.1) at2 ?_;left;refine aP (ag.of w2) (fo (by lia) (by lia)) ?_;rw[Fl];refine⟨rfl,?_⟩;rw[GA,gu,GL,Fq,Fq];congr 1;show[V.bl _]=A0 V.bl (A0 _ (G7 _ [F]));rw[GQ,F6 hc];rfl
   | false=>
    refine aC ⟨rfl,?_⟩;have hno:G7 (λu:Way=>decide (u.room=(p:Int))) [F]=[]:=by rw[GQ,F5 (by rw[hc];exact Fp)];rfl
    rw[GA,gu,GL];show _=A0 V.bl (A0 _ (_++G7 _ [F]));rw[hno,GJ]
  .rintro ys H4 p9 ⟨hH,rfl⟩ c3;subst hH;rw[E7,as,FD];have e9:=aY (o:=.lst (((us.filter λu=>decide (u.room=(p:Int))).map λu=>M u.other.toNat q).map V.bl)) c3;left;refine⟨p9,_,rfl,ag.of aF,?_⟩;exact λ_=>hQ _ (hb _ e9))
 refine⟨vh,m,ws,fl,_,lg us M,rfl,c0,ok,hF,⟨⟨ex _ _ hf,ex _ _ bn,am⟩,X,ba,bb⟩,λH H' e h=>⟨h.1.ext e,h.2.1.ext e,e _ _ h.2.2.1,h.2.2.2.ext e⟩,λl ps H4 e4 hl c4 c5=>?_⟩;obtain⟨a1,a2,a3,a4⟩:=held b4 e4;refine⟨a1,q l _ ((G.et.trans e3).trans a2.et) (t3.ext a2) ⟨ps,lg us M,a4 _ _ c4 (λf z=>by cases z),bz (λa x h=>a4 _ _ h (λf z=>by cases z)) c5,λi j hi hj=>?_⟩⟩;unfold lg bL;rw[Jc,FL];constructor
 .rintro⟨x,C,hm⟩;obtain⟨x1,x2⟩:=GC.mp C;have x2:=of_decide_eq_true x2;obtain⟨y1,y2⟩:=hin x x1;exact⟨x,y1,y2,by lia,(km _ _ (ji ok.ok y1).2 hj).mp hm⟩
 .rintro⟨x,h1,h2,h3,h4⟩;have r0:=(ok.ok x h1).r0;refine⟨x,GC.mpr ⟨by rw[ac];exact GC.mpr ⟨h1,F4 h2⟩,F4 (by lia)⟩,?_⟩;exact(km _ _ (ji ok.ok h1).2 hj).mpr h4
def eo(us:List Way)(x:Bfs.Pl):List Bfs.Pl:=(us.filter λw=>cw w x.1 x.2).map λw=>(w.other,x.2+rz w.deed)
inductive vW(K:E3)(vs:List V)(H:Hp)(Q:VK)(E:XK):Prop|mk:∀l bs us p x,vs=[.ref l,.ref p]->H l=Vn (.lst (A0 V.ref bs))->bh H bs us->(∀w∈us,cJ w.deed)->us.length<=100->ao H p x->(∀a ps H',Ext H H'->H a=Vo->H' a=Vn (.lst (A0 V.ref ps))->Paired (ao H') ps (eo us x)->Q (.ref a) H')->vW K vs H Q E
theorem Ac(T:Bu w mg base):Cal P w K mg base "led_to_from" 3 ["ways","place"] (vW K):=by
 refine(bZ T.d_led_to_from).oS ["ways","place"] λB nd H vs Q E h=>?_;obtain⟨l,bs,us,p,x,rfl,C,hal,s,G,y,q⟩:=h;have m:=hal.1;refine⟨_,(@az _ _ _ (@aK _ _ _ _ (cK ["way"] [1] (bP K (pv 0)) (λ_=>(aO (i:=0) (show(["way","place"]:List Vm).Nodup from by decide +kernel) rfl oi oj)) (λ_=>(dI (bT (aG (l5 T) B (af (pv 0) (af (pv 1) aa rfl) rfl))))) (λ_=>(aG (lC T) B (af (pv 0) (af (pv 1) aa rfl) rfl)))))),?_⟩;left;refine bQ (ag.of C) ?_;refine dJ (xs:=A0 V.ref bs) (λi ys H'=>Ext H H'/\∃ps,ys=A0 V.ref ps/\Paired (ao H') ps (eo (us.take i) x)) (b7 (by rw[E7];lia)) ⟨Ext.rfl' _,[],rfl,.nil⟩ (λi ys H' _ h=>by obtain⟨e,ps,rfl,c⟩:=h;refine⟨ag.of (e _ _ C),?_⟩;rw[E7,cA c];unfold eo;rw[E7];exact FI (GF _ _) (by rw[FZ];lia)) ?_ ?_
 .rintro i v ys H1 F ⟨f,ps,rfl,c⟩;rw[E9]at F;obtain⟨b,hb,rfl⟩:=Fj.mp F;have hi:i<us.length:=by rw[<-m];exact(Fg.mp hb).1
  have r:us[i]?=Vn us[i]:=E8 hi;have g:=f _ _ (hal.2 i b _ hb r);generalize us[i]=u at r g;have d:ao H1 p x:=f _ _ y;left;refine⟨b,u,p,x,rfl,g,d,?_⟩;have step:eo (us.take (i+1)) x=eo (us.take i) x++eo [u] x:=by unfold eo;rw[GA,r,GL,Fq];rfl
  cases ho:cw u x.1 x.2 with
  | false=>
   refine rd_exb (aC ⟨f,ps,rfl,?_⟩);rw[step];have:eo [u] x=[]:=by unfold eo;rw[GQ,F5 (by rw[ho];exact Fp)];rfl
   rw[this,GJ];exact c
  | true=>
   exfalso;left;refine⟨b,u,p,x,rfl,g,s u (Fh r),d,λt H2 n I _=>?_⟩;refine⟨f.trans n,ps++[t],?_,?_⟩
   .rw[Fq];rfl
   .rw[step];have:eo [u] x=[(u.other,x.2+rz u.deed)]:=by unfold eo;rw[GQ,F6 ho];rfl
    rw[this];exact gr (bz (λa x h=>n _ _ h) c) I
 .rintro ys H1 A ⟨f,ps,rfl,c⟩ j;rw[E7,m,FD]at c;have n:=aY (o:=.lst (A0 V.ref ps)) j;have J:H A=Vo:=by
   cases z:H A with
   | none=>rfl
   | some o=>rw[f _ _ z]at j;cases j
  exact q A ps _ (f.trans n) J aF (bz (λa x h=>n _ _ h) c)
structure WT(H:Hp)(c:Vb)(n:Nat)(ls:List Vb)(ws:List Way):Prop where
 at_:H c=Vn (.lst (A0 V.ref ls))
 len:ls.length=n
 it:∀(r:Nat) (l:Vb),ls[r]?=Vn l->∃bs,H l=Vn (.lst (A0 V.ref bs))/\bh H bs (ws.filter λw=>decide (w.room=(r:Int)))
theorem WT.ext{H H':Hp}{c:Vb}{n:Nat}{ls:List Vb}{ws:List Way}(e:Ext H H')(h:WT H c n ls ws):WT H' c n ls ws:=
 ⟨e _ _ h.at_,h.len,λr l a=>by obtain⟨bs,h1,h2⟩:=h.it r l a;exact⟨bs,e _ _ h1,h2.ext e⟩⟩
theorem WT.et{H H':Hp}{c:Vb}{n:Nat}{ls:List Vb}{ws:List Way}(e:Et H H')(h:WT H c n ls ws):WT H' c n ls ws:=
 ⟨e _ _ h.at_ (λps z=>by cases z),h.len,λr l a=>by obtain⟨bs,h1,h2⟩:=h.it r l a;exact⟨bs,e _ _ h1 (λps z=>by cases z),h2.et e⟩⟩
def yB{w:Way}(h:ws[i]?=Vn w)(p):(ws.take (i+1)).filter p=(ws.take i).filter p++if p w then[w]else[]:=by rw[GA,h,GL];congr 1;show G7 p [w]=_;rw[GQ];rfl
inductive sx(K:E3)(vs:List V)(H:Hp)(Q:VK)(E:XK):Prop|mk:∀v m ws,vs=[v]->bt H v m ws->HOuse m ws->(∀c ls H',Ext H H'->WT H' c m.toNat ls ws->Q (.ref c) H')->sx K vs H Q E
theorem D7(T:Bu w mg base):Cal P w K mg base "ways_by_room" 1 ["house"] (sx K):=by
 refine(cH T.d_ways_by_room).oS ["house","ways","way"] λB nd H vs Q E h=>?_;obtain⟨v,m,ws,rfl,hv,ok,q⟩:=h;obtain⟨X,Y,rfl,hh,hw⟩:=id hv;obtain⟨bs,hq,hal⟩:=cx.al hw;have n:=hal.1;have few:=ok.few;have m1:=ok.m1;have m12:=ok.m12;refine⟨_,(@av _ _ _ _ _ (fE (i:=1) ["room"] [] nd rfl oi (dv rfl T.range_ (af (@ax _ _ _ _ _ _ _ (aD K) (pv 0) ae (λ_ _=>rfl)) aa rfl)) (λ_=>(aO (i:=0) (show(["room"]:List Vm).Nodup from by decide +kernel) rfl oi oj)) (λ_=>dm) (λ_=>(@bI _ _ _ _ aa)))
   (@av _ _ _ _ _ (bJ F8 rfl (jF K (@ax _ _ _ _ _ _ _ (aD K) (pv 0) ae (λ_ _=>rfl))) (aO (i:=2) nd rfl oi) (@az _ _ _ (bA (bO K Ff Fv Fw bV (@ax _ _ _ _ _ _ _ (aQ K) (pv 1) (@ax _ _ _ _ _ _ _ (aD K) (pv 2) ae (λ_ _=>rfl)) (λ_ _=>rfl)) (af (pv 2) aa rfl)))))
   (@az _ _ _ (@aK _ _ _ _ (pv 1))))),?_⟩
 left;refine aE (ay.of hh) (v:=.int m) rfl ?_;left;refine dz (by omega) ?_;refine gK (λi ys H'=>Ext H H'/\∃ls:List Vb,ys=A0 V.ref ls/\ls.length=i/\ls.Nodup/\∀l∈ls,H' l=Vn (.lst [])/\H l=Vo) (b7 (by lia)) ⟨Ext.rfl' _,[],rfl,rfl,Gq,λl h=>(nomatch h)⟩ (λi ys H' _ h=>by obtain⟨_,ls,rfl,h,_⟩:=h;rw[E7,h];exact Fu _) ?_ ?_
 .rintro i ys H' hi ⟨e,ls,rfl,S,C,hls⟩;left;right;refine aS λl H1 e1 Z p=>?_;refine⟨e.trans e1,ls++[l],by rw[Fq];rfl,by rw[Fs,S];rfl,?_,?_⟩
  .rw[GD];refine⟨C,by simp,λa ha b hb z=>?_⟩;have n:b=l:=by simpa using hb
   subst n;subst z;rw[(hls a ha).1]at p;cases p
  .intro a ha;rcases Fx.mp ha with z|z
   .exact⟨e1 _ _ (hls a z).1,(hls a z).2⟩
   .have hal:a=l:=by simpa using z
    subst hal;refine⟨Z,?_⟩;cases y:H a with
    | none=>rfl
    | some o=>rw[e _ _ y]at p;cases p
 .rintro ys H1 c ⟨e,ls,rfl,S,C,hls⟩ F;have U:Ext H (upd H1 c (.lst (A0 V.ref ls))):=e.trans (aY F);have a2:H c=Vo:=by
   cases y:H c with
   | none=>rfl
   | some o=>rw[e _ _ y]at F;cases F
  have a0:c∉ls:=λz=>by rw[(hls c z).1]at F;cases F
  have hcl:∀l∈ls,H l=Vo:=λl h=>(hls l h).2;have hit:∀(r:Nat) (l:Vb),ls[r]?=Vn l->∃bs,(upd H1 c (.lst (A0 V.ref ls))) l=Vn (.lst (A0 V.ref bs))/\bh (upd H1 c (.lst (A0 V.ref ls))) bs ((ws.take 0).filter λw=>decide (w.room=(r:Int))):=λr l B=>⟨[],(aY F) _ _ (hls l (Fh B)).1,bh.nil _⟩;have J:(upd H1 c (.lst (A0 V.ref ls))) c=_:=aF;generalize upd H1 c (.lst (A0 V.ref ls))=H2 at U hit J ⊢;clear hls F e H1;left;refine aE (ay.of (U _ _ hh)) (v:=.ref Y) rfl ?_;left;refine jU (ay.of (U _ _ hq)) ?_;refine mP (xs:=bs.map V.ref) (λi σ H'=>∃k1,σ=[Vn (.ref X),Vn (.ref c),k1]/\Ext H H'/\H' c=Vn (.lst (A0 V.ref ls))/\∀(r:Nat) (l:Vb),ls[r]?=Vn l->∃bs,H' l=Vn (.lst (A0 V.ref bs))/\bh H' bs ((ws.take i).filter λw=>decide (w.room=(r:Int)))) ⟨Vo,rfl,U,J,hit⟩ (λi σ H' _ h=>by obtain⟨_,_,e,_⟩:=h;exact ay.of (e _ _ hq)) ?_ ?_
  .rintro i u σ H3 hu ⟨k1,rfl,W,s,d⟩;rw[E9]at hu;obtain⟨b,hb,rfl⟩:=Fj.mp hu;have hi:i<ws.length:=by rw[<-n];exact(Fg.mp hb).1
   have x:ws[i]?=Vn ws[i]:=E8 hi;have A:=W _ _ (hal.2 i b _ hb x);generalize ws[i]=j at x A;have L:=ok.ok j (Fh x);have r0:=L.r0;have r1:=L.r1;have a1:j.room.toNat<ls.length:=by rw[S];lia
   have f:ls[j.room.toNat]?=Vn ls[j.room.toNat]:=E8 a1;generalize ls[j.room.toNat]=l at f;have M:=Fh f;obtain⟨cs,g,N⟩:=d _ _ f;have O:cs.length<=100:=by rw[N.1];exact FI (GF _ _) (by rw[FZ];lia)
   have R:c≠l:=λz=>a0 (z ▸ M);left;refine aE (ay.of A) (v:=.int j.room) rfl ?_;left;refine aP (ag.of s) (v:=.ref l) (eQ r0 (by rw[E9,f];rfl)) ?_;refine⟨cg (ag.of g),?_⟩;left;refine bR g (by rw[E7];exact Gv O (by decide)) ?_;left;refine⟨_,rfl,bM W (hcl l M),by rw[aB R];exact s,λr l' B=>?_⟩;rw[yB x];by_cases G:l'=l
   .subst G;have I:r=j.room.toNat:=(HM (Fg.mp B).1 C).mp (by rw[B,f]);subst I;refine⟨cs++[b],?_,?_⟩
    .rw[aF,Fq];rfl
    .rw[F6 (F4 (by lia))];have put:bh (upd H3 l' (.lst (A0 V.ref cs++[.ref b]))) cs ((ws.take i).filter λw=>decide (w.room=((j.room.toNat:Nat):Int))):=N.put g;exact put.snoc (by rw[aB (bp A g (λz=>by cases z))];exact A)
   .obtain⟨ds,h1,h2⟩:=d r l' B;have I:¬(j.room=(r:Int)):=λz=>G (by
     have:j.room.toNat=r:=by lia
     rw[this,B]at f;exact FQ f)
    rw[F5 (by simpa using I),GJ];exact⟨ds,by rw[aB G];exact h1,h2.put g⟩
  .rintro σ H3 ⟨k1,rfl,W,s,d⟩;rw[E7,n,FD]at d;left;exact q c ls H3 W ⟨s,S,d⟩
def LB(ws:List Way)(n:Nat)(top:Int)(x y:Bfs.Pl):Prop:=(∃w∈ws,cw w x.1 x.2=true/\y=(w.other,x.2+rz w.deed)/\y.2<=top)\/(top<=x.2/\∃i j:Nat,Kpt ws n i j/\x.1=(i:Int)/\y=((j:Int),top))
def gD{w:Way}{n:Int}(h:cw w r n=true):w.room=r:=by unfold cw at h;rw[FO]at h;exact of_decide_eq_true h.1
inductive rA(K:E3)(vs:List V)(H:Hp)(Q:VK)(E:XK):Prop|mk:∀c a top p m ws ls x,vs=[.ref c,.ref a,.int top,.ref p]->WT H c m.toNat ls ws->fZ H a m.toNat (Kpt ws m.toNat)->HOuse m ws->ao H p x->0<=x.1->x.1<m->(∀l ps ys H',Ext H H'->H l=Vo->H' l=Vn (.lst (A0 V.ref ps))->Paired (ao H') ps ys->(∀y,y∈ys↔LB ws m.toNat top x y)->ys.length<=300->Q (.ref l) H')->rA K vs H Q E
theorem Bb(T:Bu w mg base):Cal P w K mg base "low_beside" 4 ["ways","keeps","top","here"] (rA K):=by
 refine(lT T.d_low_beside).oS ["ways","keeps","top","here","low"] λhr nd H vs Q E h=>?_;obtain⟨c,kl,top,p,m,ws,ls,x,rfl,wt,a5,ok,u,x0,x1,q⟩:=h;have m12:=ok.m12;have few:=ok.few;have a6:x.1.toNat<ls.length:=by rw[wt.len];lia
 have I:ls[x.1.toNat]?=Vn ls[x.1.toNat]:=E8 a6;generalize ls[x.1.toNat]=l0 at I;obtain⟨bs,a9,hal⟩:=wt.it _ _ I;have ab:((x.1.toNat:Nat):Int)=x.1:=by lia
 rw[ab]at hal;have A:(ws.filter λw=>decide (w.room=x.1)).length<=100:=FI (GF _ _) few;obtain⟨ac,g,ad,R,hkg⟩:=a5;have S:=cA R;have ar:=m5 (n:=m.toNat) (g:=g) m.toNat;have as:m.toNat*m.toNat<=12*12:=Jn (by lia) (by lia);refine⟨_,(@av _ _ _ _ _ (fE (i:=4) ["there"] [2] nd rfl oi (bP K (aG (Ac T) hr (af (@ax _ _ _ _ _ _ _ (aQ K) (pv 0) (@ax _ _ _ _ _ _ _ (aD K) (pv 3) ae (λ_ _=>rfl)) (λ_ _=>rfl)) (af (pv 3) aa rfl) rfl))) (λ_=>(aO (i:=0) (show(["there","top"]:List Vm).Nodup from by decide +kernel) rfl oi oj)) (λ_=>(dI (aT g8 (@ax _ _ _ _ _ _ _ (aD K) (pv 0) ae (λ_ _=>rfl)) (pv 1) (aR _)))) (λ_=>(pv 0)))
   (@av _ _ _ _ _ (@bB _ _ _ _ _ _ _ _ (aT fm (@ax _ _ _ _ _ _ _ (aD K) (pv 3) ae (λ_ _=>rfl)) (pv 2) (aR _)) (@az _ _ _ (@aK _ _ _ _ (pv 4))) aV)
   (@az _ _ _ (@aK _ _ _ _ (aJ lE (pv 4) (cK ["p","q"] [2,3] (bP K (pv 1)) (λ_=>(dw (n:=2) K rfl (bF (aO (i:=0) (show(["p","q","top","here"]:List Vm).Nodup from by decide +kernel) rfl oi oj) (bF (aO (i:=1) (show(["p","q","top","here"]:List Vm).Nodup from by decide +kernel) rfl oi oj) df)))) (λ_=>(dI (aT bG (pv 0) (@ax _ _ _ _ _ _ _ (aD K) (pv 3) ae (λ_ _=>rfl)) (aR _)))) (λ_=>(@bH _ _ _ _ _ (af (pv 1) (af (pv 2) aa rfl) rfl))))))))),?_⟩
 left;refine aE (ay.of u) (v:=.int x.1) rfl ?_;left;refine aP (ag.of wt.at_) (v:=.ref l0) (eQ x0 (by rw[E9,I];rfl)) ?_;left;refine⟨l0,bs,_,p,x,rfl,a9,hal,λw U=>(ok.ok w (GC.mp U).1).dd,A,u,λl1 ah H1 e1 b0 W l=>?_⟩;have B:=cA l;have J:(eo (ws.filter λw=>decide (w.room=x.1)) x).length<=100:=by unfold eo;rw[E7];exact FI (GF _ _) A
 have C:∀y,y∈eo (ws.filter λw=>decide (w.room=x.1)) x↔∃w∈ws,cw w x.1 x.2=true/\y=(w.other,x.2+rz w.deed):=λy=>by
  unfold eo;constructor
  .intro h;obtain⟨w,U,rfl⟩:=F7.mp h;obtain⟨h1,h2⟩:=GC.mp U;exact⟨w,(GC.mp h1).1,h2,rfl⟩
  .rintro⟨w,U,ho,rfl⟩;exact F7.mpr ⟨w,GC.mpr ⟨GC.mpr ⟨U,F4 (gD ho)⟩,ho⟩,rfl⟩
 generalize eo (ws.filter λw=>decide (w.room=x.1)) x=zs at l B J C;left;refine bQ (ag.of W) ?_;refine dJ (xs:=A0 V.ref ah) (λi ys H'=>H'=H1/\∃cs,ys=A0 V.ref cs/\Paired (ao H1) cs ((zs.take i).filter λy=>decide (y.2<=top))) (b7 (by rw[E7];lia)) ⟨rfl,[],rfl,.nil⟩ (λi ys H' _ h=>by obtain⟨rfl,cs,rfl,d⟩:=h;refine⟨ag.of W,?_⟩;rw[E7,cA d];exact FI (GF _ _) (by rw[FZ];lia)) ?_ ?_
 .rintro i v ys H2 X ⟨rfl,cs,rfl,d⟩;rw[E9]at X;obtain⟨b,hb,rfl⟩:=Fj.mp X;obtain⟨y,hy,Y⟩:=bU l hb;left;refine aE (ay.of Y) (v:=.int y.2) rfl ?_;left;have step:(zs.take (i+1)).filter (λy=>decide (y.2<=top))=(zs.take i).filter (λy=>decide (y.2<=top))++if decide (y.2<=top)then[y]else[]:=by rw[GA,hy,GL];congr 1;show G7 _ [y]=_;rw[GQ];rfl
  cases Z:decide (y.2<=top)with
  | true=>
   right;refine⟨rfl,cs++[b],?_,?_⟩
   .rw[Fq];rfl
   .rw[step,Z];exact gr d Y
  | false=>
   refine aC ⟨rfl,cs,rfl,?_⟩;rw[step,Z];simpa using d
 .rintro ys H2 M ⟨hH,cs,rfl,d⟩ L;subst hH;rw[E7,B,FD]at d;have e2:=aY (o:=.lst (A0 V.ref cs)) L;have h9:(upd H2 M (.lst (A0 V.ref cs))) M=_:=aF;have r:=bz (λa x h=>e2 _ _ h) d;have hfn:H M=Vo:=by
   cases z:H M with
   | none=>rfl
   | some o=>rw[e1 _ _ z]at L;cases L
  have f:=e1.trans e2;generalize upd H2 M (.lst (A0 V.ref cs))=H3 at e2 h9 r f ⊢;have hcl:=cA d;have b1:=GF (λy:Bfs.Pl=>decide (y.2<=top)) zs;have first:∀y,y∈zs.filter (λy=>decide (y.2<=top))↔∃w∈ws,cw w x.1 x.2=true/\y=(w.other,x.2+rz w.deed)/\y.2<=top:=λy=>by
   rw[GC,C];constructor
   .rintro⟨⟨w,h1,h2,h3⟩,h4⟩;exact⟨w,h1,h2,h3,of_decide_eq_true h4⟩
   .rintro⟨w,h1,h2,h3,h4⟩;exact⟨⟨w,h1,h2,h3⟩,F4 h4⟩
  left;refine aE (ay.of (f _ _ u)) (v:=.int x.2) rfl ?_;left;cases Z:decide (x.2<top)with
  | true=>
   have ai:=of_decide_eq_true Z;right;refine q M cs _ H3 f hfn h9 r (λy=>?_) (by lia);rw[first];constructor
   .exact λh=>.inl h
   .rintro(h|⟨h,_⟩)
    .exact h
    .omega
  | false=>
   have ai:=of_decide_eq_false Z;nofun;have F:=f _ _ ad;have a0:=bz (λa x h=>f _ _ h) R;refine bQ (ag.of F) ?_;refine dJ (xs:=A0 V.ref ac) (λi ys H'=>Ext H3 H'/\∃ds,ys=A0 V.ref ds/\Paired (ao H') ds ((((ee m.toNat g m.toNat).take i).filter λz=>decide (z.1=x.1)).map λz=>(z.2,top))) (b7 (by rw[E7];lia)) ⟨Ext.rfl' _,[],rfl,.nil⟩ (λi ys H' _ h=>by obtain⟨e,ds,rfl,hds⟩:=h;refine⟨ag.of (e _ _ F),?_⟩;rw[E7,cA hds,E7];exact FI (GF _ _) (by rw[FZ];lia)) ?_ ?_
   .rintro i v ys H4 X ⟨N,ds,rfl,hds⟩;rw[E9]at X;obtain⟨b,hb,rfl⟩:=Fj.mp X;obtain⟨z,hz,aj⟩:=bU a0 hb;have a1:ao H4 b z:=N _ _ aj;refine dD (ay.of a1) rfl ?_;left;refine aE (ay.of ((f.trans N) _ _ u)) (v:=.int x.1) rfl ?_;left;have step:(((ee m.toNat g m.toNat).take (i+1)).filter (λz=>decide (z.1=x.1))).map (λz=>(z.2,top))=(((ee m.toNat g m.toNat).take i).filter (λz=>decide (z.1=x.1))).map (λz=>(z.2,top))++if decide (z.1=x.1)then[(z.2,top)]else[]:=by rw[GA,hz,GL,Fq];congr 1;show A0 _ (G7 _ [z])=_;rw[GQ];split<;>rfl
    cases a2:decide (z.1=x.1)with
    | true=>
     right;refine aS λt H5 O ht _=>?_;refine⟨N.trans O,ds++[t],?_,?_⟩
     .rw[Fq];rfl
     .rw[step,a2];exact gr (bz (λa x h=>O _ _ h) hds) ht
    | false=>
     refine aC ⟨N,ds,rfl,?_⟩;rw[step,a2];simpa using hds
   .rintro ys H4 p8 ⟨N,ds,rfl,hds⟩ ak;rw[E7,S,FD]at hds;have O:=aY (o:=.lst (A0 V.ref ds)) ak;have h8:(upd H4 p8 (.lst (A0 V.ref ds))) p8=_:=aF;have G:=bz (λa x h=>O _ _ h) hds;have s:=N.trans O;generalize upd H4 p8 (.lst (A0 V.ref ds))=H5 at O h8 G s ⊢;have am:=cA hds;rw[E7]at am;have au:=GF (λz:Bfs.Pl=>decide (z.1=x.1)) (ee m.toNat g m.toNat);left;refine l4 (s _ _ h9) h8 (b7 (by rw[E7,E7];lia)) (cE λl' H6 e6 a3 a4=>?_);rw[<-Fq]at a3;have an:=(f.trans s).trans e6;have ap:H l'=none:=by
     cases z:H l' with
     | none=>rfl
     | some o=>rw[(f.trans s) _ _ z]at a4;cases a4
    refine q l' (cs++ds) _ H6 an ap a3 (wC (bz (λa x h=>(s.trans e6) _ _ h) r) (bz (λa x h=>e6 _ _ h) G)) (λy=>?_) (by rw[Fs,E7];lia);rw[Fx,first];constructor
    .rintro(h|h)
     .exact .inl h
     .obtain⟨z,hz,rfl⟩:=F7.mp h;obtain⟨z1,z2⟩:=GC.mp hz;obtain⟨i,j,hi,hj,hg,rfl⟩:=i6.mp z1;exact .inr ⟨by lia,i,j,(hkg i j hi hj).mp hg,(of_decide_eq_true z2).symm,rfl⟩
    .rintro(h|⟨_,i,j,hk,aq,rfl⟩)
     .exact .inl h
     .right;have hlt:=Kpt.lt ok.ok hk;exact F7.mpr ⟨((i:Int),(j:Int)),GC.mpr ⟨i6.mpr ⟨i,j,hlt.1,hlt.2,(hkg i j hlt.1 hlt.2).mpr hk,rfl⟩,F4 aq.symm⟩,rfl⟩
structure RR(H0 H:Hp)(f rw:Vb)(qs:List Bfs.Pl):Prop where
 ext:Ext H0 H
 fn:H0 f=Vo
 rn:H0 rw=Vo
 d:∃kvs,H f=Vn (.dT kvs)/\Paired (λ(kv:List Key×V) z=>kv.1=aA z) kvs qs
 r:∃as,H rw=Vn (.lst (A0 V.ref as))/\Paired (ao H) as qs
def RR.step(h:RR H0 H f rw qs)(e:Ext H H1):RR H0 H1 f rw qs:=by obtain⟨h1,h2,b,⟨kvs,c,d⟩,as,g,i⟩:=h;exact⟨h1.trans e,h2,b,⟨kvs,e _ _ c,d⟩,as,e _ _ g,bz (λa x h=>e _ _ h) i⟩
def x9(h:Paired (λ kv z=>kv.1=aA z) kvs qs)(a:x∉qs):a7 kvs (aA x)=Vo:=
 eR (λ_ _ z=>z) h (by simpa using a)
def DV(h:Paired (λ kv z=>kv.1=aA z) kvs qs)(nd:qs.Nodup)(a:x∈qs):∃v,a7 kvs (aA x)=Vn v:=by obtain⟨v,b,_⟩:=ef (key:=λz=>z) (λ_ _ z=>z) h (by simpa using nd) a;exact⟨v,b⟩
def RR.push(h:RR H0 H f rw qs)(n:y∉qs)(d:ao H th y):
  ∃kvs,H f=Vn (.dT kvs)/\kvs.length=qs.length/\∃as,upd H f (.dT (putK kvs (aA y) v)) rw=Vn (.lst (A0 V.ref as))/\as.length=qs.length ∧
   RR H0 (upd (upd H f (.dT (putK kvs (aA y) v))) rw (.lst (A0 V.ref as++[.ref th]))) f rw (qs++[y]):=by
 obtain⟨h1,h2,g,⟨kvs,c,e⟩,as,i,j⟩:=h;have l:∀xs,(HO.dT kvs)≠.tup xs:=λxs z=>by cases z
 have m:∀xs,(HO.lst (A0 V.ref as))≠.tup xs:=λxs z=>by cases z
 have ne:rw≠f:=bp i c (by intro z;cases z);have b:upd H f (.dT (putK kvs (aA y) v)) rw=Vn (.lst (A0 V.ref as)):=by rw[aB ne];exact i
 refine⟨kvs,c,F9 e,as,b,F9 j,bM (bM h1 h2) g,h2,g,⟨kvs++[(aA y,v)],?_,?_⟩,as++[th],?_,?_⟩
 .rw[aB ne.symm,aF,iw _ (x9 e n)]
 .exact Gz e rfl
 .rw[aF,Fq];rfl
 .exact gr (bz (λa x z=>ao.put b m (ao.put c l z)) j) (ao.put b m (ao.put c l d))
structure RQ(S:Bfs.Pl->Bfs.Pl->Prop)(m T:Int)(x:Bfs.Pl)(qs:List Bfs.Pl)(i:Nat):Prop where
 nd:qs.Nodup
 has:x∈qs
 wk:∀z∈qs,∃n,Bfs.Rw S n x z
 ins:∀z∈qs,bC m T z
 cl:∀j,j<i->∀y,qs[j]?=Vn y->∀z,S y z->z∈qs
theorem RQ.done(h:RQ S m T x qs i)(hi:qs.length<=i):∀z,z∈qs↔∃n,Bfs.Rw S n x z:=λz=>by
 refine⟨h.wk z,λ⟨n,d⟩=>?_⟩;have go:∀(n:Nat) (a b:Bfs.Pl),Bfs.Rw S n a b->a∈qs->b∈qs:=by
  intro n a b e;induction e with
  | nil=>exact λh=>h
  | snoc _ hs f=>
   intro ha;obtain⟨j,c⟩:=FX (f ha);have:=(Fg.mp c).1;exact h.cl j (by lia) _ c _ hs
 exact go n x z d h.has
def tO(m T:Int)(S:Bfs.Pl->Bfs.Pl->Prop):List V->Hp->VK->Prop:=λvs H Q=>∃p y,vs=[.ref p]/\ao H p y/\bC m T y/\∀l ps ys H',Ext H H'->H l=Vo->H' l=Vn (.lst (A0 V.ref ps))->Paired (ao H') ps ys->(∀z,z∈ys↔S y z)->ys.length<=300->Q (.ref l) H'
def ym(P:Vd)(w:Ve)(K:E3)(mg:Vm->Option Va)(base:Vh):Sp:=λvs H Q _=>∃a f pre x m T S,vs=[.ref a,.ref f]/\ao H a x/\bC m T x/\m<=12/\T<=2000/\FunR P w K mg base 5 f pre (tO m T S)/\pre H/\(∀H H',Ext H H'->pre H->pre H')/\(∀y z,bC m T y->S y z->bC m T z) ∧
 ∀l as qs H',Ext H H'->H' l=Vn (.lst (A0 V.ref as))->Paired (ao H') as qs->(∀z∈qs,bC m T z)->qs.length<=24012->(∀z,z∈qs↔∃n,Bfs.Rw S n x z)->Q (.ref l) H'
theorem DS(T:Bu w mg base):Cal P w K mg base "reached" 6 ["place","beside"] (ym P w K mg base):=by
 have ln:∀vs H Q E,(ym P w K mg base) vs H Q E->vs.length=2:=by intro vs H Q E h;obtain⟨Y,f,pre,x,m,T,S,rfl,_⟩:=h;rfl
 refine(bZ T.d_reached).oS ["place","beside","found","row","looked","here","there"] (λhr nd H vs Q E h=>?_) ln;obtain⟨Y,ff,pre,x,m,TT,S,rfl,hx,ix,C,hT,hF,ad,Z,ah,q⟩:=h;refine⟨_,(@av _ _ _ _ _ (@aH _ _ 2 _ _ _ _ nd rfl oi (oZ (bo hr) (pv 0) b8) rfl oi)
   (@av _ _ _ _ _ (@aH _ _ 3 _ _ _ _ nd rfl oi (@bI _ _ _ _ (af (pv 0) aa rfl)) rfl oi)
   (@av _ _ _ _ _ (@aH _ _ 4 _ _ _ _ nd rfl oi ae rfl oi)
   (@av _ _ _ _ _ (fi F8 (aT fm (pv 4) (bq (cn K) rfl T.len_ GI (af (pv 3) aa rfl)) (aR _)) (@av _ _ _ _ _ (@aH _ _ 5 _ _ _ _ nd rfl oi (@ax _ _ _ _ _ _ _ (aQ K) (pv 3) (pv 4) (λ_ _=>rfl)) rfl oi)
   (@av _ _ _ _ _ (jS (i:=4) nd rfl oi ae ly)
   (@az _ _ _ (bJ F8 rfl (bP K (vH (base:=base) hr (pv 1) (af (pv 5) aa rfl))) (aO (i:=6) nd rfl oi) (@az _ _ _ (cL (fY (gN (bo hr) (pv 6) (pv 2)) (by with_unfolding_all rfl)) (@av _ _ _ _ _ (fg (bo hr) (pv 2) (pv 6) b8 rfl)
   (@az _ _ _ (bA (bO K Ff Fv Fw bV (pv 3) (af (pv 6) aa rfl))))) aV)))))))
   (@az _ _ _ (@aK _ _ _ _ (pv 3))))))),?_⟩
 left;refine λf hfn=>?_;left;refine⟨Y,aA x,rfl,(aY hfn) _ _ hx,aF,?_⟩;left;refine aS λrw H3 e3 ai a0=>?_;left;have O:Ext H (upd (upd H f (.dT [])) f (.dT [(aA x,.bl true)])):=λb o hb=>by rw[aB (cG hb hfn),aB (cG hb hfn)];exact hb
 have W:H rw=Vo:=by
  cases z:H rw with
  | none=>rfl
  | some o=>rw[O _ _ z]at a0;cases a0
 have aj:H3 f=Vn (.dT [(aA x,.bl true)]):=e3 _ _ aF;have b0:RR H H3 f rw [x]:=⟨O.trans e3,hfn,W,⟨_,aj,.cons rfl .nil⟩,[Y],ai,.cons (e3 _ _ (O _ _ hx)) .nil⟩;have b1:RQ S m TT x [x] 0:=⟨by simp,by simp,λz p=>by rw[Fi.mp p];exact⟨0,.nil⟩,λz p=>by rw[Fi.mp p];exact ix,λj hj=>absurd hj (GS _)⟩;clear aj W O ai a0 e3;refine eV (λM σ H'=>∃qs i k1 k2,RR H H' f rw qs/\RQ S m TT x qs i/\i<=qs.length/\M=24013-i/\σ=[Vn (.ref Y),Vn (.ref ff),Vn (.ref f),Vn (.ref rw),Vn (.int (i:Nat)),k1,k2]) (λσ H'=>∃qs i k0 k1 k2,RR H H' f rw qs/\RQ S m TT x qs i/\qs.length<=i/\qs.length<=24012/\σ=[Vn (.ref Y),Vn (.ref ff),Vn (.ref f),Vn (.ref rw),k0,k1,k2]) 24013 ⟨[x],0,_,_,b0,b1,by simp,by simp,rfl⟩ ?_ ?_
 .rintro M σ H4 ⟨qs,i,k1,k2,X,B,hi,rfl,rfl⟩;have a6:qs.length<=24012:=bC.few C hT B.nd B.ins;obtain⟨as,F,pr⟩:=X.r;have hal:=cA pr;left;refine dE (ag.of F) ?_;left;by_cases hlt:i<qs.length
  rotate_left
  .rw[F3 (show ¬((i:Nat):Int)<((A0 V.ref as).length:Nat) by rw[E7,hal];lia)];refine aC ?_;exact⟨qs,i,_,_,_,X,B,by lia,a6,rfl⟩
  .rw[F4 (show((i:Nat):Int)<((A0 V.ref as).length:Nat) by rw[E7,hal];lia)];refine aI ?_;refine⟨λak H'=>∃g k1 k2,RR H H' f rw g/\RQ S m TT x g (i+1)/\i+1<=g.length/\g.length<=24012/\ak=[Vn (.ref Y),Vn (.ref ff),Vn (.ref f),Vn (.ref rw),Vn (.int ((i+1:Nat):Int)),k1,k2],λak H' ⟨g,k1,k2,a1,a2,a3,a4,a5⟩=>⟨24013-(i+1),by lia,g,i+1,k1,k2,a1,a2,a3,rfl,a5⟩,?_⟩;have G:qs[i]?=Vn qs[i]:=E8 hlt;generalize qs[i]=y at G;obtain⟨b,hb,b2⟩:=oO pr G;have iy:=B.ins y (Fh G);left;refine aP (ag.of F) (cN (v:=.ref b) (by rw[E9,hb];rfl)) ?_;left;refine xo ?_;left;have I:=Z _ _ X.ext ad;refine⟨ff,pre,_,rfl,hF,I,?_⟩;left;refine⟨I,b,y,rfl,b2,iy,λl ps ys H5 e5 R am an hys c2=>?_⟩;have b3:=cA an;have a9:=X.step e5;obtain⟨c0,b4,_⟩:=a9.d;obtain⟨c3,ba,_⟩:=a9.r;have bb:l≠f:=λz=>by obtain⟨kvs,hd,_⟩:=X.d;rw[z,hd]at R;cases R
   have bc:l≠rw:=λz=>by rw[z,F]at R;cases R
   refine bQ (ag.of am) ?_;refine forL (xs:=A0 V.ref ps) (λj σ H'=>∃g k2,RR H H' f rw g/\g.Nodup/\(∃new,g=qs++new)/\(∀z∈g,(∃n,Bfs.Rw S n x z)/\bC m TT z)/\(∀a,a<j->∀z,ys[a]?=Vn z->z∈g)/\(∀c o,c≠f->c≠rw->H5 c=Vn o->H' c=Vn o)/\σ=[Vn (.ref Y),Vn (.ref ff),Vn (.ref f),Vn (.ref rw),Vn (.int ((i+1:Nat):Int)),Vn (.ref b),k2]) ⟨qs,_,a9,B.nd,⟨[],by simp⟩,λz p=>⟨B.wk z p,B.ins z p⟩,λa ha=>absurd ha (GS _),λc o _ _ h=>h,rfl⟩ (λj σ H' _ h=>by obtain⟨_,_,_,_,_,_,_,kp,_⟩:=h;exact ag.of (kp _ _ bb bc am)) ?_ ?_
   .rintro j v σ H6 hv ⟨u,k2,J,A,⟨new,hnew⟩,in6,cl6,U,rfl⟩;rw[E9]at hv;obtain⟨th,be,rfl⟩:=Fj.mp hv;obtain⟨z,p,L⟩:=bU an be;have nth:∀{c:Vb} {o:HO},H5 c=Vn o->(∀xs,o≠.tup xs)->th≠c:=λ{c o} hc hn=>bp L hc (λe=>hn _ e.symm);have N:ao H6 th z:=U _ _ (nth b4 (λxs e=>by cases e)) (nth ba (λxs e=>by cases e)) L;have ap:S y z:=(hys z).mp (Fh p);have aq:u.length<=24012:=bC.few C hT A λz p=>(in6 z p).2;obtain⟨kvs,hd,pk⟩:=J.d;left;refine cC ?_;left;refine⟨f,_,rfl,bw.t hd (k:=aA z) N,?_⟩;by_cases hin:z∈u
    .obtain⟨v1,bg⟩:=DV pk A hin;rw[bg];symm;left;refine⟨u,_,J,A,⟨new,hnew⟩,in6,λa ha z' s=>?_,U,rfl⟩;by_cases ab:a<j
     .exact cl6 a ab z' s
     .have:a=j:=by lia
      subst this;rw[p]at s;cases s;exact hin
    .rw[x9 pk hin];exfalso;obtain⟨kvs,bi,c4,c5,ar,c1,bm⟩:=J.push (v:=.bl true) hin N;left;refine⟨f,_,rfl,cX.t bi (k:=aA z) N (cj (by lia)),?_⟩;left;refine⟨cg (ag.of ar),?_⟩;left;refine bR ar (cj (by rw[E7];lia)) ?_;left;obtain⟨n0,bn⟩:=B.wk y (Fh G);refine⟨u++[z],_,bm,?_,⟨new++[z],by rw[hnew,Gm]⟩,λz' s=>?_,λa ha z' s=>?_,λc o nf nr hc=>?_,rfl⟩
     .rw[GD];refine⟨A,by simp,λa ha c hc e=>?_⟩;rw[Fi.mp hc]at e;exact hin (e ▸ ha)
     .rcases Fx.mp s with h|h
      .exact in6 z' h
      .rw[Fi.mp h];exact⟨⟨n0+1,.snoc bn ap⟩,ah y z iy ap⟩
     .by_cases ab:a<j
      .exact FT _ (cl6 a ab z' s)
      .have:a=j:=by lia
       subst this;rw[p]at s;cases s;exact FR _ (by simp)
     .rw[aB nr,aB nf];exact U c o nf nr hc
   .rintro σ H6 ⟨u,k2,J,A,⟨new,hnew⟩,in6,cl6,U,rfl⟩;rw[E7,b3]at cl6;have aq:u.length<=24012:=bC.few C hT A λz p=>(in6 z p).2;have hle:qs.length<=u.length:=by rw[hnew,Fs];lia
    refine⟨u,_,_,J,⟨A,by rw[hnew];exact FT _ B.has,λz p=>(in6 z p).1,λz p=>(in6 z p).2,λj hj y' au z p=>?_⟩,by lia,aq,rfl⟩;have bu:j<qs.length:=by lia
    have ac:qs[j]?=Vn y':=by rw[hnew,Fz bu]at au;exact au
    by_cases bv:j<i
    .rw[hnew];exact FT _ (B.cl j bv y' ac z p)
    .have:j=i:=by lia
     subst this;rw[G]at ac;cases ac;obtain⟨a,ha⟩:=FX ((hys z).mpr p);exact cl6 a (Fg.mp ha).1 z ha
 .rintro σ H4 ⟨qs,i,k0,k1,k2,X,B,hi,a6,rfl⟩;obtain⟨as,F,pr⟩:=X.r;left;exact q rw as qs H4 X.ext F pr B.ins a6 (B.done hi)
def Eu(H H':Hp):Prop:=∀b o,H b=Vn o->(∀f,o≠.ext f)->H' b=Vn o
def bh.eu(e:Eu H H')(h:bh H bs ws):bh H' bs ws:=⟨h.1,λj b w a c=>e _ _ (h.2 j b w a c) (λf z=>by cases z)⟩
def ao.eu(e:Eu H H')(h:ao H p x):ao H' p x:=e _ _ h (λf z=>by cases z)
structure TL(H H':Hp)(q:Vb)(rs:List Vb)(n:Nat)(M:Nat->Nat->Bool):Prop where
 keep:∀b o,b∉rs->H b=Vn o->H' b=Vn o
 nd:rs.Nodup
 nq:q∉rs
 rows:Rows H' q rs n M
def TL.mark{r:Vb}(h:TL H H1 q rs n M)(hi:rs[i]?=Vn r)(m:j<n):TL H (upd H1 r (.lst ((bf n (M i)).set j (.bl true)))) q rs n (put2 M i j):=by
 have g:=Fh hi;have nqr:q≠r:=λz=>h.nq (z ▸ g);refine⟨λb o nb e=>?_,h.nd,h.nq,?_,λa l ha=>?_⟩
 .have f:b≠r:=λz=>nb (by rw[z];exact g);rw[aB f];exact h.keep b o nb e
 .rw[aB nqr];exact h.rows.1
 .by_cases c:a=i
  .subst c;rw[hi]at ha;cases ha;rw[aF,nW _ _ m];congr 2;refine f6 λy _=>?_;unfold put2;by_cases d:y=j
   .rw[F6 d,F6 ⟨rfl,d⟩]
   .rw[F5 d,F5 λz=>d z.2]
  .have p:l≠r:=λz=>c ((HM (Fg.mp ha).1 h.nd).mp (by rw[ha,hi,z]));rw[aB p,h.rows.2 a l ha];congr 2;exact f6 λy _=>by unfold put2;rw[F5 λz=>c z.1]
theorem ET(ok:HOuse m ws)(h0:0<=top)(b:bC m top x)(h:LB ws m.toNat top x y):bC m top y:=by
 rcases h with⟨w,c,ho,rfl,hle⟩|⟨_,i,j,d,_,rfl⟩
 .have a:=ok.ok w c;refine⟨a.o0,a.o1,?_,hle⟩;have hs:=(j1 a.dd x).mp ho;exact uQ a.dd b.2.2.1 hs.2
 .have:=Kpt.lt ok.ok d;exact⟨by show(0:Int)<=j;lia,by show(j:Int)<m;lia,h0,HY _⟩
theorem WT.eu{H H':Hp}{c:Vb}{n:Nat}{ls:List Vb}{ws:List Way}(e:Eu H H')(h:WT H c n ls ws):WT H' c n ls ws:=
 ⟨e _ _ h.at_ (λf z=>by cases z),h.len,λr l a=>by obtain⟨bs,h1,h2⟩:=h.it r l a;exact⟨bs,e _ _ h1 (λf z=>by cases z),h2.eu e⟩⟩
theorem fZ.eu{H H':Hp}(e:Eu H H'){l:Vb}{n:Nat}{R:Nat->Nat->Prop}(h:fZ H l n R):fZ H' l n R:=by obtain⟨ps,g,h1,h2,b⟩:=h;exact⟨ps,g,e _ _ h1 (λf z=>by cases z),bz (λa x h=>h.eu e) h2,b⟩
def pG{K:E3}{x q:Vm}(e:∀b o,b∉rs->H b=Vn o->H' b=Vn o)(a:∀r∈rs,∃xs,H r=Vn (.lst xs))(h:de K x q line col H):de K x q line col H':=λc T d=>by
 have no:∀b o,H b=Vn o->(∀xs,o≠.lst xs)->H' b=Vn o:=λb o hb nl=>e b o (λz=>by obtain⟨xs,f⟩:=a b z;rw[f]at hb;cases hb;exact nl _ rfl) hb;rcases h c T d with h|⟨c',h1,h2⟩
 .exact .inl (no _ _ h (λxs z=>by cases z))
 .exact .inr ⟨c',no _ _ h1 (λxs z=>by cases z),no _ _ h2 (λxs z=>by cases z)⟩
def Tbs.kp{K:E3}(e:∀b o,b∉rs->H b=Vn o->H' b=Vn o)(a:∀r∈rs,∃xs,H r=Vn (.lst xs))(h:Tbs K H):Tbs K H':=⟨pG e a h.kept,pG e a h.low,pG e a h.risen⟩
inductive yg(K:E3)(vs:List V)(H:Hp)(Q:VK)(E:XK):Prop|mk:∀a m ws b x,vs=[a,.ref b]->bt H a m ws->HOuse m ws->ao H b x->cF m x->fO K->Tbs K H->(∀q rs M H',Et H H'->Tbs K H'->Rows H' q rs m.toNat M->(rs.length:Int)=x.2+1->(∀i r:Nat,(i:Int)<=x.2->(r:Int)<m->(M i r=true↔∃n,Bfs.Rw (LB ws m.toNat x.2) n x ((r:Int),(i:Int))))->Q (.ref q) H')->yg K vs H Q E
theorem CJ(T:Bu w mg base):Cal P w K mg base "low_levels" 8 ["house","place"] (yg K):=by
 obtain⟨c9,T9,B⟩:=T.b_low_levels;refine(bZ T.d_low_levels).oL B ["house","place","ways","keeps","levels","room","number"] λJ nd H vs Q E h=>?_;obtain⟨vh,m,ws,C,x,rfl,hv,ok,db,ix,bg,dc,q⟩:=h;have m12:=ok.m12;obtain⟨i0,i1,i2,i3⟩:=id ix;refine⟨_,(av (aH (i:=2) nd rfl oj (aG (D7 T) J (aw (pv 0) aa)))
   (av (aH (i:=3) nd rfl oj (aG (DY T) J (aw (pv 0) aa)))
   (av (fE (i:=4) ["number"] [0] nd rfl oi (dv rfl T.range_ (aw (aJ bx (ax (aD K) (pv 1) ae (λ_ _=>rfl)) ae) aa)) (λ_=>(aO (i:=0) (show(["number","house"]:List Vm).Nodup from by decide +kernel) rfl oi oj)) (λ_=>dm) (λ_=>(aJ oY (bI (aw b8 aa)) (ax (aD K) (pv 1) ae (λ_ _=>rfl)))))
   (av (bJ F8 rfl (bP K (n6 [2,3,1] (DS T) J (aw (pv 1) (aw (pM rfl rfl B.hd B.blt B.gl (by decide +kernel) rfl rfl rfl) aa)))) (dw (n:=2) K rfl (bF (aO (i:=5) nd rfl oi) (bF (aO (i:=6) nd rfl oi) df))) (az (iJ b8 (jV (ax (aQ K) (pv 4) (pv 6) (λ_ _=>rfl)) (pv 5) set_list))))
   (az (aK (pv 4))))))),?_⟩
 left;refine⟨vh,m,ws,rfl,hv,ok,λc ls H1 e1 wt=>?_⟩;left;refine⟨vh,m,ws,rfl,hv.ext e1,ok,bg,dc.ext e1,λN H2 e2 dd dg=>?_⟩;have au:=e1.et.trans e2;have dk:=wt.et e2;have dl:=hv.et au;have bc:=db.et au;obtain⟨dn,ei,dp,dr,_⟩:=id dl;subst dp;left;refine aE (ay.of bc) (v:=.int x.2) rfl ?_;left;refine dz (by lia) ?_;refine gK (λi ys H'=>Ext H2 H'/\∃rs:List Vb,ys=A0 V.ref rs/\rs.length=i/\rs.Nodup/\∀r∈rs,H' r=Vn (.lst (bf m.toNat λ_=>false))/\H2 r=Vo) (b7 (by lia)) ⟨Ext.rfl' _,[],rfl,rfl,Gq,λl h=>(nomatch h)⟩ (λi ys H' _ h=>by obtain⟨_,ls,rfl,h,_⟩:=h;rw[E7,h];exact Fu _) ?_ ?_
 .rintro i ys H3 hi ⟨e3,rs,rfl,hl,bi,hrs⟩;left;right;refine aS λz1 H4 e4 ds _=>?_;left;refine aE (ay.of ((e3.trans e4) _ _ dr)) (v:=.int m) rfl ?_;refine oV ds (by lia) (b7 (by simp;lia)) (cE λz2 H5 e5 c5 F=>?_);rw[sy]at c5;refine⟨(e3.trans e4).trans e5,rs++[z2],by rw[Fq];rfl,by rw[Fs,hl];rfl,?_,λr J=>?_⟩
  .rw[GD];refine⟨bi,by simp,λa ha b hb z=>?_⟩;rw[Fi.mp hb]at z;subst z;rw[e4 _ _ (hrs a ha).1]at F;cases F
  .rcases Fx.mp J with h|h
   .exact⟨(e4.trans e5) _ _ (hrs r h).1,(hrs r h).2⟩
   .rw[Fi.mp h];refine⟨c5,?_⟩;cases y:H2 z2 with
    | none=>rfl
    | some o=>rw[(e3.trans e4) _ _ y]at F;cases F
 .rintro ys H3 lq ⟨e3,rs,rfl,ej,bi,hrs⟩ bl;have bm:=aY (o:=.lst (A0 V.ref rs)) bl;have ca:(upd H3 lq (.lst (A0 V.ref rs))) lq=_:=aF;have dt:lq∉rs:=λz=>by rw[(hrs lq z).1]at bl;cases bl
  have a6:Rows (upd H3 lq (.lst (A0 V.ref rs))) lq rs m.toNat (λ_ _=>false):=⟨aF,λi r h=>bm _ _ (hrs r (Fh h)).1⟩;have Y:=e3.trans bm;generalize upd H3 lq (.lst (A0 V.ref rs))=H4 at bm ca a6 Y ⊢;have du:=au.trans Y.et;have bn:=dd.ext Y;have dx:=dk.ext Y;have cc:=dg.et Y.et;have cd:ao H4 C x:=Y _ _ bc;left;show jw _ [2,3,1] _ (["house","place","ways","keeps","levels","room","number"]:List Vm) _ _ _ _;generalize KZ _=cells0;refine nQ ?_;left;refine nY ?_;refine mE (x:="low_levels") bn.low B.tin λfl c' cl H5 hcl e5 dy ot hf ce=>?_;have t5:Tbs K H5:=⟨ot "kept" _ _ _ (λc2 T2 e2=>bg "low_levels" (by simp) "kept" (by simp) (by decide +kernel) _ _ _ _ B.tin e2) bn.kept,dy,ot "risen" _ _ _ (λc2 T2 e2=>bg "low_levels" (by simp) "risen" (by simp) (by decide +kernel) _ _ _ _ B.tin e2) bn.risen⟩;left;refine⟨λj hj=>?_,λcp hlen u=>?_⟩
  .simp only[Fo,FJ,or_false]at hj;rcases hj with rfl|rfl|rfl
   .exact⟨_,rfl⟩
   .exact⟨_,rfl⟩
   .exact⟨_,rfl⟩
  obtain⟨⟨n1,L,o1,v1⟩,⟨n2,G,Z,v2⟩,⟨n3,I,o3,v3⟩,rfl⟩:=AI hlen;obtain⟨bu,a9,ab,ac,u1,O,R⟩:=u 0 2 _ rfl rfl;obtain⟨bv,ad,ah,ai,u2,S,U⟩:=u 1 3 _ rfl rfl;obtain⟨c0,aj,ak,am,u3,W,X⟩:=u 2 1 _ rfl rfl;clear u hlen;dsimp only at bu a9 ab ac O R bv ad ah ai S U c0 aj ak am W X;have cf:(FP "ways")=n1:=FQ bu;have c1:(V.ref c)=v1:=FQ (FQ ab);have ch:(FP "keeps")=n2:=FQ bv;have c3:(V.ref N)=v2:=FQ (FQ ah);have ci:(FP "place")=n3:=FQ c0;have c4:(V.ref C)=v3:=FQ (FQ ak);clear bu ab bv ah c0 ak;subst cf;subst c1;subst ch;subst c3;subst ci;subst c4;obtain⟨a1,a0⟩:=hcl.has (FP "ways") rfl;obtain⟨a2,a4⟩:=hcl.has (FP "keeps") rfl;obtain⟨a3,a5⟩:=hcl.has (FP "place") rfl;have cm:=(hcl.fr _ _ a0).2;have co:=(hcl.fr _ _ a4).2;have cr:=(hcl.fr _ _ a5).2;rw[a9]at cm;rw[ad]at co;rw[aj]at cr;cases cm;cases co;cases cr;have ct:L≠G:=λz=>absurd (hcl.inj _ _ _ a0 (z ▸ a4)) (by decide +kernel);have cu:L≠I:=λz=>absurd (hcl.inj _ _ _ a0 (z ▸ a5)) (by decide +kernel);have cv:G≠I:=λz=>absurd (hcl.inj _ _ _ a4 (z ▸ a5)) (by decide +kernel);obtain⟨cp,u⟩:∃cp:List Cap,cp=[⟨FP "ways",L,o1,V.ref c⟩,⟨FP "keeps",G,Z,V.ref N⟩,⟨FP "place",I,o3,V.ref C⟩]:=⟨_,rfl⟩;have F:∀b o9,(cellsOf cp).lookup b=Vn o9->H5 b=Vo:=λb o9 hb=>by
   obtain⟨e,he,rfl,rfl⟩:=il hb;rw[u]at he;simp only[Fo,FJ,or_false]at he;rcases he with rfl|rfl|rfl
   .exact ac
   .exact ai
   .exact am
  have ex:=mn F;have an:Caps (cq (cellsOf cp) H5) cl cp:=by
   refine⟨λe he=>?_,λy g hy=>?_⟩
   .rw[u]at he ⊢;simp only[Fo,FJ,or_false]at he;rcases he with rfl|rfl|rfl
    .exact⟨a0,fU (by simp[cellsOf]),u1,O,R⟩
    .refine⟨a4,fU ?_,u2,S,U⟩;show JL G ((L,o1)::(G,Z)::[(I,o3)])=Vn Z;rw[FY,show (G == L)=false from beq_eq_false_iff_ne.mpr (Gi ct),FY,beq_self_eq_true]
    .refine⟨a5,fU ?_,u3,W,X⟩;show JL I ((L,o1)::(G,Z)::[(I,o3)])=Vn o3;rw[FY,show (I == L)=false from beq_eq_false_iff_ne.mpr (Gi cu),FY,show (I == G)=false from beq_eq_false_iff_ne.mpr (Gi cv),FY,beq_self_eq_true]
   .have hm:=jm (hcl.fr y g hy).1;rw[u];simp at hm;rcases hm with rfl|rfl|rfl
    all_goals first|(rw[a0]at hy;cases hy;exact⟨⟨FP "ways",L,o1,V.ref c⟩,by simp,rfl,rfl⟩)|(rw[a4]at hy;cases hy;exact⟨⟨FP "keeps",G,Z,V.ref N⟩,by simp,rfl,rfl⟩)|(rw[a5]at hy;cases hy;exact⟨⟨FP "place",I,o3,V.ref C⟩,by simp,rfl,rfl⟩)
  have d0:=(dx.et e5).ext ex;have be:=(cc.et e5).et ex.et;have ap:ao (cq (cellsOf cp) H5) C x:=ex _ _ (cd.et e5);subst u;have hF:=
   nJ (P:=P) (w:=w) (K:=K) (mg:=mg) (base:=base) (k:=4) hf hcl (["here"]:List Vm) [⟨FP "ways",L,o1,V.ref c⟩,⟨FP "keeps",G,Z,V.ref N⟩,⟨FP "place",I,o3,V.ref C⟩] (tO m x.2 (LB ws m.toNat x.2)) (λH=>WT H c m.toNat ls ws/\fZ H N m.toNat (Kpt ws m.toNat)/\ao H C x) ⟨rfl,rfl,rfl,by decide +kernel,by decide +kernel⟩ (λ_ _ _ us hl=>by obtain⟨u1,rfl⟩:=pN hl;rfl) (λvs H Q h=>by obtain⟨p,y,rfl,_⟩:=h;rfl) (λA outer s H vs Q e0 d4 hI hR=>by
    obtain⟨p,y,rfl,e7,iy,hQ⟩:=hR;have d5:=d4.2.2.look;obtain⟨e8,e9,ea⟩:=hI;have eu:Eu H (bE (cellsOf [⟨FP "ways",L,o1,V.ref c⟩,⟨FP "keeps",G,Z,V.ref N⟩,⟨FP "place",I,o3,V.ref C⟩]) H):=λb o hb nf=>ic d5 hb nf;have k1:=e8.eu eu;have k2:=e9.eu eu;have k3:=ea.eu eu;have kp:=e7.eu eu;refine⟨_,(aG (Bb T) e0 (aw (pv 1) (aw (pv 2) (aw (ax (aD K) (pv 3) ae (λ_ _=>rfl)) (aw (pv 0) aa))))),?_⟩;have hb:∀H',Ext (bE (cellsOf [⟨FP "ways",L,o1,V.ref c⟩,⟨FP "keeps",G,Z,V.ref N⟩,⟨FP "place",I,o3,V.ref C⟩]) H) H'->Ext H (cq (cellsOf [⟨FP "ways",L,o1,V.ref c⟩,⟨FP "keeps",G,Z,V.ref N⟩,⟨FP "place",I,o3,V.ref C⟩]) H'):=λH' e=>se d5 e;have hu:∀l,(cellsOf [⟨FP "ways",L,o1,V.ref c⟩,⟨FP "keeps",G,Z,V.ref N⟩,⟨FP "place",I,o3,V.ref C⟩]).lookup l=Vo->bE (cellsOf [⟨FP "ways",L,o1,V.ref c⟩,⟨FP "keeps",G,Z,V.ref N⟩,⟨FP "place",I,o3,V.ref C⟩]) H l=H l:=λl hl=>cZ hl;generalize bE (cellsOf [⟨FP "ways",L,o1,V.ref c⟩,⟨FP "keeps",G,Z,V.ref N⟩,⟨FP "place",I,o3,V.ref C⟩]) H=HU at k1 k2 k3 kp hb hu ⊢;generalize cellsOf [⟨FP "ways",L,o1,V.ref c⟩,⟨FP "keeps",G,Z,V.ref N⟩,⟨FP "place",I,o3,V.ref C⟩]=cs at hb hu ⊢;show k9 _ _ _ _ [Vn (.ref p),Vn (.ref c),Vn (.ref N),Vn (.ref C)] _ _;left;refine aE (ay.of k3) (v:=.int x.2) rfl ?_;left;refine⟨c,N,x.2,p,m,ws,ls,y,rfl,k1,k2,ok,kp,iy.1,iy.2.1,λl ps ys H' e hn hl b0 hys eb=>?_⟩;intro d6;have nl:cs.lookup l=Vo:=by
     cases z:cs.lookup l with
     | none=>rfl
     | some o=>rw[d6 l o z]at hl;cases hl
    have et:=mn d6;exact hQ l ps ys _ (hb H' e) (by rw[<-hu l nl];exact hn) (et _ _ hl) (bz (λa x h=>et _ _ h) b0) hys eb)
  refine⟨C,fl,_,x,m,x.2,LB ws m.toNat x.2,rfl,ap,⟨i0,i1,i2,HY _⟩,m12,by lia,hF,⟨⟨ex _ _ hf,ex _ _ ce,an⟩,d0,be,ap⟩,λH H' e h=>⟨h.1.ext e,h.2.1.ext e,h.2.2.1.et e.et,e _ _ h.2.2.2⟩,λy z hy hS=>ET ok i2 hy hS,λl as qs H6 e6 d7 b0 hin ek ec=>?_⟩;clear hF;obtain⟨b1,b2,b3,b4⟩:=held F e6;refine⟨b1,?_⟩;have ba:=b4 _ _ d7 (λf z=>by cases z);have aq:Paired (ao (bE _ H6)) as qs:=bz (λa x h=>b4 _ _ h (λf z=>by cases z)) b0;have d:=(a6.et e5).ext b2;have d8:=(du.trans e5).trans b2.et;have t7:=t5.ext b2;generalize bE _ H6=H7 at ba aq d d8 t7 ⊢;have hal:=cA aq;have ed:∀r∈rs,∀o,H r=Vn o->(∀ps,o≠.tbl ps)->False:=λr J o ho no=>by have:=au _ _ ho no;rw[(hrs r J).2]at this;cases this
  clear an F ex d0 be ap e6 d7 b0 b1 b2 b3 b4 hf ce hcl a0 a4 a5 a9 ad aj ac ai am R U X O S W ct cu cv ot;have tup1:∀(b:Vb) (z:Bfs.Pl),ao H7 b z->b∉rs:=λb z hb J=>by obtain⟨j,hj⟩:=FX J;have h1:=d.2 j b hj;have h2:H7 b=Vn (.tup [.int z.1,.int z.2]):=hb;rw[h1]at h2;cases h2
  have nl:l∉rs:=λJ=>by
   obtain⟨j,hj⟩:=FX J;have h1:=d.2 j l hj;rw[ba]at h1;have h2:A0 V.ref as=bf m.toNat λ_=>false:=by
    injection h1 with h1
    injection h1
   have h3:=congrArg (λz:List V=>z[0]?) h2
   try dsimp only at h3
   rw[gA _ (by lia),E9]at h3;cases y:as[0]? with
   | none=>rw[y]at h3;cases h3
   | some a=>rw[y]at h3;cases h3
  refine bQ (ag.of ba) ?_;refine forL (xs:=A0 V.ref as) (λj σ H'=>∃M k1 k2,TL H7 H' lq rs m.toNat M/\(∀i r:Nat,M i r=true↔(((r:Nat):Int),((i:Nat):Int))∈qs.take j)/\σ=[Vn (.ref dn),Vn (.ref C),Vn (.ref c),Vn (.ref N),Vn (.ref lq),k1,k2]) ⟨_,_,_,⟨λ_ _ _ e=>e,bi,dt,d⟩,λi r=>by simp,rfl⟩ (λj σ H' _ h=>by obtain⟨M,k1,k2,tl,_⟩:=h;exact ag.of (tl.keep _ _ nl ba)) ?_ ?_
  .rintro j v σ H8 hx ⟨M,k1,k2,tl,hM,rfl⟩;rw[E9]at hx;obtain⟨b,hb,rfl⟩:=Fj.mp hx;obtain⟨z,hz,d9⟩:=bU aq hb;obtain⟨z0,z1,z2,z3⟩:=hin z (Fh hz);have da:ao H8 b z:=tl.keep _ _ (tup1 b z d9) d9;have eg:z.2.toNat<rs.length:=by lia
   have bb:rs[z.2.toNat]?=Vn rs[z.2.toNat]:=E8 eg;generalize rs[z.2.toNat]=ar at bb;have hrow:=tl.rows.2 _ _ bb;refine dD (ay.of da) rfl ?_;left;refine aP (ag.of tl.rows.1) (v:=.ref ar) (eQ z2 (by rw[E9,bb];rfl)) ?_;left;refine ke hrow (jP z0 (by rw[dC];lia)) ?_;refine⟨_,_,_,tl.mark bb (by lia),λi r=>?_,rfl⟩;rw[GA,hz,Fx];unfold put2;split
   .rename_i y;simp only[true_iff];refine .inr ?_;simp;refine HF ?_ ?_
    .show((r:Nat):Int)=z.1;lia
    .show((i:Nat):Int)=z.2;lia
   .rename_i y;rw[hM];constructor
    .exact λh=>.inl h
    .rintro(h|h)
     .exact h
     .have h':(((r:Nat):Int),((i:Nat):Int))=z:=by simpa using h
      refine absurd ⟨?_,?_⟩ y
      .rw[<-h'];show i=((i:Nat):Int).toNat;lia
      .rw[<-h'];show r=((r:Nat):Int).toNat;lia
  .rintro σ H8 ⟨M,k1,k2,tl,hM,rfl⟩;rw[E7,hal,FD]at hM;left;refine q lq rs M H8 (λb o hb no=>?_) (t7.kp tl.keep λr J=>?_) tl.rows (by lia) λi r hi J=>?_
   .have h7:=d8 _ _ hb no;exact tl.keep b o (λJ=>ed b J o hb no) h7
   .obtain⟨j,hj⟩:=FX J;exact⟨_,d.2 j r hj⟩
   .rw[hM];exact ec _
inductive rG(K:E3)(vs:List V)(H:Hp)(Q:VK)(E:XK):Prop|mk:∀a lv n f R,vs=[.ref a,.ref lv]->fZ H a n R->H lv=Vn (.lst (bf n f))->n<=12->(∀l g H',Ext H H'->H l=Vo->H' l=Vn (.lst (bf n g))->(∀j,j<n->(g j=true↔∃i,i<n/\f i=true/\R i j))->Q (.ref l) H')->rG K vs H Q E
theorem vt(T:Bu w mg base):Cal P w K mg base "next_level" 1 ["rises","level"] (rG K):=by
 refine(bZ T.d_next_level).oS ["rises","level","risen_to","p","q"] λM nd H vs Q E h=>?_;obtain⟨rl,lv,n,f',R,rfl,O,s,hn,q⟩:=h;obtain⟨ps,g,u,x,Z⟩:=O;have S:=cA x;refine⟨_,(@av _ _ _ _ _ (@aH _ _ 2 _ _ _ _ nd rfl oi (aJ oY (@bI _ _ _ _ (af b8 aa rfl)) (bq (cn K) rfl T.len_ GI (af (pv 1) aa rfl))) rfl oi)
   (@av _ _ _ _ _ (bJ F8 rfl (bP K (pv 0)) (dw K rfl (bF (aO (i:=3) nd rfl oi) (bF (aO (i:=4) nd rfl oi) df))) (@az _ _ _ (cL (bT (@ax _ _ _ _ _ _ _ (aQ K) (pv 1) (pv 3) (λ_ _=>rfl))) (@az _ _ _ (@iJ _ _ _ _ _ _ b8 (jV (pv 2) (pv 4) set_list) rfl rfl rfl)) aV)))
   (@az _ _ _ (@aK _ _ _ _ (pv 2))))),?_⟩
 left;refine aS λz1 H1 U W _=>?_;left;refine dE (ag.of (U _ _ s)) ?_;rw[dC];refine oV W (by lia) (b7 (by simp;lia)) (cE λrt H2 e2 A B=>?_);rw[sy,Fl]at A;have C:=U.trans e2;have d:H rt=Vo:=by
  cases y:H rt with
  | none=>rfl
  | some o=>rw[U _ _ y]at B;cases B
 left;refine bQ (ag.of (C _ _ u)) ?_;refine forL (xs:=A0 V.ref ps) (λj σ H'=>∃h k1 k2,Ext H H'/\H' rt=Vn (.lst (bf n h))/\(∀b,h b=true↔∃z∈(ee n g n).take j,f' z.1.toNat=true/\z.2.toNat=b)/\σ=[Vn (.ref rl),Vn (.ref lv),Vn (.ref rt),k1,k2]) ⟨_,_,_,C,A,λb=>by simp,rfl⟩ (λj σ H' _ h=>by obtain⟨_,_,_,e,_⟩:=h;exact ag.of (e _ _ u)) ?_ ?_
 .rintro j v σ X hx ⟨h,k1,k2,l,a,F,rfl⟩;rw[E9]at hx;obtain⟨b,hb,rfl⟩:=Fj.mp hx;obtain⟨z,N,Y⟩:=bU x hb;obtain⟨i,r,hi,M,G,rfl⟩:=i6.mp (Fh N);have I:ao X b (((i:Nat):Int),((r:Nat):Int)):=l _ _ Y;refine dD (ay.of I) rfl ?_;left;refine cC ?_;left;refine aP (ag.of (l _ _ s)) (fo (by lia) (by lia)) ?_;rw[Fl];left;have step:∀P:Bfs.Pl->Prop,(∃z∈(ee n g n).take (j+1),P z)↔(∃z∈(ee n g n).take j,P z)\/P (((i:Nat):Int),((r:Nat):Int)):=λP=>by
   rw[GA,N];constructor
   .rintro⟨z,f,m⟩;rcases Fx.mp f with f|f
    .exact .inl ⟨z,f,m⟩
    .have:z=(((i:Nat):Int),((r:Nat):Int)):=by simpa using f
     subst this;exact .inr m
   .rintro(⟨z,f,m⟩|m)
    .exact⟨z,FT _ f,m⟩
    .exact⟨_,FR _ (by simp),m⟩
  cases p:f' i with
  | false=>
   nofun;refine⟨h,_,_,l,a,λb=>?_,rfl⟩;rw[F,step];constructor
   .exact λy=>.inl y
   .rintro(y|⟨y,_⟩)
    .exact y
    .have J:f' ((i:Nat):Int).toNat=true:=y;rw[Fl,p]at J;cases J
  | true=>
   right;refine ke a (jP (by lia) (by rw[dC];lia)) ?_;rw[Fl,nW _ _ M];refine⟨_,_,_,bM l d,aF,λb=>?_,rfl⟩;rw[step];by_cases c:b=r
   .rw[F6 c];simp only[true_iff];refine .inr ⟨?_,?_⟩
    .show f' ((i:Nat):Int).toNat=true;rw[Fl];exact p
    .show((r:Nat):Int).toNat=b;rw[Fl];exact c.symm
   .rw[F5 c,F];constructor
    .exact λy=>.inl y
    .rintro(y|⟨_,y⟩)
     .exact y
     .have J:((r:Nat):Int).toNat=b:=y;rw[Fl]at J;exact absurd J.symm c
 .rintro σ X ⟨h,k1,k2,l,a,F,rfl⟩;rw[E7,S,FD]at F;left;refine q rt h X l d a λb hb=>?_;rw[F];constructor
  .rintro⟨z,N,p,rfl⟩;obtain⟨i,r,hi,M,G,rfl⟩:=i6.mp N;have L:f' ((i:Nat):Int).toNat=true:=p;rw[Fl]at L;refine⟨i,hi,L,?_⟩;show R i ((r:Nat):Int).toNat;rw[Fl];exact(Z i r hi M).mp G
  .rintro⟨i,hi,p,hR⟩;refine⟨(((i:Nat):Int),((b:Nat):Int)),i6.mpr ⟨i,b,hi,hb,(Z i b hi hb).mpr hR,rfl⟩,?_,?_⟩
   .show f' ((i:Nat):Int).toNat=true;rw[Fl];exact p
   .show((b:Nat):Int).toNat=b;exact Fl b
def tV{f:Nat->Bool}{lo i:Nat}(h:ys=(row f lo i).map V.int)(a:f (lo+i)=true):ys++[V.int ((lo+i:Nat):Int)]=(row f lo (i+1)).map V.int:=by rw[wN,F6 a,Fq,h];rfl
def xj{f:Nat->Bool}{lo i:Nat}(h:ys=(row f lo i).map V.int)(a:f (lo+i)=false):ys=(row f lo (i+1)).map V.int:=by rw[wN,F5 (by rw[a];decide),GJ,h]
def eP(H:Hp)(v:V)(b s:Int)(o a:List Int):Prop:=∃p q r,v=.ref p/\H p=Vn (.tup [.int b,.int s,.ref q,.ref r])/\H q=Vn (.tup (o.map V.int))/\H r=Vn (.tup (a.map V.int))
def eP.ext{b s:Int}{o a:List Int}(e:Ext H H')(h:eP H v b s o a):eP H' v b s o a:=by obtain⟨p,q,r,rfl,h1,h2,c⟩:=h;exact⟨p,q,r,rfl,e _ _ h1,e _ _ h2,e _ _ c⟩
theorem qC{f:Nat->Bool}{i:Int}(h0:0<=i)(h:i<=n):bY (bf n f) (Vn i) Vo=bf (n-i.toNat) λk=>f (i.toNat+k):=by
 unfold bY;rw[dC,HT.lJ];have e:HT.aU n 0 (Vn i)=i.toNat:=by show(if i<0 then(i+(n:Int)).toNat else min i.toNat n)=i.toNat;rw[F5 (by lia)];lia
 rw[e];apply Iu;intro k;rcases FW k (n-i.toNat)with a|a
 .rw[HR a,LP,gA _ (by lia),gA _ a]
 .rw[Gb (by rw[FZ,HP,dC];lia),Gb (by rw[dC];lia)]
def dB(n:Nat)(f:Nat->Bool):List PyData:=(F2 n).map λi=>PyData.bool (f i)
theorem qr{α:Type}{R:V->PyData->Prop}{g:α->V}{k:α->PyData}(h:∀x,R (g x) (k x)):∀l:List α,Paired R (l.map g) (l.map k)
 | []=>.nil
 | x::l=>.cons (h x) (qr h l)
def jH{f:Nat->Bool}(h:H p=Vn (.lst (bf n f))):bD H 1 (.ref p) (.list (dB n f)):=
 .inr ⟨p,bf n f,dB n f,rfl,.inr ⟨h,rfl⟩,qr (λi=>(rfl:f i=f i)) _⟩
theorem xQ{α:Type}(f g:α->Bool):∀l:List α,JH (l.map λi=>PyData.bool (f i)) (l.map λi=>PyData.bool (g i))=l.all λi=>f i == g i
 | []=>rfl
 | x::l=>by show(Gw (.bool (f x)) (.bool (g x)) && JH (l.map λi=>PyData.bool (f i)) (l.map λi=>PyData.bool (g i)))=((f x == g x) && l.all λi=>f i == g i);rw[xQ f g l];rfl
def jK{f g:Nat->Bool}:Gw (.list (dB n f)) (.list (dB n g))=true↔∀i,i<n->f i=g i:=by show JH (dB n f) (dB n g)=true↔_;unfold dB;rw[xQ,FK];simp only[GK,beq_iff_eq]
theorem yZ{g:Nat->Bool}(hd:d<=n)(a:n % d=0):Gw (.list (dB (n-d) λk=>g (d+k))) (.list (dB (n-d) g))=true↔Alike g 0 n d:=by
 rw[jK];constructor
 .intro h;refine⟨a,λi hi=>?_⟩;have:=h i (by lia);rw[show 0+i+d=d+i by lia,this,Hd]
 .intro h i hi;have:=h.2 i (by lia);rw[show 0+i+d=d+i by lia,Hd]at this;exact this
inductive qk(K:E3)(vs:List V)(H:Hp)(Q:VK)(E:XK):Prop|mk:∀(p:Vb) (n:Nat) (g:Nat->Bool),vs=[.ref p]->1<=n->n<=20000->H p=Vn (.lst (bf n g))->(∀(d:Nat) H',Ext H H'->1<=d->d<=n->Alike g 0 n d->(∀e,1<=e->e<d->¬Alike g 0 n e)->Q (.int d) H')->qk K vs H Q E
theorem BH(T:Bu w mg base):Cal P w K mg base "least_step" 1 ["turn"] (qk K):=by
 refine(cH T.d_least_step).oS ["turn","whole","step"] λB nd H vs Q E h=>?_;obtain⟨p,n,g,rfl,u,C,y,q⟩:=h;refine⟨_,(av (aH (i:=1) nd rfl oi (bq (cn K) rfl T.len_ GI (aw (pv 0) aa)))
   (av (aH (i:=2) nd rfl oi ae)
   (av (fi F8 (PW.pt (cY (aT iR (aJ c8 (pv 1) (pv 2)) ae (aR _)) (eL (aT (yM B) (fM (f7 K) (pv 0) (eS (pv 2)) gJ) (fM (f7 K) (pv 0) gJ (eS (aJ dR (pv 1) (pv 2)))) (aR _))))) (az (jS (i:=2) nd rfl oi ae ly)))
   (az (aK (pv 2)))))),?_⟩
 left;refine dE (ag.of y) ?_;rw[dC];left;refine eV (λm σ H'=>Ext H H'/\∃d:Nat,σ=[Vn (.ref p),Vn (.int n),Vn (.int d)]/\1<=d/\d<=n/\m=n-d/\∀e,1<=e->e<d->¬Alike g 0 n e)
  (λσ H'=>Ext H H'/\∃d:Nat,σ=[Vn (.ref p),Vn (.int n),Vn (.int d)]/\1<=d/\d<=n/\Alike g 0 n d/\∀e,1<=e->e<d->¬Alike g 0 n e) (n-1)
  ⟨Ext.rfl' H,1,rfl,Fu _,u,rfl,λe h1 h2=>by lia⟩ ?_ ?_
 rotate_left
 .rintro σ H' ⟨e,d,rfl,h1,h2,ha,r⟩;left;exact q d H' e h1 h2 ha r
 rintro m σ H' ⟨e,d,rfl,h1,h2,rfl,r⟩;have b:=e _ _ y;have a:((n:Int) % (d:Int)=0)↔n % d=0:=by have:(n:Int) % (d:Int)=((n % d:Nat):Int):=rfl;lia
 have next:∀H2,Ext H' H2->¬Alike g 0 n d->∃z,z<n-d/\Ext H H2/\∃c:Nat,[Vn (V.ref p),Vn (V.int n),Vn (V.int ((d:Int)+1))]=[Vn (V.ref p),Vn (V.int n),Vn (V.int c)]/\1<=c/\c<=n/\z=n-c/\∀e,1<=e->e<c->¬Alike g 0 n e:=by
  intro H2 f j;have hlt:d<n:=by
   rcases FW d n with h|h
   .exact h
   .have:d=n:=by lia
    subst this;exact absurd ⟨Nat.mod_self d,λi hi=>by lia⟩ j
  refine⟨n-(d+1),by lia,e.trans f,d+1,rfl,by lia,by lia,rfl,λe' F G=>?_⟩;rcases FW e' d with A|A
  .exact r e' F A
  .have:e'=d:=by lia
   subst this;exact j
 left;by_cases s:(n:Int) % (d:Int)=0
 .rw[F4 s];nofun;refine gh (ag.of b) (cE λI H1 v l _=>?_);left;refine gh (ag.of (v _ _ b)) (cE λp2 H2 f o _=>?_);rw[qC (by lia) (by lia),Fl]at l;rw[zj (by lia) (by lia),show ((n:Int)-(d:Int)).toNat=n-d by lia]at o;refine⟨1,1,_,_,jH (f _ _ l),jH o,by decide,?_⟩;left;have hal:=yZ (g:=g) h2 (a.mp s);cases x:Gw (.list (dB (n-d) λk=>g (d+k))) (.list (dB (n-d) g))with
  | true=>
   exact aC ⟨e.trans (v.trans f),d,rfl,h1,h2,hal.mp x,r⟩
  | false=>
   refine aI ⟨_,λ_ _ h=>h,?_⟩;left;exact next H2 (v.trans f) λh=>by rw[hal.mpr h]at x;cases x
 .rw[F3 s];refine aI (aI ⟨_,λ_ _ h=>h,?_⟩);left;exact next H' (Ext.rfl' H') λh=>s (a.mpr h.1)
def tD{f:Nat->Bool}:Alike (λk=>f (b+k)) 0 n d↔Alike f b n d:=by unfold Alike;simp only[Hd,Ih]
inductive sj(K:E3)(vs:List V)(H:Hp)(Q:VK)(E:XK):Prop|mk:∀(p:Vb) (b n:Nat) (f:Nat->Bool),vs=[.ref p,.int b]->1<=n->b+n<=20000->H p=Vn (.lst (bf (b+n) f))->bX f b n->(∀v (l d:Nat) H',Ext H H'->Least f d l->l<=b->d<=n->eP H' v l d (row f 0 l) (row f l d)->Q v H')->sj K vs H Q E
theorem Cs(T:Bu w mg base):Cal P w K mg base "stair_of_marks" 2 ["marks","base"] (sj K):=by
 refine(bZ T.d_stair_of_marks).oS ["marks","base","step","low","once","again"] λhr nd H vs Q E h=>?_;obtain⟨p,b,n,g,rfl,u,a0,hp,v,q⟩:=h;refine⟨_,(av (aH (i:=2) nd rfl oi (aG (BH T) hr (aw (fM (f7 K) (pv 0) (eS (pv 1)) gJ) aa)))
   (av (aH (i:=3) nd rfl oi (pv 1))
   (av (fi F8 (PW.pt (gZ (aT fF (pv 3) ae (aR _)) (ir (aT bG (ax (aQ K) (pv 0) (aJ dR (pv 3) ae) (λ_ _=>rfl)) (ax (aQ K) (pv 0) (aJ bx (aJ dR (pv 3) ae) (pv 2)) (λ_ _=>rfl)) (aR _))))) (az (jS (i:=3) nd rfl oi ae zg)))
   (av (fE (i:=4) ["number"] [0] nd rfl oi (dv rfl T.range_ (aw (pv 3) aa)) (λ_=>(aO (i:=0) (show(["number","marks"]:List Vm).Nodup from by decide +kernel) rfl oi oj)) (λ_=>(dI (bT (ax (aQ K) (pv 1) (pv 0) (λ_ _=>rfl))))) (λ_=>(pv 0)))
   (av (fE (i:=5) ["number"] [0] nd rfl oi (Ew rfl T.range_ (aw (pv 3) (aw (aJ bx (pv 3) (pv 2)) aa))) (λ_=>(aO (i:=0) (show(["number","marks"]:List Vm).Nodup from by decide +kernel) rfl oi oj)) (λ_=>(dI (bT (ax (aQ K) (pv 1) (pv 0) (λ_ _=>rfl))))) (λ_=>(pv 0)))
   (az (aK (bH (aw (pv 3) (aw (pv 2) (aw (jo (mf K) rfl T.tuple_ Ga (aw (pv 4) aa)) (aw (jo (mf K) rfl T.tuple_ Ga (aw (pv 5) aa)) aa)))))))))))),?_⟩
 left;refine gh (ag.of hp) (cE λp1 H1 e1 y _=>?_);rw[qC (by lia) (by lia),Fl,show b+n-b=n by lia]at y;left;refine⟨p1,n,_,rfl,u,by lia,y,λd H2 e2 M N hal hfirst=>?_⟩;have z:=tD.mp hal;have c:∀e,1<=e->e<d->¬Alike g b n e:=λe G I h5=>hfirst e G I (tD.mpr h5);have A:Ext H H2:=e1.trans e2;have f:=A _ _ hp;left;refine eV (λm σ H'=>H'=H2/\∃l:Nat,σ=[Vn (.ref p),Vn (.int b),Vn (.int d),Vn (.int l),Vo,Vo]/\l<=b/\m=l/\∀x,l<=x->x<b->g x=g (x+d))
  (λσ H'=>H'=H2/\∃l:Nat,σ=[Vn (.ref p),Vn (.int b),Vn (.int d),Vn (.int l),Vo,Vo]/\l<=b/\(∀x,l<=x->x<b->g x=g (x+d))/\(l=0\/g (l-1)≠g (l-1+d))) b
  ⟨rfl,b,rfl,Fu _,rfl,λx h1 h2=>by lia⟩ ?_ ?_
 .rintro m σ H' ⟨rfl,l,rfl,B,rfl,a⟩;left;by_cases h0:(0:Int)<(m:Int)
  .rw[F4 h0];right;refine aP (ag.of f) (fo (by lia) (by lia)) ?_;left;refine aP (ag.of f) (fo (by lia) (by lia)) ?_;left;rw[show ((m:Int)-1).toNat=m-1 by lia,show ((m:Int)-1+(d:Int)).toNat=m-1+d by lia];cases O:g (m-1) == g (m-1+d)with
   | true=>
    refine aI ⟨_,λ_ _ h=>h,?_⟩;left;refine⟨m-1,by lia,rfl,m-1,by rw[show ((m-1:Nat):Int)=(m:Int)-1 by lia];rfl,by lia,rfl,λx h1 h2=>?_⟩;rcases FW x m with G|G
    .have:x=m-1:=by lia
     rw[this];exact eq_of_beq O
    .exact a x G h2
   | false=>exact aC ⟨rfl,m,rfl,B,a,.inr λh=>by rw[h]at O;simp at O⟩
  .rw[F3 h0];exact aC (aC ⟨rfl,m,rfl,B,a,.inl (by lia)⟩)
 rintro σ H' ⟨rfl,l,rfl,B,a,s⟩;have j:Least g d l:=An v u M z c B a s;left;refine dz (by lia) ?_;rw[Fl];refine gK (λi ys o=>o=H'/\ys=(row g 0 i).map V.int) (b7 (by lia)) ⟨rfl,rfl⟩ ?_ ?_ ?_
 .rintro i ys o _ ⟨rfl,rfl⟩;rw[E7];exact xm g 0 i
 .rintro i ys o hi ⟨rfl,C⟩;left;refine aP (ag.of f) (fo (by lia) (by lia)) ?_;left;rw[show ((0:Int)+(i:Int)).toNat=i by lia];have e0:g (0+i)=g i:=by rw[Hd]
  cases F:g i with
  | true=>
   right;refine⟨rfl,?_⟩;rw[<-tV C (e0.trans F)];congr 3
   all_goals lia
  | false=>exact aC ⟨rfl,xj C (e0.trans F)⟩
 rintro ys o J ⟨rfl,rfl⟩ R;have S:Ext o (upd o J (.lst ((row g 0 l).map V.int))):=aY R;have I:(upd o J (.lst ((row g 0 l).map V.int))) J=_:=aF;generalize upd o J (.lst ((row g 0 l).map V.int))=H4 at S I;have U:=S _ _ f;left;refine Ea (by lia) ?_;rw[show ((l:Int)+(d:Int)-(l:Int)).toNat=d by lia];refine gK (λi ys r=>r=H4/\ys=(row g l i).map V.int) (b7 (by lia)) ⟨rfl,rfl⟩ ?_ ?_ ?_
 .rintro i ys r _ ⟨rfl,rfl⟩;rw[E7];exact xm g _ i
 .rintro i ys r hi ⟨rfl,C⟩;left;refine aP (ag.of U) (fo (by lia) (by lia)) ?_;left;rw[show ((l:Int)+(i:Int)).toNat=l+i by lia];cases F:g (l+i)with
  | true=>
   right;refine⟨rfl,?_⟩;rw[<-tV C F];congr 3
   all_goals lia
  | false=>exact aC ⟨rfl,xj C F⟩
 rintro ys r L ⟨rfl,rfl⟩ W;have X:Ext r (upd r L (.lst ((row g l d).map V.int))):=aY W;have h6:(upd r L (.lst ((row g l d).map V.int))) L=_:=aF;generalize upd r L (.lst ((row g l d).map V.int))=H6 at X h6;left;refine lV (ag.of (X _ _ I)) (cE λt1 H7 e7 Y _=>?_);left;refine lV (ag.of (e7 _ _ h6)) (cE λt2 H8 e8 Z _=>?_);left;refine aS λt H9 e9 ht _=>?_;exact q _ l d H9 (A.trans (S.trans (X.trans (e7.trans (e8.trans e9))))) j B N ⟨t,t1,t2,rfl,ht,e9 _ _ (e8 _ _ Y),e9 _ _ Z⟩
open Classical in
def i4(n:Nat)(R:Nat->Nat->Prop)(f:Nat->Bool):Nat->Bool:=λj=>decide (∃i,i<n/\f i=true/\R i j)
def jA{R:Nat->Nat->Prop}{f:Nat->Bool}:i4 n R f j=true↔∃i,i<n/\f i=true/\R i j:=by unfold i4;simp
def bW(n:Nat)(R:Nat->Nat->Prop)(f:Nat->Bool):Nat->Nat->Bool
 | 0=>f
 | k+1=>i4 n R (bW n R f k)
def fH(n:Nat)(f g:Nat->Bool):Prop:=∀j,j<n->f j=g j
def yU{R:Nat->Nat->Prop}{f g:Nat->Bool}(h:fH n f g):fH n (i4 n R f) (i4 n R g):=λj _=>by
 rw[FN,jA,jA];constructor
 .rintro⟨i,hi,h1,h2⟩;exact⟨i,hi,by rw[<-h i hi];exact h1,h2⟩
 .rintro⟨i,hi,h1,h2⟩;exact⟨i,hi,by rw[h i hi];exact h1,h2⟩
theorem wD{n:Nat}{R:Nat->Nat->Prop}{f:Nat->Bool}{a k:Nat}(h:fH n (bW n R f a) (bW n R f k)):∀t,fH n (bW n R f (a+t)) (bW n R f (k+t))
 | 0=>h
 | t+1=>yU (wD h t)
def fP(f:Nat->Bool):Nat->Nat
 | 0=>0
 | n+1=>fP f n+if f n then 2 ^ n else 0
theorem kT(f:Nat->Bool):∀n,fP f n<2 ^ n
 | 0=>by simp[fP]
 | n+1=>by
  have:=kT f n;have h2:2 ^ (n+1)=2 ^ n+2 ^ n:=by rw[Nat.pow_succ];lia
  show fP f n+(if f n then 2 ^ n else 0)<_;split<;>lia
theorem tT{f g:Nat->Bool}:∀n,fP f n=fP g n->fH n f g
 | 0,_=>λj b=>absurd b (GS _)
 | n+1,h=>by
  have h1:=kT f n;have h2:=kT g n;have h':fP f n+(if f n then 2 ^ n else 0)=fP g n+(if g n then 2 ^ n else 0):=h;have key:f n=g n/\fP f n=fP g n:=by cases c:f n<;>cases d:g n<;>simp[c,d]at h' ⊢<;>lia
  intro j b;by_cases a:j<n
  .exact tT n key.2 j a
  .have:j=n:=by lia
   subst this;exact key.1
theorem uo{F:Nat->Nat->Bool}(f:n<=12)(h:∀a b,a<b->b<k->¬fH n (F a) (F b)):k<=4096:=by
 have h1:=Bfs.hZ 4096 ((F2 k).map λa=>fP (F a) n) (by
  rw[List.nodup_iff_pairwise_ne,HG,Hk];intro i j hi d c e;simp at hi d e;exact h i j c d (tT n e)) (λx g=>by
  obtain⟨a,_,rfl⟩:=F7.mp g;exact FH (kT (F a) n) (FI (K0 (by lia) f) (by decide)))
 simpa using h1
def gM(n:Nat)(R:Nat->Nat->Prop)(top:Nat)(M:Nat->Nat->Bool):Nat->Nat->Bool:=λi=>if i<top then M i else bW n R (M top) (i-top)
theorem C5{xs:List α}(h:xs.length=k+1){v:α}(a:xs[k]?=Vn v):b9 xs (-1)=Vn v:=by unfold b9 eX;rw[h,F5 (by lia),F6 (by lia)];rw[show (-1+((k+1:Nat):Int)).toNat=k by lia];exact a
theorem Bl(h:xs.length=k+1):bY xs Vo (Vn (-1))=xs.take k:=by
 unfold bY;have a:HT.aU xs.length xs.length (Vn (-1))=k:=by show(if(-1:Int)<0 then(-1+(xs.length:Int)).toNat else min (-1:Int).toNat xs.length)=_;rw[F6 (by decide)];lia
 have b:HT.aU xs.length 0 Vo=0:=rfl;rw[a,b];simp
theorem n5{H:Hp}{n:Nat}:∀{hs:List Vb} {F:Nat->Nat->Bool},(∀(a:Nat) (r:Vb),hs[a]?=Vn r->H r=Vn (.lst (bf n (F a))))->Paired (bD H 1) (A0 V.ref hs) ((F2 hs.length).map λa=>PyData.list (dB n (F a)))
 | [],_,_=>.nil
 | r::hs,F,h=>by rw[FC,KQ,GY,GY,ID];exact .cons (jH (h 0 r rfl)) (n5 λa b c=>h (a+1) b (by simpa using c))
theorem EO{i x a:Nat}(h:x+a<=i):a+(i-x-a)=i-x:=by lia
theorem Bs{i x a k:Nat}(h:x+a<=i)(ha:a<k+1):k+1+(i-x-a)=i+(k+1-a)-x:=by lia
theorem xT{i x a c:Nat}(h:x+a<=i):¬i+c<x/\¬i<x:=by lia
theorem zB{x r h k a:Nat}(b:r=x+1)(c:h=k+1)(ha:a<k+1):min x r+h=x+a+(k+1-a):=by lia
theorem EK{i x r:Nat}(a:r=x+1):i-min x r=i-x:=by lia
theorem sU{x r:Nat}(a:r=x+1):min x r=x:=by lia
inductive uF(K:E3)(vs:List V)(H:Hp)(Q:VK)(E:XK):Prop|mk:∀a m ws c x,vs=[a,.ref c]->bt H a m ws->HOuse m ws->ao H c x->cF m x->fO K->Tbs K H->(∀p d rs (b N:Nat) M H',Et H H'->Tbs K H'->H' p=Vn (.tup [.ref d,.int (b:Nat)])->Rows H' d rs m.toNat (gM m.toNat (bL ws m.toNat) x.2.toNat M)->rs.length=b+N->1<=N->b+N<=5200->(∀r,r<m.toNat->bX (λi=>gM m.toNat (bL ws m.toNat) x.2.toNat M i r) b N)->(∀i r:Nat,(i:Int)<=x.2->(r:Int)<m->(M i r=true↔∃n,Bfs.Rw (LB ws m.toNat x.2) n x ((r:Int),(i:Int))))->Q (.ref p) H')->uF K vs H Q E
def A8(T:Bu w mg base):Cal P w K mg base "all_levels" 9 ["house","place"] (uF K):=by
 refine(bZ T.d_all_levels).oS ["house","place","rises","low","high","level"] λJ nd H vs Q E h=>?_;obtain⟨vh,m,ws,pa,x,rfl,hv,ok,a0,ix,a9,ap,q⟩:=h;have m1:=ok.m1;have m12:=ok.m12;obtain⟨i0,i1,i2,i3⟩:=id ix;refine⟨_,(av (aH (i:=2) nd rfl oi (aG (BK T) J (aw (pv 0) aa)))
   (av (aH (i:=3) nd rfl oi (aG (CJ T) J (aw (pv 0) (aw (pv 1) aa))))
   (av (aH (i:=4) nd rfl oi (bI (aw (ax (aQ K) (pv 3) (dQ dH ae) (λ_ _=>rfl)) aa)))
   (av (aH (i:=5) nd rfl oi (aG (vt T) J (aw (pv 2) (aw (ax (aQ K) (pv 3) (dQ dH ae) (λ_ _=>rfl)) aa))))
   (av (fi F8 (aT (sS J) (pv 5) (pv 4) (by with_unfolding_all rfl)) (av (bA (bO K Ff Fv Fw bV (pv 4) (aw (pv 5) aa)))
   (az (aH (i:=5) nd rfl oi (aG (vt T) J (aw (pv 2) (aw (pv 5) aa)))))))
   (az (aK (bH (aw (aJ lE (fM (f7 K) (pv 3) gJ (eS (dQ dH ae))) (pv 4)) (aw (aJ bx (ax (aD K) (pv 1) ae (λ_ _=>rfl)) (bO K Ff J6 PySem.F.type_list_index (EL J) (pv 4) (aw (pv 5) aa))) aa)))))))))),?_⟩
 left;refine⟨vh,m,ws,rfl,hv,ok,a9,ap,λrl H1 e1 aq ar=>?_⟩;left;refine⟨vh,m,ws,pa,x,rfl,hv.et e1,ok,a0.et e1,ix,a9,aq,λlq rs M H2 e2 as rows bg hM=>?_⟩;have L:=ar.et e2;have ab:=(a0.et e1).et e2;have d:rs.length=x.2.toNat+1:=by omega
 have n:rs[x.2.toNat]?=Vn rs[x.2.toNat]:=E8 (by omega);generalize rs[x.2.toNat]=r0 at n;have ac:=rows.2 _ _ n;have hat:b9 (A0 V.ref rs) (-1)=Vn (.ref r0):=C5 (k:=x.2.toNat) (by rw[E7];exact d) (by rw[E9,n];rfl);left;refine aP (ag.of rows.1) hat ?_;left;refine aS λp H3 e3 au b0=>?_;left;refine aP (ag.of (e3 _ _ rows.1)) hat ?_;left;refine⟨rl,r0,m.toNat,_,_,rfl,L.et e3.et,e3 _ _ ac,by omega,λlv g H4 e4 bi ad hg=>?_⟩;have ah:=e3.trans e4;have ai:H4 lv=Vn (.lst (bf m.toNat (bW m.toNat (bL ws m.toNat) (M x.2.toNat) 1))):=by
  rw[ad];congr 2;exact f6 λj N=>by rw[FN];exact(hg j N).trans jA.symm
 clear ad hg;left;refine eV (λmm σ H'=>∃hs lv k,Ext H2 H'/\H' p=Vn (.lst (A0 V.ref hs))/\hs.length=k+1/\(∀(a:Nat) (r:Vb),hs[a]?=Vn r->H' r=Vn (.lst (bf m.toNat (bW m.toNat (bL ws m.toNat) (M x.2.toNat) a))))/\(∀a b,a<b->b<k+1->¬fH m.toNat (bW m.toNat (bL ws m.toNat) (M x.2.toNat) a) (bW m.toNat (bL ws m.toNat) (M x.2.toNat) b))/\H' lv=Vn (.lst (bf m.toNat (bW m.toNat (bL ws m.toNat) (M x.2.toNat) (k+1))))/\mm=4097-k/\σ=[Vn vh,Vn (.ref pa),Vn (.ref rl),Vn (.ref lq),Vn (.ref p),Vn (.ref lv)])
  (λσ H'=>∃hs lv k a,Ext H2 H'/\H' p=Vn (.lst (A0 V.ref hs))/\hs.length=k+1/\(∀(a:Nat) (r:Vb),hs[a]?=Vn r->H' r=Vn (.lst (bf m.toNat (bW m.toNat (bL ws m.toNat) (M x.2.toNat) a))))/\(∀a b,a<b->b<k+1->¬fH m.toNat (bW m.toNat (bL ws m.toNat) (M x.2.toNat) a) (bW m.toNat (bL ws m.toNat) (M x.2.toNat) b))/\H' lv=Vn (.lst (bf m.toNat (bW m.toNat (bL ws m.toNat) (M x.2.toNat) (k+1))))/\a<k+1/\fH m.toNat (bW m.toNat (bL ws m.toNat) (M x.2.toNat) a) (bW m.toNat (bL ws m.toNat) (M x.2.toNat) (k+1))/\k+1<=4096/\σ=[Vn vh,Vn (.ref pa),Vn (.ref rl),Vn (.ref lq),Vn (.ref p),Vn (.ref lv)])
  4097 ⟨[r0],lv,0,ah,e4 _ _ au,rfl,λa r ha=>by
   cases a with
   | zero=>cases ha;exact ah _ _ ac
   | succ a=>simp at ha,λa b h1 h2=>by omega,ai,rfl,rfl⟩ ?_ ?_
 .rintro mm σ R ⟨hs,lv,k,W,l,A,hrow,B,s,rfl,rfl⟩;have hk:=uo (F:=bW m.toNat (bL ws m.toNat) (M x.2.toNat)) (show m.toNat<=12 by omega) B;have aj:=n5 hrow;left;refine yf (jH s) l aj (by omega) ?_;have C:((F2 hs.length).map λa=>PyData.list (dB m.toNat (bW m.toNat (bL ws m.toNat) (M x.2.toNat) a))).any (λe=>Gw e (.list (dB m.toNat (bW m.toNat (bL ws m.toNat) (M x.2.toNat) (k+1)))))=true↔∃a,a<k+1/\fH m.toNat (bW m.toNat (bL ws m.toNat) (M x.2.toNat) a) (bW m.toNat (bL ws m.toNat) (M x.2.toNat) (k+1)):=by
   rw[Jc,FL,A];constructor
   .rintro⟨a,ha,X⟩;exact⟨a,GK.mp ha,jK.mp X⟩
   .rintro⟨a,ha,X⟩;exact⟨a,GK.mpr ha,jK.mpr X⟩
  generalize ((F2 hs.length).map λa=>PyData.list (dB m.toNat (bW m.toNat (bL ws m.toNat) (M x.2.toNat) a))).any (λe=>Gw e (.list (dB m.toNat (bW m.toNat (bL ws m.toNat) (M x.2.toNat) (k+1)))))=bb at C ⊢;cases bb with
  | true=>
   obtain⟨a,ha,hsame⟩:=C.mp rfl;refine⟨_,rfl,aC ?_⟩;exact⟨hs,lv,k,a,W,l,A,hrow,B,s,ha,hsame,hk,rfl⟩
  | false=>
   have hno:∀a,a<k+1->¬fH m.toNat (bW m.toNat (bL ws m.toNat) (M x.2.toNat) a) (bW m.toNat (bL ws m.toNat) (M x.2.toNat) (k+1)):=λa ha hs=>by have:=C.mpr ⟨a,ha,hs⟩;cases this
   have O:∀a b,a<b->b<k+1+1->¬fH m.toNat (bW m.toNat (bL ws m.toNat) (M x.2.toNat) a) (bW m.toNat (bL ws m.toNat) (M x.2.toNat) b):=λa b hab hb=>by
    by_cases b1:b<k+1
    .exact B a b hab b1
    .have:b=k+1:=by omega
     subst this;exact hno a hab
   have bl:=uo (F:=bW m.toNat (bL ws m.toNat) (M x.2.toNat)) (show m.toNat<=12 by omega) O;refine⟨_,rfl,aI ⟨λak H'=>∃hs lv,Ext H2 H'/\H' p=Vn (.lst (A0 V.ref hs))/\hs.length=k+1+1/\(∀(a:Nat) (r:Vb),hs[a]?=Vn r->H' r=Vn (.lst (bf m.toNat (bW m.toNat (bL ws m.toNat) (M x.2.toNat) a))))/\H' lv=Vn (.lst (bf m.toNat (bW m.toNat (bL ws m.toNat) (M x.2.toNat) (k+1+1))))/\ak=[Vn vh,Vn (.ref pa),Vn (.ref rl),Vn (.ref lq),Vn (.ref p),Vn (.ref lv)],λak H' ⟨hs,lv,a1,a2,a3,a4,a5,a6⟩=>⟨4097-(k+1),by omega,hs,lv,k+1,a1,a2,a3,a4,O,a5,rfl,a6⟩,?_⟩⟩;have nqr:∀r∈hs++[lv],r≠p:=λr J z=>by
    have hb:∃f,R r=Vn (.lst (bf m.toNat f)):=by
     rcases Fx.mp J with h|h
     .obtain⟨j,N⟩:=FX h;exact⟨_,hrow j r N⟩
     .rw[Fi.mp h];exact⟨_,s⟩
    obtain⟨f,hb⟩:=hb;rw[z,l]at hb;have h2:A0 V.ref hs=bf m.toNat f:=by
     injection hb with hb
     injection hb
    have Y:=congrArg (λz:List V=>z[0]?) h2
    try dsimp only at Y
    rw[gA _ (by omega),E9]at Y;cases y:hs[0]? with
    | none=>rw[y]at Y;cases Y
    | some a=>rw[y]at Y;cases Y
   left;refine⟨cg (ag.of l),?_⟩;left;refine bR l (cj (by rw[E7];omega)) ?_;have b2:H2 p=Vo:=b0;have Z:=bM (o:=.lst (A0 V.ref hs++[.ref lv])) W b2;have keep:∀b o,b≠p->R b=Vn o->upd R p (.lst (A0 V.ref hs++[.ref lv])) b=Vn o:=λb o nb e=>by rw[aB nb];exact e
   have am:upd R p (.lst (A0 V.ref hs++[.ref lv])) p=Vn (.lst (A0 V.ref (hs++[lv]))):=by rw[aF,Fq];rfl
   have G:=keep lv _ (nqr lv (by simp)) s;have hrow6:∀(a:Nat) (r:Vb),(hs++[lv])[a]?=Vn r->upd R p (.lst (A0 V.ref hs++[.ref lv])) r=Vn (.lst (bf m.toNat (bW m.toNat (bL ws m.toNat) (M x.2.toNat) a))):=λa r ha=>by
    by_cases hal:a<hs.length
    .rw[Fz hal]at ha;exact keep r _ (nqr r (FT _ (Fh ha))) (hrow a r ha)
    .rw[Fy (by omega)]at ha;have hz:a-hs.length=0:=by have:=(Fg.mp ha).1;simp at this;omega
     rw[hz]at ha;cases ha;have:a=k+1:=by omega
     subst this;exact G
   generalize upd R p (.lst (A0 V.ref hs++[.ref lv]))=H6 at Z am G hrow6 ⊢;left;refine⟨rl,lv,m.toNat,_,_,rfl,L.et Z.et,G,by omega,λb3 g2 H7 e7 _ b4 ba=>?_⟩;left;refine⟨hs++[lv],b3,Z.trans e7,e7 _ _ am,by rw[Fs,A];rfl,λa r ha=>e7 _ _ (hrow6 a r ha),?_,rfl⟩;rw[b4];congr 2;exact f6 λj N=>by rw[FN];exact(ba j N).trans jA.symm
 .rintro σ R ⟨hs,lv,k,a,W,l,A,hrow,B,s,ha,hsame,hk,rfl⟩;have S:=rows.ext W;left;refine gh (ag.of S.1) (cE λlo H6 Z an _=>?_);rw[Bl (k:=x.2.toNat) (by rw[E7];exact d)]at an;left;refine l4 an (Z _ _ l) (b7 (by simp;omega)) (cE λll H7 e7 bc _=>?_);have u:=Z.trans e7;left;refine aE (ay.of (u _ _ (W _ _ ab))) (v:=.int x.2) rfl ?_;left;have hrow7:∀(a:Nat) (r:Vb),hs[a]?=Vn r->H7 r=Vn (.lst (bf m.toNat (bW m.toNat (bL ws m.toNat) (M x.2.toNat) a))):=λa r h=>u _ _ (hrow a r h);refine⟨cg (ag.of (u _ _ l)),?_⟩;left;refine⟨1,p,_,.ref lv,_,_,a,rfl,rfl,jH (u _ _ s),u _ _ l,n5 hrow7,by omega,⟨_,by rw[E9,Ia (by omega)];rfl,jK.mpr hsame⟩,λb e hb X=>?_,by omega,?_⟩
  .rw[E9,Ia (by omega)]at X;cases X;rw[Hr];intro hc;have:=jK.mp hc;exact B b a hb ha λj N=>(this j N).trans (hsame j N).symm
  left;refine aS λpp H8 e8 be _=>?_;have U:=W.trans (u.trans e8);refine q pp ll (rs.take x.2.toNat++hs) (x.2.toNat+a) (k+1-a) M H8 ((e1.trans e2).trans U.et) (as.ext U) ?_ ⟨?_,λi r hi=>?_⟩ ?_ (by omega) (by omega) (λr J=>?_) hM
  .rw[be];congr 3;congr 2;omega
  .rw[e8 _ _ bc,Fq,JI]
  .unfold gM;by_cases I:i<x.2.toNat
   .rw[F6 I];rw[Fz (by rw[FZ,sU d];exact I),HR I]at hi;exact U _ _ (rows.2 i r hi)
   .rw[F5 I];rw[Fy (by rw[FZ,sU d];exact JD I),FZ,EK d]at hi;exact e8 _ _ (hrow7 _ _ hi)
  .rw[Fs,FZ];exact zB d A ha
  .intro i hi;show gM _ _ _ _ (i+(k+1-a)) r=gM _ _ _ _ i r;unfold gM;rw[F5 (xT hi).1,F5 (xT (c:=0) hi).2];have hp:=wD hsame (i-x.2.toNat-a) r J;rw[EO hi,Bs hi ha]at hp;exact hp.symm
theorem qB(h:i+1<=d)(a:d≠i+1):i+1+(d-1-(i+1))=d-1:=by lia
def aZ(ws:List Way)(a b:Bfs.Pl):Prop:=∃w∈ws,cw w a.1 a.2=true/\b=(w.other,a.2+rz w.deed)
def aX(ws:List Way)(x y:Bfs.Pl):Prop:=∃n,Bfs.Rw (aZ ws) n x y
def jj{w:Way}{n:Int}(b:w.room=r)(h:w.deed = "up"\/w.deed = "stay"\/(w.deed = "down"/\0<n)\/(w.deed = "zero"/\n=0)):cw w r n=true:=by
 unfold cw;rw[F4 b,Bool.true_and];rcases h with h|h|⟨h,a⟩|⟨h,a⟩
 .rw[h,F5 (by decide +kernel)]
  rfl
 .rw[h,F5 (by decide +kernel)]
  rfl
 .rw[h,F6 (by decide +kernel)];exact F4 a
 .rw[h,F5 (by decide +kernel),a];simp
def ik{w:Way}{n:Int}(hd:cJ w.deed)(h:cw w r n=true):(w.deed = "up"/\rz w.deed=1)\/(w.deed = "stay"/\rz w.deed=0)\/(w.deed = "down"/\0<n/\rz w.deed = -1)\/(w.deed = "zero"/\n=0/\rz w.deed=0):=by
 unfold cw at h;rw[FO]at h;rcases hd with hd|hd|hd|hd
 .exact .inl ⟨hd,by rw[hd];exact jB⟩
 .rw[hd,F6 (by decide +kernel)]at h;exact .inr (.inr (.inl ⟨hd,of_decide_eq_true h.2,by rw[hd];exact kN⟩))
 .exact .inr (.inl ⟨hd,by rw[hd];exact lX⟩)
 .rw[hd,F5 (by decide +kernel)]at h;have h2:decide ((FP "zero") = "zero")=true:=by decide +kernel
  refine .inr (.inr (.inr ⟨hd,?_,by rw[hd];exact oa⟩));simpa using h.2
def aX.refl:aX ws x x:=⟨0,.nil⟩
theorem aX.trans{ws:List Way}{x y z:Bfs.Pl}(h:aX ws x y)(g:aX ws y z):aX ws x z:=by obtain⟨n,h⟩:=h;obtain⟨k,g⟩:=g;exact⟨n+k,h.trans g⟩
def aX.one(h:aZ ws x y):aX ws x y:=⟨1,.snoc .nil h⟩
section
variable {m:Int} {ws:List Way} (ok:∀w∈ws,w.Ok m)
include ok
theorem fj{a b:Bfs.Pl}(h:aZ ws a b)(ha:0<=a.2):0<=b.1/\b.1<m/\0<=b.2/\b.2<=a.2+1/\a.2<=b.2+1:=by obtain⟨w,d,ho,rfl⟩:=h;have c:=ok w d;refine⟨c.o0,c.o1,?_⟩;rcases ik c.dd ho with⟨_,h⟩|⟨_,h⟩|⟨_,h1,h⟩|⟨_,h1,h⟩<;>(show 0<=a.2+rz w.deed/\a.2+rz w.deed<=a.2+1/\a.2<=a.2+rz w.deed+1;lia)
theorem sA(h:Kpt ws m.toNat i j):∀L,0<=L->aX ws ((i:Int),L) ((j:Int),L):=by
 induction h with
 | refl _=>exact λ_ _=>.refl
 | @stay w l hd=>
  intro L _;have a:=ok w l;have r0:=a.r0;have o0:=a.o0;refine .one ⟨w,l,jj (by show w.room=(w.room.toNat:Int);lia) (.inr (.inl hd)),?_⟩;rw[hd,lX];exact HF (by show(w.other.toNat:Int)=w.other;lia) (by show L=L+0;lia)
 | trans _ _ h1 h2=>exact λL g=>(h1 L g).trans (h2 L g)
 | @arch u d n b hd c _ o=>
  intro L g;have e:=ok u n;have f:=ok d hd;have p:=e.r0;have q:=e.o0;have r:=f.r0;have s:=f.o0;have s1:aZ ws (((u.room.toNat:Nat):Int),L) (((u.other.toNat:Nat):Int),L+1):=⟨u,n,jj (by show u.room=((u.room.toNat:Nat):Int);lia) (.inl b),by rw[b,jB];exact HF (by show((u.other.toNat:Nat):Int)=u.other;lia) rfl⟩;have s2:aZ ws (((d.room.toNat:Nat):Int),L+1) (((d.other.toNat:Nat):Int),L):=⟨d,hd,jj (by show d.room=((d.room.toNat:Nat):Int);lia) (.inr (.inr (.inl ⟨c,by lia⟩))),by rw[c,kN];exact HF (by show((d.other.toNat:Nat):Int)=d.other;lia) (by show L=L+1 + -1;lia)⟩;exact((aX.one s1).trans (o (L+1) (by lia))).trans (.one s2)
theorem wo:∀n (w:Nat->Bfs.Pl) i L,1<=L->(∀k,i<=k->k<i+n->aZ ws (w k) (w (k+1)))->(∀k,i<=k->k<=i+n->L<=(w k).2)->(w i).2=L->(w (i+n)).2=L->0<=(w i).1->(w i).1<m->Kpt ws m.toNat (w i).1.toNat (w (i+n)).1.toNat:=by
 intro n;induction n using HJ with
 | ind n F=>
  intro w i L J p E S h1 r0 r1;cases n with
  | zero=>exact .refl (by show(w i).1.toNat<m.toNat;lia)
  | succ n=>
   have s0:=p i (Fu _) (by lia);have in1:=fj ok s0 (by lia);obtain⟨v,G,ho,q⟩:=id s0;have H:=ok v G;have c:=gD ho;have M:(w (i+1)).1=v.other:=by rw[q]
   have T:(w (i+1)).2=(w i).2+rz v.deed:=by rw[q]
   have hge:=E (i+1) (by lia) (by lia);rcases ik H.dd ho with⟨hd,f⟩|⟨hd,f⟩|⟨hd,_,f⟩|⟨hd,O,f⟩
   .obtain⟨d,r,s,g,j⟩:=Bfs.xV (P:=i+1) (n:=i+(n+1)) (by lia) (λk a b=>(fj ok (p k (by lia) b) (by have:=E k (by lia) (by lia);lia)).2.2.2.2) (by show(w (i+(n+1))).2<=L;omega) (by show L<=(w (i+1)).2;omega)
    try dsimp only at g j
    have u:d≠i+1:=λz=>by rw[z]at g;omega
    have I:=p (d-1) (by omega) (by omega);rw[show d-1+1=d by omega]at I;obtain⟨x,y,A,B⟩:=id I;have C:=ok x y;have e:=gD A;have Q:(w d).1=x.other:=by rw[B]
    have U:(w d).2=(w (d-1)).2+rz x.deed:=by rw[B]
    have R:=j (d-1) (by omega) (by omega);have o:x.deed = "down"/\rz x.deed = -1:=by
     rcases ik C.dd A with⟨_,f⟩|⟨_,f⟩|⟨hd,_,f⟩|⟨_,_,f⟩
     .omega
     .omega
     .exact⟨hd,f⟩
     .omega
    have inner:=F (d-1-(i+1)) (by omega) w (i+1) (L+1) (by omega) (λk a b=>p k (by omega) (by omega)) (λk a b=>by have:=j k a (by omega);omega) (by omega) (by rw[qB r u];omega) in1.1 in1.2.1;rw[qB r u,M,<-e]at inner;have N:=Kpt.arch G hd y o.1 inner;rw[c,<-Q]at N;have ind:=fj ok I (by omega);have rest:=F (i+(n+1)-d) (by omega) w d L J (λk a b=>p k (by omega) (by omega)) (λk a b=>E k (by omega) (by omega)) g (by rw[Nat.add_sub_of_le s];exact h1) ind.1 ind.2.1;rw[Nat.add_sub_of_le s]at rest;exact .trans N rest
   .have rest:=F n (by omega) w (i+1) L J (λk a b=>p k (by omega) (by omega)) (λk a b=>E k (by omega) (by omega)) (by omega) (by rw[show i+1+n=i+(n+1) by omega];exact h1) in1.1 in1.2.1;rw[show i+1+n=i+(n+1) by omega,M]at rest;have st:=Kpt.stay (n:=m.toNat) G hd;rw[c]at st;exact .trans st rest
   .omega
   .omega
theorem nv{w:Nat->Bfs.Pl}{n:Nat}(h0:0<=(w 0).1/\(w 0).1<m/\0<=(w 0).2)(a:∀k,k<n->aZ ws (w k) (w (k+1))):∀k,k<=n->0<=(w k).1/\(w k).1<m/\0<=(w k).2
 | 0,_=>h0
 | k+1,c=>by have b:=nv h0 a k (by lia);have:=fj ok (a k (by lia)) b.2.2;exact⟨this.1,this.2.1,this.2.2.1⟩
theorem zG(d:0<=top)(e:bC m top x)(h:Bfs.Rw (LB ws m.toNat top) k x y):aX ws x y/\bC m top y:=by
 induction h with
 | nil=>exact⟨.refl,e⟩
 | @snoc n x y z _ hs o=>
  obtain⟨f,g⟩:=o e;rcases hs with⟨w,p,ho,rfl,hle⟩|⟨q,i,j,l,a,rfl⟩
  .have st:aZ ws y (w.other,y.2+rz w.deed):=⟨w,p,ho,rfl⟩;have:=fj ok st g.2.2.1;exact⟨f.trans (.one st),this.1,this.2.1,this.2.2.1,hle⟩
  .have hlt:=Kpt.lt ok l;have b:y.2=top:=by have:=g.2.2.2;lia
   have hs:=sA ok l top d;have c:y=((i:Int),top):=HF a b;rw[<-c]at hs;exact⟨f.trans hs,by show(0:Int)<=j;lia,by show(j:Int)<m;lia,d,HY _⟩
theorem zY(R:0<=top):∀n (w:Nat->Bfs.Pl),0<=(w 0).1->(w 0).1<m->(w 0).2=top->(∀k,k<n->aZ ws (w k) (w (k+1)))->(w n).2<=top->∃k,Bfs.Rw (LB ws m.toNat top) k (w 0) (w n):=by
 intro n;induction n using HJ with
 | ind n E=>
  intro w b c i d hle;cases n with
  | zero=>exact⟨0,.nil⟩
  | succ n=>
   have hin:=nv ok (w:=w) (n:=n+1) ⟨b,c,by lia⟩ d;have sn:=d n (by lia);have J:=fj ok sn (hin n (by lia)).2.2;by_cases e:(w n).2<=top
   .obtain⟨k,g⟩:=E n (by lia) w b c i (λk g=>d k (by lia)) e;obtain⟨v,s,ho,L⟩:=sn;exact⟨k+1,.snoc g (.inl ⟨v,s,ho,L,hle⟩)⟩
   .obtain⟨u,S,j,f⟩:=Bfs.jC n (λk g=>(fj ok (d k (by lia)) (hin k (by lia)).2.2).2.2.2.1) (by show(w 0).2<=top;lia) (by show top<=(w n).2;lia)
    have M:u≠n:=λz=>by rw[z]at j;lia
    have F:=d u (by lia);have N:=fj ok F (hin u (by lia)).2.2;have O:=f (u+1) (by lia) (by lia);obtain⟨v,s,ho,o⟩:=id F;obtain⟨x,p,q,r⟩:=id sn;have P:(w (u+1)).1=v.other:=by rw[o]
    have T:(w (u+1)).2=(w u).2+rz v.deed:=by rw[o]
    have Q:(w (n+1)).1=x.other:=by rw[r]
    have U:(w (n+1)).2=(w n).2+rz x.deed:=by rw[r]
    have y:v.deed = "up":=by
     rcases ik (ok v s).dd ho with⟨hd,_⟩|⟨_,e⟩|⟨_,_,e⟩|⟨_,_,e⟩
     .exact hd
     .omega
     .omega
     .omega
    have A:x.deed = "down":=by
     rcases ik (ok x p).dd q with⟨_,e⟩|⟨_,e⟩|⟨hd,_,_⟩|⟨_,_,e⟩
     .omega
     .omega
     .exact hd
     .omega
    have a:=hin (u+1) (by lia);have inner:=wo ok (n-(u+1)) w (u+1) (top+1) (by lia) (λk B C=>d k (by omega)) (λk B C=>by have:=f k (by lia) (by omega);omega) (by omega) (by rw[show u+1+(n-(u+1))=n by omega];omega) a.1 a.2.1;rw[show u+1+(n-(u+1))=n by omega,P,<-gD q]at inner;have G:=Kpt.arch s y p A inner;rw[gD ho,<-Q]at G;obtain⟨k,g⟩:=E u (by omega) w b c i (λk g=>d k (by omega)) (by omega);have H:=hin u (by omega);have I:=hin (n+1) (by omega);refine⟨k+1,.snoc g (.inr ⟨by omega,_,_,G,by omega,?_⟩)⟩;exact HF (by show(w (n+1)).1=(((w (n+1)).1.toNat:Nat):Int);omega) (by show(w (n+1)).2=top;omega)
def yY(d:0<=top)(b:bC m top x)(c:x.2=top)(e:y.2<=top):(∃n,Bfs.Rw (LB ws m.toNat top) n x y)↔aX ws x y:=by
 constructor
 .rintro⟨n,h⟩;exact(zG ok d b h).1
 .rintro⟨n,h⟩;obtain⟨w,a,wn,f⟩:=h.fn;have:=zY ok d n w (by rw[a];exact b.1) (by rw[a];exact b.2.1) (by rw[a];exact c) f (by rw[wn];exact e);rw[a,wn]at this;exact this
theorem vj(H:0<=x.1/\x.1<m/\0<=x.2){i r:Nat}(hi:x.2<=(i:Int)):aX ws x ((r:Int),((i+1:Nat):Int))↔∃p,p<m.toNat/\aX ws x ((p:Int),(i:Int))/\bL ws m.toNat p r:=by
 constructor
 .rintro⟨n,h⟩;obtain⟨w,s,wn,d⟩:=h.fn;have hin:=nv ok (w:=w) (n:=n) (by rw[s];exact H) d;have y:(w n).2=(i:Int)+1:=by rw[wn];lia
  obtain⟨u,O,b,c⟩:=Bfs.jC (h:=λk=>(w k).2) (l:=(i:Int)) n (λk o=>(fj ok (d k o) (hin k (by lia)).2.2).2.2.2.1) (by show(w 0).2<=(i:Int);rw[s];exact hi) (by show(i:Int)<=(w n).2;lia)
  have I:u≠n:=λz=>by rw[z]at b;lia
  have J:=d u (by lia);have L:=c (u+1) (by lia) (by lia);obtain⟨v,e,ho,f⟩:=id J;have M:(w (u+1)).1=v.other:=by rw[f]
  have P:(w (u+1)).2=(w u).2+rz v.deed:=by rw[f]
  have A:v.deed = "up"/\rz v.deed=1:=by
   rcases ik (ok v e).dd ho with⟨hd,q⟩|⟨_,q⟩|⟨_,_,q⟩|⟨_,_,q⟩
   .exact⟨hd,q⟩
   .omega
   .omega
   .omega
  have a:=hin (u+1) (by lia);have G:=hin u (by lia);have inner:=wo ok (n-(u+1)) w (u+1) ((i:Int)+1) (by lia) (λk B C=>d k (by lia)) (λk B C=>by have:=c k (by lia) (by lia);lia) (by lia) (by rw[show u+1+(n-(u+1))=n by lia];exact y) a.1 a.2.1;rw[show u+1+(n-(u+1))=n by lia,M,show (w n).1.toNat=r by rw[wn];exact Fl r]at inner;refine⟨(w u).1.toNat,by lia,⟨u,?_⟩,v,e,A.1,by rw[gD ho],inner⟩;have seg:=Bfs.jE (S:=aZ ws) (w:=w) (i:=0) (j:=u) (by lia) (λk _ o=>d k (by lia));rw[s,LY]at seg;have E:w u=((((w u).1.toNat:Nat):Int),(i:Int)):=HF (by show(w u).1=(((w u).1.toNat:Nat):Int);lia) b;rw[E]at seg;exact seg
 .rintro⟨p,Q,N,v,e,hd,F,o⟩;have g:=ok v e;have r0:=g.r0;have o0:=g.o0;have st:aZ ws ((p:Int),(i:Int)) (((v.other.toNat:Nat):Int),(i:Int)+1):=⟨v,e,jj (by show v.room=((p:Nat):Int);lia) (.inl hd),by rw[hd,jB];exact HF (by show((v.other.toNat:Nat):Int)=v.other;lia) rfl⟩;have hs:=sA ok o ((i:Int)+1) (by lia);have:=(N.trans (.one st)).trans hs;rw[show ((i+1:Nat):Int)=(i:Int)+1 by lia];exact this
theorem EF(b:0<=x.1/\x.1<m/\0<=x.2)(e:∀i r:Nat,(i:Int)<=x.2->(r:Int)<m->(M i r=true↔∃n,Bfs.Rw (LB ws m.toNat x.2) n x ((r:Int),(i:Int)))):∀i r,r<m.toNat->(gM m.toNat (bL ws m.toNat) x.2.toNat M i r=true↔aX ws x ((r:Int),(i:Int))):=by
 have c:bC m x.2 x:=⟨b.1,b.2.1,b.2.2,HY _⟩;have low:∀i r:Nat,(i:Int)<=x.2->r<m.toNat->(M i r=true↔aX ws x ((r:Int),(i:Int))):=λi r hi a=>(e i r hi (by omega)).trans (yY ok b.2.2 c rfl hi);have high:∀k r,r<m.toNat->(bW m.toNat (bL ws m.toNat) (M x.2.toNat) k r=true↔aX ws x (r,((x.2.toNat+k:Nat):Int))):=by
  intro k;induction k with
  | zero=>exact λr a=>low x.2.toNat r (by lia) a
  | succ k d=>
   intro r a;show i4 _ _ _ r=true↔_;rw[jA,show x.2.toNat+(k+1)=x.2.toNat+k+1 by lia,vj ok b (by omega)];constructor
   .rintro⟨i,hi,h1,h2⟩;exact⟨i,hi,(d i hi).mp h1,h2⟩
   .rintro⟨i,hi,h1,h2⟩;exact⟨i,hi,(d i hi).mpr h1,h2⟩
 intro i r a;unfold gM;by_cases hi:i<x.2.toNat
 .rw[F6 hi];exact low i r (by omega) a
 .rw[F5 hi,high (i-x.2.toNat) r a,show x.2.toNat+(i-x.2.toNat)=i by omega]
end
inductive xM(K:E3)(vs:List V)(H:Hp)(Q:VK)(E:XK):Prop|mk:∀a rs m F b N r,vs=[.ref a,.int (b:Nat),.int (r:Nat)]->Rows H a rs m F->rs.length=b+N->1<=N->b+N<=20000->r<m->bX (λi=>F i r) b N->(∀v (l d:Nat) H',Ext H H'->Least (λi=>F i r) d l->l<=b->d<=N->eP H' v l d (row (λi=>F i r) 0 l) (row (λi=>F i r) l d)->Q v H')->xM K vs H Q E
theorem AG(T:Bu w mg base):Cal P w K mg base "stair_of_room" 3 ["levels","base","room"] (xM K):=by
 refine(dX T.d_stair_of_room).oS ["levels","base","room"] λx nd H vs Q E h=>?_;obtain⟨J,rs,m,F,b,N,r,rfl,rows,f,y,g,z,c,q⟩:=h;refine⟨_,(az (aK (aG (Cs T) x (aw (cK ["level"] [2] (bP K (pv 0)) (λ_=>(aO (i:=0) (show(["level","room"]:List Vm).Nodup from by decide +kernel) rfl oi oj)) (λ_=>dm) (λ_=>(ax (aQ K) (pv 0) (pv 1) (λ_ _=>rfl)))) (aw (pv 1) aa))))),?_⟩;left;refine bQ (ag.of rows.1) ?_;refine dJ (λi ys H'=>H'=H/\ys=bf i (λi=>F i r)) (FI (show(A0 V.ref rs).length<=20000 by rw[E7];lia) (by decide)) ⟨rfl,rfl⟩ (λi ys H' _ h=>⟨by rw[h.1];exact ag.of rows.1,by rw[h.2,dC];exact Fu _⟩) ?_ ?_
 .rintro i v ys H1 p ⟨rfl,rfl⟩;rw[E9]at p;obtain⟨a,ha,rfl⟩:=Fj.mp p;have hrow:=rows.2 i a ha;left;right;refine aP (ag.of hrow) (fo (by lia) (by lia)) ?_;rw[Fl];refine⟨rfl,?_⟩;rw[kf]
 .rintro ys H1 e ⟨A,rfl⟩ j;subst A;rw[E7,f];have s:=aY (o:=.lst (bf (b+N) λi=>F i r)) j;have u:(upd H1 e (.lst (bf (b+N) λi=>F i r))) e=_:=aF;generalize upd H1 e (.lst (bf (b+N) λi=>F i r))=H2 at s u ⊢;left;exact⟨e,b,N,_,rfl,y,g,u,c,λv l d B C G I hd n=>q v l d B (s.trans C) G I hd n⟩
def iY(H:Hp)(vs:List V)(m:Int)(ws:List Way)(x:Bfs.Pl):Prop:=(vs.length:Int)=m/\∀(r:Nat) (v:V),vs[r]?=Vn v->∃(F:Nat->Bool) (l d:Nat),eP H v l d (row F 0 l) (row F l d)/\Least F d l/\1<=d/\l+d<=5200/\∀i:Nat,F i=true↔aX ws x ((r:Int),(i:Int))
inductive xO(K:E3)(vs:List V)(H:Hp)(Q:VK)(E:XK):Prop|mk:∀a m ws b x,vs=[a,.ref b]->bt H a m ws->HOuse m ws->ao H b x->cF m x->fO K->Tbs K H->(∀l xs H',Et H H'->Tbs K H'->(∀o,H l=Vn o->∃ps,o=.tbl ps)->H' l=Vn (.lst xs)->iY H' xs m ws x->Q (.ref l) H')->xO K vs H Q E
theorem Bx(T:Bu w mg base):Cal P w K mg base "forward" 10 ["house","place"] (xO K):=by
 refine(bZ T.d_forward).oS ["house","place","told"] λR nd H vs Q E h=>?_;obtain⟨vh,m,ws,pa,x,rfl,s,ok,u,A,S,U,q⟩:=h;have m1:=ok.m1;have m12:=ok.m12;refine⟨_,(av (bA (aG (pP T) R (aw (pv 0) aa)))
   (av (bA (aG (BM T) R (aw (pv 0) (aw (bI (aw (pv 1) aa)) aa))))
   (av (aH (i:=2) nd rfl oj (aG (A8 T) R (aw (pv 0) (aw (pv 1) aa))))
   (az (aK (cK ["room"] [2] (dv rfl T.range_ (aw (ax (aD K) (pv 0) ae (λ_ _=>rfl)) aa)) (λ_=>(aO (i:=0) (show(["room","told"]:List Vm).Nodup from by decide +kernel) rfl oi oj)) (λ_=>dm) (λ_=>(aG (AG T) R (aw (ax (aD K) (pv 1) ae (λ_ _=>rfl)) (aw (ax (aD K) (pv 1) ae (λ_ _=>rfl)) (aw (pv 0) aa))))))))))),?_⟩
 left;refine⟨vh,m,ws,rfl,s,ok,λH1 e1=>?_⟩;obtain⟨g,B,W,hh,_⟩:=id (s.ext e1);subst W;left;refine aS λpl H2 X Y _=>?_;have a:=e1.trans X;left;refine⟨g,.ref B,m,pl,[pa],[x],rfl,X _ _ hh,Y,.cons (a _ _ u) .nil,λy hy=>by rw[Fi.mp hy];exact A,?_⟩;left;refine⟨.ref g,m,ws,pa,x,rfl,s.ext a,ok,a _ _ u,A,S,U.ext a,λp lq rs b N M H3 Z a0 hp rows a3 hN a9 e hM=>?_⟩;have f:=EF ok.ok ⟨A.1,A.2.1,A.2.2.1⟩ hM;generalize gM m.toNat (bL ws m.toNat) x.2.toNat M=F at rows e f;have a4:H3 g=Vn (.tup [.int m,.ref B]):=Z _ _ (X _ _ hh) (λps z=>by cases z);left;refine aE (ay.of a4) (v:=.int m) rfl ?_;left;refine dz (by lia) ?_;refine gK (λi ys H'=>Ext H3 H'/\ys.length=i/\∀(r:Nat) (v:V),ys[r]?=Vn v->∃(F:Nat->Bool) (l d:Nat),eP H' v l d (row F 0 l) (row F l d)/\Least F d l/\1<=d/\l+d<=5200/\∀i:Nat,F i=true↔aX ws x ((r:Int),(i:Int))) (b7 (by lia)) ⟨Ext.rfl' _,rfl,λr v h=>by simp at h⟩ (λi ys H' _ h=>KI h.2.1) ?_ ?_
 .rintro i ys H4 hi ⟨n,C,hys⟩;rw[show (0:Int)+(i:Int)=((i:Nat):Int) by lia];have G:=n _ _ hp;left;right;refine aE (ay.of G) (v:=.ref lq) rfl ?_;left;refine aE (ay.of G) (v:=.int (b:Nat)) rfl ?_;left;refine⟨lq,rs,m.toNat,F,b,N,i,rfl,rows.ext n,a3,hN,by lia,hi,e i hi,λv l d H5 I hL hl hd a5=>?_⟩;refine⟨n.trans I,by rw[Fs,C];rfl,λr v' c=>?_⟩;by_cases J:r<ys.length
  .rw[Fz J]at c;obtain⟨F',l',d',a1,a2⟩:=hys r v' c;exact⟨F',l',d',a1.ext I,a2⟩
  .rw[Fy (by lia)]at c;have hz:r-ys.length=0:=by have:=(Fg.mp c).1;simp at this;lia
   rw[hz]at c;cases c;have a6:r=i:=by lia
   subst a6;exact⟨λj=>F j r,l,d,a5,hL,hL.pos,by lia,λj=>f j r hi⟩
 .rintro ys H4 p9 ⟨n,C,hys⟩ L;have I:=aY (o:=.lst ys) L;have O:=n.trans I;left;refine q p9 ys _ ((a.et.trans Z).trans O.et) (a0.ext O) (λo ho=>GX λz=>by have:=((a.et.trans Z).trans n.et) p9 o ho λps w=>z ⟨ps,w⟩;rw[L]at this;cases this) aF ⟨by lia,λr v s=>?_⟩
  obtain⟨F',l',d',a1,a2⟩:=hys r v s;exact⟨F',l',d',a1.ext I,a2⟩
theorem wB(ok:∀w∈ws,w.Ok m){p r:Nat}(h:bL ws m.toNat p r):p<m.toNat/\r<m.toNat:=by obtain⟨v,b,hd,a,c⟩:=h;have:=Kpt.lt ok c;have r1:=(ok v b).r1;lia
theorem vF(ok:∀w∈ws,w.Ok m)(d:0<=x.1/\x.1<m/\0<=x.2):∀k r,r<m.toNat->(aX ws x ((r:Int),((x.2.toNat+k:Nat):Int))↔∃s,s<m.toNat/\aX ws x ((s:Int),x.2)/\Rnd.Wg (bL ws m.toNat) k s r):=by
 intro k;induction k with
 | zero=>
  intro r b;rw[show ((x.2.toNat+0:Nat):Int)=x.2 by lia];constructor
  .exact λh=>⟨r,b,h,.nil⟩
  .rintro⟨s,_,h,w⟩;cases w;exact h
 | succ k c=>
  intro r b;rw[show x.2.toNat+(k+1)=x.2.toNat+k+1 by lia,vj ok d (by lia)];constructor
  .rintro⟨p,e,h,hs⟩;obtain⟨s,h1,h2,a⟩:=(c p e).mp h;exact⟨s,h1,h2,.snoc a hs⟩
  .rintro⟨s,h1,h2,a⟩;cases a with
   | @snoc _ _ p _ a hs=>
    have:=wB ok hs;exact⟨p,this.1,(c p this.1).mpr ⟨s,h1,h2,a⟩,hs⟩
theorem iY.near(h:iY H xs m ws x)(ok:HOuse m ws)(E:cF m x):∃P,1<=P/\P<=81/\∀(r:Nat) v,xs[r]?=Vn v->∃(F:Nat->Bool) (l d:Nat),eP H v l d (row F 0 l) (row F l d)/\Least F d l/\1<=d/\d ∣ P/\l<=1288/\∀i,F i=true↔aX ws x ((r:Int),(i:Int)):=by
 have m12:=ok.m12;obtain⟨a,b,c,G⟩:=E;have g:m.toNat<=12:=by lia
 obtain⟨P,e,f,w⟩:=Rnd.round (n:=m.toNat) (A:=bL ws m.toNat) (λi j h=>wB ok.ok h) g;have I:m.toNat*m.toNat<=12*12:=Jn g g;refine⟨P,e,f,λr v z=>?_⟩;obtain⟨F,l,d,o,B,hd,_,p⟩:=h.2 r v z;have C:r<m.toNat:=by have:=(Fg.mp z).1;have:=h.1;lia
 have per:bX F (x.2.toNat+288) P:=λy L=>by
  obtain⟨k,rfl⟩:∃k,y=x.2.toNat+k:=⟨y-x.2.toNat,by lia⟩;rw[FN,p,p,show x.2.toNat+k+P=x.2.toNat+(k+P) by lia,vF ok.ok ⟨a,b,c⟩ _ r C,vF ok.ok ⟨a,b,c⟩ _ r C];constructor
  .rintro⟨s,h1,h2,q⟩;exact⟨s,h1,h2,w s r (k+P) k h1 (by lia) (by lia) (Jx k P) q⟩
  .rintro⟨s,h1,h2,q⟩;exact⟨s,h1,h2,w s r k (k+P) h1 (by lia) (by lia) (Jx k P).symm q⟩
 obtain⟨u,M⟩:=Rnd.yT B e per;exact⟨F,l,d,o,B,hd,u,by lia,p⟩
structure Gd(b s:Int)(o a:List Int):Prop where
 ok:Ok b s o a
 b3:b<=3000
 s8:s<=840
theorem Er{lo hi x:Int}{r:List Int}:iF lo hi (x::r)↔lo<=x/\x<hi/\iF (x+1) hi r:=by
 constructor
 .rintro⟨h1,h2⟩;obtain⟨d,p2⟩:=LQ.mp h1;have b:=h2 x Fe;exact⟨b.1,b.2,p2,λz a=>⟨by have:=d z a;lia,(h2 z (Fb _ a)).2⟩⟩
 .rintro⟨h1,h2,e,c⟩;refine⟨LQ.mpr ⟨λz a=>by have:=c z a;lia,e⟩,λz a=>?_⟩;rcases Fo.mp a with rfl|a
  .exact⟨h1,h2⟩
  .have:=c z a;exact⟨by lia,this.2⟩
inductive pS(K:E3)(vs:List V)(H:Hp)(Q:VK)(E:XK):Prop|mk:∀(p:Vb) (lo hi:Int) (xs:List Int),vs=[.ref p,.int lo,.int hi]->H p=Vn (.tup (xs.map V.int))->iF lo hi xs->Q (.bl true) H->pS K vs H Q E
theorem xl(T:Bu w mg base):Cal P w K mg base "is_rising_row" 2 ["thing","low","end"] (pS K):=by
 refine(dX T.d_is_rising_row).oS ["thing","low","end","lowest","number"] λf nd H vs Q E h=>?_;obtain⟨p,lo,hi,xs,rfl,a,c,q⟩:=h;refine⟨_,(av (bB (cI (bT (bq eM rfl T.isinstance_ GH (aw (pv 0) (aw (eO (v:=.ty "tuple") rfl T.tuple_ Ga rfl) aa))))) (az (aK b8)) aV)
   (av (aH (i:=3) nd rfl oi (pv 1))
   (av (bJ F8 rfl (jF K (pv 0)) (aO (i:=4) nd rfl oi) (av (bB (PW.pt (cY (cI (bT (aG (jD T) f (aw (pv 4) aa)))) (cY (aT fm (pv 4) (pv 3) (aR _)) (eL (aT j6 (pv 4) (pv 2) (aR _)))))) (az (aK b8)) aV)
   (az (aH (i:=3) nd rfl oi (aJ bx (pv 4) ae)))))
   (az (aK b8))))),?_⟩
 left;refine eJ (n:="tuple") (.inr ⟨rfl,_,a⟩) (b:=true) rfl ?_;left;nofun;refine jU (ay.of a) ?_;refine mP (xs:=xs.map V.int) (λi σ H'=>H'=H/\∃lw w,σ=[Vn (.ref p),Vn (.int lo),Vn (.int hi),Vn (.int lw),w]/\iF lw hi (xs.drop i))
  ⟨rfl,lo,Vo,rfl,c⟩ (λi σ H' _ h=>by rw[h.1];exact ay.of a) ?_ ?_
 .rintro i u σ H' g ⟨rfl,lw,w,rfl,e⟩;obtain⟨x,rfl,j⟩:=AX g;have hd:xs.drop i=x::xs.drop (i+1):=by obtain⟨d,rfl⟩:=Fg.mp j;exact Gj d
  rw[hd]at e;obtain⟨h1,h2,l⟩:=Er.mp e;left;refine⟨_,"int",rfl,rfl,?_⟩;left;nofun;rw[F3 (show ¬x<lw by lia)];nofun;rw[F3 (show ¬hi<=x by lia)];nofun;exact⟨rfl,_,_,rfl,l⟩
 .rintro σ H' ⟨rfl,lw,w,rfl,_⟩;left;exact q
inductive xa(K:E3)(vs:List V)(H:Hp)(Q:VK)(E:XK):Prop|mk:∀(b s:Int) (o a:List Int) (q r:Vb),vs=[.int b,.int s,.ref q,.ref r]->H q=Vn (.tup (o.map V.int))->H r=Vn (.tup (a.map V.int))->Ok b s o a->Q (.bl true) H->xa K vs H Q E
theorem zR(T:Bu w mg base):Cal P w K mg base "are_stair_places" 3 ["base","step","once","again"] (xa K):=by
 refine(lT T.d_are_stair_places).oS ["base","step","once","again"] λc nd H vs Q E h=>?_;obtain⟨b,s',o,a,d,r,rfl,h2,e,hok,q⟩:=h;have hb:=hok.hb;have hs:=hok.hs;refine⟨_,(av (bB (PW.pt (cY (cI (bT (aG (jD T) c (aw (pv 0) aa)))) (cY (cI (bT (aG (jD T) c (aw (pv 1) aa)))) (cY (aT fm (pv 0) ae (aR _)) (eL (aT fm (pv 1) ae (aR _))))))) (az (aK b8)) aV)
   (az (aK (cR (aG (xl T) c (aw (pv 2) (aw ae (aw (pv 0) aa)))) (dG (aG (xl T) c (aw (pv 3) (aw (pv 0) (aw (aJ bx (pv 0) (pv 1)) aa))))))))),?_⟩
 left;refine⟨_,"int",rfl,rfl,?_⟩;left;nofun;refine⟨_,"int",rfl,rfl,?_⟩;left;nofun;rw[F3 (show ¬b<0 by lia)];nofun;rw[F3 (show ¬s'<1 by lia)];nofun;refine⟨d,_,_,o,rfl,h2,hok.ho,?_⟩;left;right;exact⟨r,_,_,a,rfl,e,hok.ha,q⟩
inductive uw(K:E3)(vs:List V)(H:Hp)(Q:VK)(E:XK):Prop|mk:∀v b s o a,vs=[v]->eP H v b s o a->Ok b s o a->Q (.bl true) H->uw K vs H Q E
def zO(T:Bu w mg base):Cal P w K mg base "is_stair" 4 ["thing"] (uw K):=by
 refine(cH T.d_is_stair).oS ["thing"] λc nd H vs Q E h=>?_;obtain⟨v,b,s',o,a,rfl,⟨p,d,r,rfl,h1,h2,e⟩,hok,q⟩:=h;refine⟨_,(av (bB (PW.pt (cY (cI (bT (bq eM rfl T.isinstance_ GH (aw (pv 0) (aw (eO (v:=.ty "tuple") rfl T.tuple_ Ga rfl) aa))))) (eL (aT iR (bq (cn K) rfl T.len_ GI (aw (pv 0) aa)) ae (aR _))))) (az (aK b8)) aV)
   (az (aK (aG (zR T) c (aw (ax (aD K) (pv 0) ae (λ_ _=>rfl)) (aw (ax (aD K) (pv 0) ae (λ_ _=>rfl)) (aw (ax (aD K) (pv 0) ae (λ_ _=>rfl)) (aw (ax (aD K) (pv 0) ae (λ_ _=>rfl)) aa)))))))),?_⟩
 left;refine eJ (.inr ⟨rfl,_,h1⟩) rfl ?_;left;nofun;refine f9 (ay.of h1) ?_;left;nofun;refine aE (ay.of h1) rfl ?_;left;refine aE (ay.of h1) rfl ?_;left;refine aE (ay.of h1) rfl ?_;left;refine aE (ay.of h1) rfl ?_;left;exact⟨b,s',o,a,d,r,rfl,h2,e,hok,q⟩
inductive rB(K:E3)(vs:List V)(H:Hp)(Q:VK)(E:XK):Prop|mk:∀v b s o a,vs=[v]->eP H v b s o a->Ok b s o a->Q .non H->rB K vs H Q E
def BX(T:Bu w mg base):Cal P w K mg base "refuse_no_stair" 5 ["thing"] (rB K):=by refine(cH T.d_refuse_no_stair).oS ["thing"] λc nd H vs Q E h=>?_;obtain⟨v,b,s',o,a,rfl,d,hok,q⟩:=h;refine⟨_,(az (bB (cI (bT (aG (zO T) c (aw (pv 0) aa)))) (az jb) aV)),?_⟩;left;refine⟨v,b,s',o,a,rfl,d,hok,?_⟩;left;exact aC q
inductive tJ(K:E3)(vs:List V)(H:Hp)(Q:VK)(E:XK):Prop|mk:∀v b s o a,vs=[v]->eP H v b s o a->b<=3000->s<=840->Q .non H->tJ K vs H Q E
theorem C8(T:Bu w mg base):Cal P w K mg base "refuse_great_stair" 1 ["stair"] (tJ K):=by
 obtain⟨e,c⟩:=T.g_GREATEST_STEP;obtain⟨f,d⟩:=T.g_GREATEST_BASE;refine(cH T.d_refuse_great_stair).oS ["stair"] λg nd H vs Q E h=>?_;obtain⟨v,b,s',o,a,rfl,⟨p,i,r,rfl,h1,h2,j⟩,hb,hs,q⟩:=h;refine⟨_,(av (bB (aT fF (ax (aD K) (pv 0) ae (λ_ _=>rfl)) (kq (v:=.int 3000) rfl d ⟨_,rfl⟩) (aR _)) (az jb) aV)
   (az (bB (aT fF (ax (aD K) (pv 0) ae (λ_ _=>rfl)) (kq (v:=.int 840) rfl c ⟨_,rfl⟩) (aR _)) (az jb) aV))),?_⟩
 left;refine aE (ay.of h1) rfl ?_;left;rw[F3 (show ¬3000<b by lia)];nofun;refine aE (ay.of h1) rfl ?_;left;rw[F3 (show ¬840<s' by lia)];exact aC q
inductive xF(K:E3)(vs:List V)(H:Hp)(Q:VK)(E:XK):Prop|mk:∀v b s o a,vs=[v]->eP H v b s o a->Gd b s o a->Q .non H->xF K vs H Q E
def AM(T:Bu w mg base):Cal P w K mg base "refuse_bad_stair" 6 ["thing"] (xF K):=by
 refine(cH T.d_refuse_bad_stair).oS ["thing"] λd nd H vs Q E h=>?_;obtain⟨v,b,s',o,a,rfl,e,c,q⟩:=h;refine⟨_,(av (bA (aG (BX T) d (aw (pv 0) aa)))
   (az (bA (aG (C8 T) d (aw (pv 0) aa))))),?_⟩
 left;refine⟨v,b,s',o,a,rfl,e,c.ok,?_⟩;left;exact⟨v,b,s',o,a,rfl,e,c.b3,c.s8,q⟩
def m3(x)(xs:List Int):hJ (.int x) (xs.map V.int)=xs.contains x:=by
 unfold hJ;rw[Jc,FN,FL,Hi];constructor
 .rintro⟨y,a,e⟩;have e':(y == x)=true:=e;rw[<-(by simpa using e':y=x)];exact a
 .intro b;exact⟨x,b,by show(x == x)=true;simp⟩
def pH(xs:List Int):(xs.map V.int).all fI=true:=by rw[List.all_map,FK];intro x _;rfl
inductive vX(K:E3)(vs:List V)(H:Hp)(Q:VK)(E:XK):Prop|mk:∀v x b s o a,vs=[v,.int x]->eP H v b s o a->Gd b s o a->Q (.bl (mem b s o a x)) H->vX K vs H Q E
theorem Ef(T:Bu w mg base):Cal P w K mg base "holds" 7 ["stair","x"] (vX K):=by
 refine(bZ T.d_holds).oS ["stair","x","base"] λf nd H vs Q E h=>?_;obtain⟨v,x,b,s',o,a,rfl,d,e,q⟩:=h;have hs:=e.ok.hs;refine⟨_,(av (bA (aG (AM T) f (aw (pv 0) aa)))
   (av (aH (i:=2) nd rfl oi (ax (aD K) (pv 0) ae (λ_ _=>rfl)))
   (av (bB (aT fm (pv 1) (pv 2) (aR _)) (az (aK (c6 (lZ K) (pv 1) (ax (aD K) (pv 0) ae (λ_ _=>rfl)) (by with_unfolding_all rfl)))) aV)
   (az (aK (c6 (lZ K) (aJ bx (pv 2) (aJ c8 (aJ dR (pv 1) (pv 2)) (ax (aD K) (pv 0) ae (λ_ _=>rfl)))) (ax (aD K) (pv 0) ae (λ_ _=>rfl)) (by with_unfolding_all rfl))))))),?_⟩
 left;refine⟨v,b,s',o,a,rfl,d,e,?_⟩;obtain⟨p,j,r,rfl,h1,h2,g⟩:=d;left;refine aE (ay.of h1) rfl ?_;left;by_cases c:x<b
 .rw[F4 c];right;refine aE (ay.of h1) rfl ?_;left;refine mi (.inr (ay.of h2)) rfl (pH o) ?_;rw[nO _ c]at q;rw[m3];exact q
 .rw[F3 c];nofun;refine aE (ay.of h1) rfl ?_;left;refine aE (ay.of h1) rfl ?_;left;refine mi (.inr (ay.of g)) rfl (pH a) ?_;rw[w4 _ (by lia)]at q;rw[m3];exact q
theorem CB{K:E3}{g:TG}(Pv:Nat->St->Hp->Prop)(h0:Pv 0 σ H)(f:∀i σ H,i<=xs.length->Pv i σ H->ag K H a xs)
  (hs:∀i u σ H p H',xs[i]?=Vn u->Pv i σ H->Ext H H'->H' p=Vn (.tup [.int i,u])->H p=Vo->g (.ref p) σ H' λb H2=>tb ⟨Pv (i+1),D.rt,D.nx,Pv (i+1)⟩ b H2) (hd:∀σ H,Pv xs.length σ H->D.nx σ H):iH (jQ K a) g tb D σ H:=by
 refine⟨λi m σ H=>m=xs.length-i/\i<=xs.length/\Pv i σ H,⟨xs.length,by simp,GO _,h0⟩,?_⟩;rintro i m σ H ⟨rfl,hi,p⟩;have c:=f i σ H hi p;by_cases hlt:i<xs.length
 .refine .inr ⟨⟨xs,xs[i],c,by simp[hlt]⟩,Pv (i+1),λh H' j=>⟨xs.length-(i+1),by lia,rfl,hlt,j⟩,λx H' y=>?_⟩;obtain⟨pp,u,rfl,d,rfl,l⟩:=y;exact hs i u σ H pp _ (l.2 xs c) p (aY d) aF d
 .have e:i=xs.length:=by lia
  subst e;exact .inl ⟨⟨xs,c,Fu _⟩,hd σ H p⟩
theorem lY{nx:Bfs.Pl->Nat->Option Bfs.Pl}:∀(a b:List Nat) (x:Bfs.Pl),Bfs.gone (nx:=nx) x (a++b)=(Bfs.gone (nx:=nx) x a).bind λy=>Bfs.gone (nx:=nx) y b
 | [],b,x=>rfl
 | k::a,b,x=>by
  show(nx x k).bind (λy=>Bfs.gone (nx:=nx) y (a++b))=((nx x k).bind λy=>Bfs.gone (nx:=nx) y a).bind _;cases nx x k with
  | none=>rfl
  | some u=>exact lY a b u
def bj(nx:Bfs.Pl->Nat->Option Bfs.Pl)(x:Bfs.Pl)(ks:List Nat)(j:Nat):Bfs.Pl:=(Bfs.gone (nx:=nx) x (ks.take j)).getD (0,0)
def iZ(h:Bfs.gone (nx:=nx) x ks=Vn g)(j):Bfs.gone (nx:=nx) x (ks.take j)=Vn (bj nx x ks j)/\Bfs.gone (nx:=nx) (bj nx x ks j) (ks.drop j)=Vn g:=by
 have e:=lY (nx:=nx) (ks.take j) (ks.drop j) x;rw[Kl,h]at e;obtain⟨y,a,b⟩:=HK.mp e.symm;have:bj nx x ks j=y:=by unfold bj;rw[a];rfl
 rw[this];exact⟨a,b⟩
def jM(h:Bfs.gone (nx:=nx) x ks=Vn g)(b:ks[j]?=Vn k):nx (bj nx x ks j) k=Vn (bj nx x ks (j+1)):=by
 obtain⟨h1,h2⟩:=iZ h j;have a:=(Fg.mp b).1;have c:ks.drop j=k::ks.drop (j+1):=by rw[Gj a];rw[E8 a]at b;cases b;rfl
 rw[c]at h2;obtain⟨z,d,_⟩:=HK.mp (show(nx (bj nx x ks j) k).bind _=Vn g from h2);have:bj nx x ks (j+1)=z:=by unfold bj;rw[show ks.take (j+1)=ks.take j++[k] by rw[Hu,b];rfl,Bfs.kY h1 d];rfl
 rw[this];exact d
def pT(h:Bfs.gone (nx:=nx) x ks=Vn g)(a i):bj nx (bj nx x ks a) (ks.drop a) i=bj nx x ks (a+i):=by show(Bfs.gone (nx:=nx) (bj nx x ks a) ((ks.drop a).take i)).getD (0,0)=(Bfs.gone (nx:=nx) x (ks.take (a+i))).getD (0,0);rw[List.take_add,lY,(iZ h a).1];rfl
def Am(hi:i<=n):bj nx x (ks.take n) i=bj nx x ks i:=by unfold bj;rw[List.take_take,JW hi]
theorem rO{nx:Bfs.Pl->Nat->Option Bfs.Pl}{g:Bfs.Pl}:∀{ks:List Nat} {x:Bfs.Pl},Bfs.gone (nx:=nx) x ks=Vn g->trail nx x ks=(F2 (ks.length+1)).map (bj nx x ks)
 | [],x,h=>rfl
 | k::r,x,h=>by obtain⟨u,a,b⟩:=HK.mp (show(nx x k).bind _=Vn g from h);rw[FC,KQ,GY,ID];show x::((nx x k).map λy=>trail nx y r).getD []=x::_;rw[a];show x::trail nx u r=_;rw[rO b];congr 1;apply K5;intro j _;show bj nx u r j=((nx x k).bind λy=>Bfs.gone (nx:=nx) y (r.take j)).getD (0,0);rw[a];rfl
theorem j2(h:Bfs.gone (nx:=nx) x ks=Vn g)(a:j<=ks.length):(trail nx x ks)[j]?=Vn (bj nx x ks j):=by rw[rO h,E9,Ia (by lia)];rfl
theorem ph(ok:HOuse m ws){a b:Bfs.Pl}(h:aN ws T a k=Vn b):b.2<=a.2+1/\a.2<=b.2+1/\∀w,ws[k]?=Vn w->w.deed = "zero"->a.2=0/\b.2=0:=by
 obtain⟨w,f,i,hs,ho,j⟩:=gI h;have hd:=(ok.ok w (Fh f)).dd;have e:=kF hd hs;have r1:=pZ w.deed;have l:=tH w.deed;refine⟨by lia,by lia,λn c g=>?_⟩;rw[f]at c;cases c;rw[g,hV]at hs;by_cases d:a.2=0
 .rw[F4 d]at hs;exact⟨d,by rw[<-FQ hs];exact d⟩
 .rw[F3 d]at hs;cases hs
theorem nR{h:Nat->Int}{n:Nat}{v:Int}(hs:∀t,t<n->h (t+1)<=h t+1)(c:v<h n):∀d i,i+d=n->(∀t,i<=t->t<=n->h t≠v)->v<h i
 | 0,i,e,_=>by rw[show i=n by lia];exact c
 | d+1,i,e,hno=>by have h1:=nR hs c d (i+1) (by lia) λt a b=>hno t (by lia) b;have h2:=hs i (by lia);have f:=hno i (by lia) (by lia);lia
theorem Cc{h:Nat->Int}{v:Int}(hs:∀t,t<n->h (t+1)<=h t+1)(h0:h 0<=v)(b:v<=h n):∃i,i<=n/\h i=v:=by refine GX λno=>?_;have hne:∀t,t<=n->h t≠v:=λt a e=>no ⟨t,a,e⟩;have:=nR (v:=v) hs (by have:=hne n (Fu _);lia) n 0 (by lia) λt _ a=>hne t a;lia
def gQ(h:Nat->Int)(n:Nat)(v:Int)(i:Nat):Prop:=i<=n/\h i=v/\∀t,i<t->t<=n->h t≠v
theorem gQ.above{h:Nat->Int}{v:Int}(hs:∀t,t<n->h (t+1)<=h t+1)(L:gQ h n v i)(e:v<h n):∀t,i<t->t<=n->v<h t:=λt a b=>
 nR hs e (n-t) t (by lia) λu c d=>L.2.2 u (by lia) d
theorem gQ.lt{h}{n i j}{v u}(hs:∀t,t<n->h (t+1)<=h t+1)(L:gQ h n v i)(M:gQ h n u j)(a:v<u)(d:u<=h n):i<j:=by
 have e:=L.2.1;have f:=M.2.1;rcases IP i j with z|z|z
 .exact z
 .subst z;lia
 .by_cases b:u<h n
  .have:=M.above hs b i z L.1;lia
  .have:=M.2.2 i z L.1;have c:h n=u:=by lia
   have:j=n:=GX λw=>M.2.2 n (by have:=M.1;lia) (Fu _) c;have:=L.1;lia
def jy(kvs:List (Key×V))(ps:List Bfs.Pl)(j:Nat):Prop:=∀(i:Nat) (p:Bfs.Pl),i<j->ps[i]?=Vn p->∃(a:Nat) (b:Bfs.Pl),a<j/\ps[a]?=Vn b/\b.2=p.2/\a7 kvs (.inl p.2)=Vn (.int (a:Int))/\∀t q,a<t->t<j->ps[t]?=Vn q->q.2≠p.2
theorem jy.add{kvs:List (Key×V)}{ps:List Bfs.Pl}{p:Bfs.Pl}(h:jy kvs ps j)(d:ps[j]?=Vn p):jy (putK kvs (.inl p.2) (.int (j:Int))) ps (j+1):=λi l hi c=>by
 by_cases e:l.2=p.2
 .refine⟨j,p,by lia,d,e.symm,by rw[e,fX,F6 rfl],λt q h1 h2=>by lia⟩
 .have f:i<j:=by
   rcases(show i<j\/i=j by lia)with z|z
   .exact z
   .subst z;rw[d]at c;cases c;exact absurd rfl e
  obtain⟨m,n,h1,h2,o,r,s⟩:=h i l f c;refine⟨m,n,by lia,h2,o,by rw[fX,F5 (λz=>e (Li z))];exact r,λt q a b g=>?_⟩;rcases(show t<j\/t=j by lia)with z|z
  .exact s t q a z g
  .subst z;rw[d]at g;cases g;exact λw=>e w.symm
inductive vL(K:E3)(vs:List V)(H:Hp)(Q:VK)(E:XK):Prop|mk:∀(l:Vb) (as:List Vb) (ps:List Bfs.Pl),vs=[.ref l]->H l=Vn (.lst (A0 V.ref as))->Paired (ao H) as ps->ps.length<=24013->(∀d kvs H',Ext H H'->H' d=Vn (.dK kvs)->jy kvs ps ps.length->Q (.ref d) H')->vL K vs H Q E
theorem Ai(T:Bu w mg base):Cal P w K mg base "last_met" 1 ["places"] (vL K):=by
 refine(cH T.d_last_met).oS ["places","last","gone","met"] λG nd H vs Q E h=>?_;obtain⟨l,as,ps,rfl,A,B,L,q⟩:=h;have hal:=F9 B;refine⟨_,(@av _ _ _ _ _ (@aH _ _ 1 _ _ _ _ nd rfl oi xG rfl oi)
   (@av _ _ _ _ _ (bJ F8 rfl (nX K rfl T.enumerate_ (af (pv 0) aa rfl)) (dw K rfl (bF (aO (i:=2) nd rfl oi) (bF (aO (i:=3) nd rfl oi) df))) (@az _ _ _ (fg (bo G) (pv 1) (@ax _ _ _ _ _ _ _ (aD K) (pv 3) ae (λ_ _=>rfl)) (pv 2) rfl)))
   (@az _ _ _ (@aK _ _ _ _ (pv 1))))),?_⟩
 left;refine λd f=>?_;left;have C:=aY (o:=.dK []) f;refine nN ?_;left;refine n8 (ag.of (C _ _ A)) ?_;refine CB (λj σ H'=>∃kvs m r,σ=[Vn (.ref l),Vn (.ref d),m,r]/\Ext H H'/\H' d=Vn (.dK kvs)/\kvs.length<=j/\jy kvs ps j) ⟨[],_,_,rfl,C,aF,Fu _,λi p h=>absurd h (GS _)⟩ (λi σ H' _ h=>by obtain⟨_,_,_,_,e,_⟩:=h;exact ag.of (e _ _ A)) ?_ ?_
 .rintro j u σ H2 pp M F ⟨kvs,m,r,rfl,g,c,I,a⟩ s x _;rw[E9]at F;obtain⟨b,hb,rfl⟩:=Fj.mp F;obtain⟨p,y,z⟩:=bU B hb;have J:=(Fg.mp hb).1;refine dD (ay.of x) rfl ?_;left;refine aE (ay.of ((g.trans s) _ _ z)) (v:=.int p.2) rfl ?_;refine⟨d,_,rfl,cX.k (s _ _ c) (k:=.inl p.2) (cj (by lia)),?_⟩;exact⟨_,_,_,rfl,bM (g.trans s) f,aF,FI (jX _ _ _) (by lia),a.add y⟩
 .rintro σ H2 ⟨kvs,m,r,rfl,g,c,I,a⟩;rw[E7,hal]at a;left;exact q d kvs H2 g c a
structure Bg(kvs:List (Key×V))(rm:Nat->Int)(G:Nat->Nat)(c:Nat):Prop where
 yes:∀a,a<c->a7 kvs (.inl (rm (G a)))=Vn (.int (G a:Int))
 only:∀k v,a7 kvs k=Vn v->∃a,a<c/\k=.inl (rm (G a))/\v=.int (G a:Int)
 len:kvs.length=c
theorem Bg.add{kvs:List (Key×V)}{c:Nat}(h:Bg kvs rm G c)(hno:a7 kvs (.inl (rm (G c)))=Vo):Bg (putK kvs (.inl (rm (G c))) (.int (G c:Int))) rm G (c+1) where
 yes:=λa ha=>by
  rw[fX];by_cases e:(Sum.inl (rm (G a)):Key)=.inl (rm (G c))
  .rw[F6 e];rcases(show a<c\/a=c by lia)with z|z
   .have:=h.yes a z;rw[e,hno]at this;cases this
   .rw[z]
  .rw[F5 e];rcases(show a<c\/a=c by lia)with z|z
   .exact h.yes a z
   .exact absurd (by rw[z]) e
 only:=λk v b=>by
  rw[fX]at b;by_cases e:k=.inl (rm (G c))
  .rw[F6 e]at b;exact⟨c,by lia,e,(FQ b).symm⟩
  .rw[F5 e]at b;obtain⟨a,h1,h2⟩:=h.only k v b;exact⟨a,by lia,h2⟩
 len:=by rw[iw _ hno,Fs,h.len];rfl
theorem Bg.few{kvs:List (Key×V)}{c:Nat}(h:Bg kvs rm G c)(g:∀a b,a<c->b<c->G a=G b->a=b)(d:∀a,a<c->0<=rm (G a)/\rm (G a)<n):c<=n:=by
 have:=Bfs.hZ n ((F2 c).map λa=>(rm (G a)).toNat) (by
  unfold JG;rw[HG];refine HV ?_ (IC);intro a b ha hb hab e;have ha:=GK.mp ha;have hb:=GK.mp hb;have h1:=d a ha;have h2:=d b hb;have e':rm (G a)=rm (G b):=by lia
  have f:=h.yes a ha;rw[e',h.yes b hb]at f;have:=g b a hb ha (by have:=V.int.inj (FQ f);lia);lia) (λu i=>by
  obtain⟨a,ha,rfl⟩:=F7.mp i;have:=d a (GK.mp ha);lia)
 rw[E7,G6]at this;exact this
def iU(m:Int)(ws:List Way)(x:Bfs.Pl)(as bs:List Nat):Prop:=∃(U:Int) (y z:Bfs.Pl),Bfs.gone (nx:=aN ws U) x as=Vn y/\Bfs.gone (nx:=aN ws U) y bs=Vn z/\z.1=y.1/\y.2<z.2/\0<bs.length/\(∀j,j<=bs.length->y.2<=(bj (aN ws U) y bs j).2)/\(∀k∈bs,∀w,ws[k]?=Vn w->w.deed≠"zero")/\((as.length+bs.length:Nat):Int)<=m*(x.2+m+m*m+1)
def pw(ok:HOuse m ws)(a:bC m U x)(h:Bfs.Wk (aN ws U) x n y):bC m U y:=by
 induction h with
 | zero=>exact a
 | succ _ b c=>exact k8 ok c.2.2.1 b
theorem sX{m U:Int}{ws:List Way}(ok:HOuse m ws){x g:Bfs.Pl}{ks:List Nat}(a:bC m U x)(h:Bfs.gone (nx:=aN ws U) x ks=Vn g):∀j,j<=ks.length->bC m U (bj (aN ws U) x ks j)
 | 0,_=>a
 | j+1,b=>k8 ok (sX ok a h j (by lia)).2.2.1 (jM h (E8 (by lia)))
theorem Dj(ok:HOuse m ws)(G:0<=x.2)(h:Bfs.gone (nx:=aN ws U) x ks=Vn g)(p:g.2=x.2+m){a c i j:Nat}(q:a<c)(r:(c:Int)<=m)
  (e:gQ (λt=>(bj (aN ws U) x ks t).2) ks.length (x.2+(a:Int)) i) (f:gQ (λt=>(bj (aN ws U) x ks t).2) ks.length (x.2+(c:Int)) j) (s:(bj (aN ws U) x ks i).1=(bj (aN ws U) x ks j).1) (H:(ks.length:Int)<=m*(x.2+m+m*m+1)) :
  i<j/\iU m ws x (ks.take i) ((ks.drop i).take (j-i)):=by
 have hs:∀t,t<ks.length->(bj (aN ws U) x ks (t+1)).2<=(bj (aN ws U) x ks t).2+1:=λt d=>(ph ok (jM h (E8 d))).1;have n:(bj (aN ws U) x ks ks.length).2=x.2+m:=by have:=(iZ h ks.length).1;rw[FD,h]at this;rw[<-FQ this];exact p
 have l:i<j:=e.lt hs f (by lia) (by show _<=(bj (aN ws U) x ks ks.length).2;lia);have b:=e.above hs (by show _<(bj (aN ws U) x ks ks.length).2;lia);have u:=f.1;have v:(bj (aN ws U) x ks i).2=x.2+(a:Int):=e.2.1;have I:(bj (aN ws U) x ks j).2=x.2+(c:Int):=f.2.1;obtain⟨y,A⟩:=iZ h i;have o:=(iZ A (j-i)).1;rw[pT h,show i+(j-i)=j by lia]at o;have hlen:((ks.drop i).take (j-i)).length=j-i:=by rw[FZ,HP];lia
 refine⟨l,U,_,_,y,o,s.symm,by lia,by lia,λt d=>?_,λk B w C E=>?_,?_⟩
 .rw[hlen]at d;rw[Am d,pT h,v];rcases Nat.eq_zero_or_pos t with z|z
  .subst z;show _<=(bj (aN ws U) x ks i).2;lia
  .have:=b (i+t) (by lia) (by lia);lia
 .obtain⟨t,d⟩:=Km.mp B;have F:=(Fg.mp d).1;rw[HR (by lia),LP]at d;have:=(ph ok (jM h d)).2.2 w C E;have:=b (i+t+1) (by lia) (by lia);lia
 .rw[hlen,FZ];lia
theorem qU(a:n<=xs.length):bY xs Vo (Vn (n:Int))=xs.take n:=by
 unfold bY;rw[HT.lJ];have e:HT.aU xs.length xs.length (Vn (n:Int))=n:=by show(if(n:Int)<0 then((n:Int)+(xs.length:Int)).toNat else min (n:Int).toNat xs.length)=n;rw[F5 (by lia)];lia
 rw[e,Ji];simp
theorem EW{a b:Nat}(hab:a<=b)(d:b<=xs.length):bY xs (Vn (a:Int)) (Vn (b:Int))=(xs.drop a).take (b-a):=by
 unfold bY;have e:HT.aU xs.length xs.length (Vn (b:Int))=b:=by show(if(b:Int)<0 then((b:Int)+(xs.length:Int)).toNat else min (b:Int).toNat xs.length)=b;rw[F5 (by lia)];lia
 have c:HT.aU xs.length 0 (Vn (a:Int))=a:=by show(if(a:Int)<0 then((a:Int)+(xs.length:Int)).toNat else min (a:Int).toNat xs.length)=a;rw[F5 (by lia)];lia
 rw[e,c]
inductive xY(K:E3)(vs:List V)(H:Hp)(Q:VK)(E:XK):Prop|mk:∀a m ws b ga x g,vs=[a,.ref b,.ref ga]->bt H a m ws->HOuse m ws->ao H b x->ao H ga g->cF m x->g.2=x.2+m->(∃n,Bfs.b6 (aN ws (cP m x g)) x n g)->(∀t c d as bs H',Ext H H'->H' t=Vn (.tup [.str "rises",.ref c,.ref d])->H' c=Vn (.lst (aW as))->H' d=Vn (.lst (aW bs))->iU m ws x as bs->Q (.ref t) H')->xY K vs H Q E
theorem Df(T:Bu w mg base):Cal P w K mg base "rising_part" 5 ["house","place","goal"] (xY K):=by
 refine(dX T.d_rising_part).oS ["house","place","goal","walk","places","last","begun","number","gone","first"] λB nd H vs Q E h=>?_;obtain⟨vh,m,ws,X,ga,x,g,rfl,hv,ok,J,ah,ix,L,⟨n0,Y⟩,q⟩:=h;have m2:=ok.m12;obtain⟨x0,x1,x2,x3⟩:=id ix;refine⟨_,(@av _ _ _ _ _ (@aH _ _ 3 _ _ _ _ nd rfl oi (aG (uR T) B (af (pv 0) (af (pv 1) (af (pv 2) aa rfl) rfl) rfl)) rfl oi)
   (@av _ _ _ _ _ (@aH _ _ 4 _ _ _ _ nd rfl oi (aG (Dy T) B (af (pv 0) (af (pv 1) (af (pv 3) aa rfl) rfl) rfl)) rfl oi)
   (@av _ _ _ _ _ (@aH _ _ 5 _ _ _ _ nd rfl oi (aG (Ai T) B (af (pv 4) aa rfl)) rfl oi)
   (@av _ _ _ _ _ (@aH _ _ 6 _ _ _ _ nd rfl oi xG rfl oi)
   (@av _ _ _ _ _ (@aH _ _ 7 _ _ _ _ nd rfl oi (@ax _ _ _ _ _ _ _ (aD K) (pv 1) ae (λ_ _=>rfl)) rfl oi)
   (@av _ _ _ _ _ (@aH _ _ 8 _ _ _ _ nd rfl oi (cz (bo B) (pv 5) (pv 7) (λ_ _=>rfl)) rfl oi)
   (@av _ _ _ _ _ (fi F8 (fY (gN (bo B) (@ax _ _ _ _ _ _ _ (aD K) (@ax _ _ _ _ _ _ _ (aQ K) (pv 4) (pv 8) (λ_ _=>rfl)) ae (λ_ _=>rfl)) (pv 6)) (by with_unfolding_all rfl)) (@av _ _ _ _ _ (fg (bo B) (pv 6) (@ax _ _ _ _ _ _ _ (aD K) (@ax _ _ _ _ _ _ _ (aQ K) (pv 4) (pv 8) (λ_ _=>rfl)) ae (λ_ _=>rfl)) (pv 8) rfl)
   (@av _ _ _ _ _ (jS (i:=7) nd rfl oi ae ly)
   (@az _ _ _ (@aH _ _ 8 _ _ _ _ nd rfl oi (cz (bo B) (pv 5) (pv 7) (λ_ _=>rfl)) rfl oi)))))
   (@av _ _ _ _ _ (@aH _ _ 9 _ _ _ _ nd rfl oi (cz (bo B) (pv 6) (@ax _ _ _ _ _ _ _ (aD K) (@ax _ _ _ _ _ _ _ (aQ K) (pv 4) (pv 8) (λ_ _=>rfl)) ae (λ_ _=>rfl)) (λ_ _=>rfl)) rfl oi)
   (@az _ _ _ (@aK _ _ _ _ (@bH _ _ _ _ _ (af a8 (af (fM (f7 K) (pv 3) gJ (eS (pv 9))) (af (fM (f7 K) (pv 3) (eS (pv 9)) (eS (pv 8))) aa rfl) rfl) rfl)))))))))))),?_⟩
 left;refine⟨vh,m,ws,X,ga,x,g,rfl,hv,ok,J,ah,ix,by lia,λhno=>absurd Y (hno _),λn wl H1 ks hD hn e1 ar Z au d=>?_⟩;have N:=mZ (m:=m) (x:=x) (g:=g) (by lia);have a0:cP m x g=x.2+m+m*m:=by unfold cP;rw[F6 (by lia),L]
 have a3:(n:Int)<=m*(cP m x g+1)-1:=Bfs.b6.few (by lia) (by lia) hD λk z hz=>pw ok ⟨x0,x1,x2,N.1⟩ hz;rw[a0]at a3;have hin:=sX ok ⟨x0,x1,x2,N.1⟩ d;generalize cP m x g=U at d hin;clear N a0 hD Y;left;refine⟨vh,m,ws,X,wl,U,x,g,ks,rfl,hv.ext e1,ok,e1 _ _ J,Z,by lia,d,λpl H2 as e2 O R=>?_⟩;have ai:=j7 d;left;refine⟨pl,as,_,rfl,O,R,by lia,λld lk H3 e3 a4 a5=>?_⟩;have hs:∀t,t<ks.length->(bj (aN ws U) x ks (t+1)).2<=(bj (aN ws U) x ks t).2+1:=λt ht=>(ph ok (jM d (E8 ht))).1;have ap:(bj (aN ws U) x ks ks.length).2=x.2+m:=by have:=(iZ d ks.length).1;rw[FD,d]at this;rw[<-FQ this];exact L
 obtain⟨G,y⟩:∃G:Nat->Nat,∀a:Nat,(a:Int)<=m->gQ (λt=>(bj (aN ws U) x ks t).2) ks.length (x.2+(a:Int)) (G a)/\a7 lk (.inl (x.2+(a:Int)))=Vn (.int (G a:Int)):=by
  refine Hv (r:=λ(a i:Nat)=>(a:Int)<=m->gQ (λt=>(bj (aN ws U) x ks t).2) ks.length (x.2+(a:Int)) i/\a7 lk (.inl (x.2+(a:Int)))=Vn (.int (i:Int))) λa=>?_;by_cases ha:(a:Int)<=m
  .obtain⟨i,hi,aj⟩:=Cc (h:=λt=>(bj (aN ws U) x ks t).2) (v:=x.2+(a:Int)) hs (by show x.2<=_;lia) (by show _<=(bj (aN ws U) x ks ks.length).2;lia);obtain⟨i',p',h1,h2,h3,h4,h5⟩:=a5 i _ (by lia) (j2 d hi);have C:(bj (aN ws U) x ks i).2=x.2+(a:Int):=aj;rw[j2 d (by lia)]at h2;cases h2;rw[C]at h3 h4;exact⟨i',λ_=>⟨⟨by lia,h3,λt S a2=>by have:=h5 t _ S (by lia) (j2 d a2);rw[C]at this;exact this⟩,h4⟩⟩
  .exact⟨0,λz=>absurd z ha⟩
 have s:=e3 _ _ O;have F:=(e2.trans e3) _ _ Z;have hat:∀a:Nat,(a:Int)<=m->∃b,as[G a]?=Vn b/\ao H3 b (bj (aN ws U) x ks (G a)):=λa ha=>by obtain⟨b,hb,p⟩:=oO R (j2 d (y a ha).1.1);exact⟨b,hb,e3 _ _ p⟩
 have a6:ao H3 X x:=(e1.trans (e2.trans e3)) _ _ J;clear a5 R O ai;left;refine λW I=>?_;have f:=aY (o:=.dK []) I;left;refine aE (ay.of (f _ _ a6)) (v:=.int x.2) rfl ?_;left;have A:=(y 0 (by lia)).2;rw[show x.2+((0:Nat):Int)=x.2 by lia]at A;refine⟨ld,_,rfl,by rw[<-A];exact bw.k (k:=.inl x.2) (f _ _ a4),?_⟩;left;refine eV (λM σ H'=>∃(c:Nat) (kvs:List (Key×V)),σ=[some vh,some (.ref X),some (.ref ga),some (.ref wl),some (.ref pl),some (.ref ld),some (.ref W),some (.int (x.2+(c:Int))),some (.int (G c:Int)),none]/\Ext H3 H'/\H' W=some (.dK kvs)/\Bg kvs (λt=>(bj (aN ws U) x ks t).1) G c/\(c:Int)<=m/\m.toNat+1-c=M)
  (λσ H'=>∃(a c:Nat) (kvs:List (Key×V)),σ=[Vn vh,Vn (.ref X),Vn (.ref ga),Vn (.ref wl),Vn (.ref pl),Vn (.ref ld),Vn (.ref W),Vn (.int (x.2+(c:Int))),Vn (.int (G c:Int)),Vo]/\Ext H3 H'/\H' W=Vn (.dK kvs)/\(c:Int)<=m/\a<c/\a7 kvs (.inl (bj (aN ws U) x ks (G c)).1)=Vn (.int (G a:Int))/\(bj (aN ws U) x ks (G a)).1=(bj (aN ws U) x ks (G c)).1) (m.toNat+1)
  ⟨0,[],by rw[show x.2+((0:Nat):Int)=x.2 by lia];rfl,f,aF,⟨λa h=>absurd h (GS _),λk v h=>(by cases h),rfl⟩,by lia,rfl⟩ ?_ ?_
 .clear f A;rintro M σ H4 ⟨c,kvs,rfl,f,u,hB,l,hM⟩;obtain⟨b,hb,p⟩:=hat c l;left;refine aP (ag.of (f _ _ s)) (v:=.ref b) (cN (by rw[E9,hb];rfl)) ?_;left;refine aE (ay.of (f _ _ p)) (v:=.int (bj (aN ws U) x ks (G c)).1) rfl ?_;left;refine⟨W,_,rfl,bw.k u (k:=.inl (bj (aN ws U) x ks (G c)).1),?_⟩;cases j:a7 kvs (.inl (bj (aN ws U) x ks (G c)).1)with
  | some v=>
   obtain⟨a,ha,hk,rfl⟩:=hB.only _ _ j;symm;exact⟨a,c,kvs,rfl,f,u,l,ha,j,(Li hk).symm⟩
  | none=>
   refine rd_exb (aI ⟨_,λ_ _ h=>h,?_⟩);have a9:=hB.add j;have aq:c+1<=m.toNat:=a9.few (λS a2 h1 h2 e=>by
    have l1:=(y S (by lia)).1.2.1;have l2:=(y a2 (by lia)).1.2.1;rw[e]at l1;have:x.2+(S:Int)=x.2+(a2:Int):=l1.symm.trans l2;lia) (λS h1=>by
    have:=hin (G S) (y S (by lia)).1.1;exact⟨this.1,by have:=this.2.1;lia⟩)
   left;refine aP (ag.of (f _ _ s)) (v:=.ref b) (cN (by rw[E9,hb];rfl)) ?_;left;refine aE (ay.of (f _ _ p)) (v:=.int (bj (aN ws U) x ks (G c)).1) rfl ?_;refine⟨W,_,rfl,cX.k u (k:=.inl (bj (aN ws U) x ks (G c)).1) (cj (by have:=hB.len;lia)),?_⟩;have e5:=bM (o:=.dK (putK kvs (.inl (bj (aN ws U) x ks (G c)).1) (.int (G c:Int)))) f I;left;have ak:=(y (c+1) (by lia)).2;refine⟨ld,_,rfl,by rw[show x.2+(c:Int)+1=x.2+((c+1:Nat):Int) by lia,<-ak];exact bw.k (k:=.inl (x.2+((c+1:Nat):Int))) (e5 _ _ a4),?_⟩;left;exact⟨_,by lia,c+1,_,by rw[show x.2+((c+1:Nat):Int)=x.2+(c:Int)+1 by lia];rfl,e5,aF,a9,by lia,rfl⟩
 clear f A;rintro σ H4 ⟨a,c,kvs,rfl,f,u,l,am,j,an⟩;obtain⟨b,hb,p⟩:=hat c l;obtain⟨b0,ab⟩:=Dj ok x2 d L am l (y a (by lia)).1 (y c l).1 an (by lia);have b1:=(y c l).1.1;left;refine aP (ag.of (f _ _ s)) (v:=.ref b) (cN (by rw[E9,hb];rfl)) ?_;left;refine aE (ay.of (f _ _ p)) (v:=.int (bj (aN ws U) x ks (G c)).1) rfl ?_;left;refine⟨W,_,rfl,by rw[<-j];exact bw.k (k:=.inl (bj (aN ws U) x ks (G c)).1) u,?_⟩;left;refine gh (ag.of (f _ _ F)) (cE λl1 H5 e5 ac _=>?_);rw[qU (by rw[E7];lia),<-JI]at ac;left;refine gh (ag.of (e5 _ _ (f _ _ F))) (cE λl2 H6 e6 ad _=>?_);rw[EW (by lia) (by rw[E7];lia),<-K9,<-JI]at ad;left;refine aS λt H7 e7 ht _=>?_;exact q t l1 l2 _ _ H7 (e1.trans (e2.trans (e3.trans (f.trans (e5.trans (e6.trans e7)))))) ht ((e6.trans e7) _ _ ac) (e7 _ _ ad) ab
theorem w9{w:Way}(hd:cJ w.deed){n b:Int}:cQ w.deed n=Vn b↔cw w w.room n=true/\b=n+rz w.deed:=by
 constructor
 .intro h;refine⟨?_,kF hd h⟩;refine jj rfl ?_;rcases hd with e|e|e|e
  .exact .inl e
  .refine .inr (.inr (.inl ⟨e,?_⟩));rw[e,iG]at h;by_cases a:0<n
   .exact a
   .rw[F3 a]at h;cases h
  .exact .inr (.inl e)
  .refine .inr (.inr (.inr ⟨e,?_⟩));rw[e,hV]at h;by_cases a:n=0
   .exact a
   .rw[F3 a]at h;cases h
 .rintro⟨h,rfl⟩;rcases ik hd h with⟨e,z⟩|⟨e,z⟩|⟨e,a,z⟩|⟨e,a,z⟩<;>rw[z,e]
  .exact j8 n
  .rw[j9];congr 1;lia
  .rw[iG,F4 a,F6 rfl];rfl
  .rw[hV,F4 a,F6 rfl];congr 1;lia
def mH(ok:∀w∈ws,w.Ok m){a b:Bfs.Pl}(h:aZ ws a b)(e:b.2<=U):∃k,aN ws U a k=some b:=by obtain⟨w,c,ho,rfl⟩:=h;obtain⟨k,f⟩:=Km.mp c;have d:=gD ho;rw[<-d]at ho;refine⟨k,?_⟩;unfold aN;rw[f,FG,F6 d,(w9 (ok w c).dd).mpr ⟨ho,rfl⟩,FG,F6 e]
def wb(ok:∀w∈ws,w.Ok m){a b:Bfs.Pl}(h:aN ws U a k=Vn b):aZ ws a b:=by obtain⟨w,h1,h2,d,e,_⟩:=gI h;have c:=Fh h1;have:=(w9 (ok w c).dd).mp d;rw[h2]at this;exact⟨w,c,this.1,HF e this.2⟩
theorem wc(ok:HOuse m ws)(j:cF m x):aX ws x g↔∃n,Bfs.b6 (aN ws (cP m x g)) x n g:=by
 have m1:=ok.m1;constructor
 .rintro⟨n,h⟩;have f:x.2<=(if g.2>x.2 then g.2 else x.2)/\g.2<=(if g.2>x.2 then g.2 else x.2):=by split<;>constructor<;>lia
  obtain⟨l,o,r⟩:=Bfs.cut (by lia) (λp q h=>by
    obtain⟨w,i,ho,rfl⟩:=h;have r1:=pZ w.deed;have v:=tH w.deed;lia) (λp q c h y h1 h2=>by
    obtain⟨w,i,ho,rfl⟩:=h;refine⟨w,i,jj (gD ho) ?_,HF rfl (by show p.2+rz w.deed-c=p.2-c+rz w.deed;lia)⟩;rcases ik (ok.ok w i).dd ho with⟨e,z⟩|⟨e,z⟩|⟨e,s,z⟩|⟨e,s,z⟩
    .exact .inl e
    .exact .inr (.inl e)
    .exact .inr (.inr (.inl ⟨e,by show 0<p.2-c;lia⟩))
    .omega) (λp q h=>by
    obtain⟨w,i,ho,rfl⟩:=h;exact⟨(ok.ok w i).o0,(ok.ok w i).o1⟩) (Int.le_trans j.2.2.1 f.1) n x g h j.1 j.2.1 f.1 f.2
  have wk:Bfs.Wk (aN ws (cP m x g)) x l g:=r.wk (λa c h=>mH ok.ok h.1 h.2);obtain⟨k,_,u⟩:=Bfs.zt l wk;exact⟨k,u⟩
 .rintro⟨n,d⟩;exact⟨n,d.1.rw.imp λa c h=>wb ok.ok h.choose_spec⟩
theorem iY.gd(h:iY H xs m ws x)(ok:HOuse m ws)(p:cF m x):∀(r:Nat) v,xs[r]?=Vn v->∃b s o a,eP H v b s o a/\Gd b s o a/\(∀n,0<=n->(mem b s o a n=true↔aX ws x ((r:Int),n)))/\∀n,n<0->mem b s o a n=false:=by
 obtain⟨P,q,i,c⟩:=h.near ok p;intro r v u;obtain⟨F,l,d,f,w,hd,g,A,y⟩:=c r v u;have j:d<=P:=Nat.le_of_dvd (by lia) g;refine⟨_,_,_,_,f,⟨yN F l d hd,by lia,by lia⟩,λn c=>?_,λn c=>?_⟩
 .have e:=yK hd w.per n.toNat;rw[Fm c]at e;rw[e,y n.toNat,Fm c]
 .rw[nO _ (by lia),Hr];intro z;have:=iu.mp (Hi.mp z);lia
def kB(ok:HOuse m ws)(b:cF m x)(hno:∀r,0<=r->r<m->¬aX ws x (r,x.2+m)):∀n y,Bfs.Rw (aZ ws) n x y->(0<=y.1/\y.1<m/\0<=y.2)/\y.2<x.2+m:=by
 intro n y h;have m1:=ok.m1;have:∀z:Bfs.Pl,Bfs.Rw (aZ ws) n z y->z=x->(0<=y.1/\y.1<m/\0<=y.2)/\y.2<x.2+m:=by
  intro z h;induction h with
  | nil=>rintro rfl;exact⟨⟨b.1,b.2.1,b.2.2.1⟩,by omega⟩
  | @snoc n z y a c hs f=>
   rintro rfl;obtain⟨⟨j,l,g⟩,hlt⟩:=f (by first|exact c|exact ⟨_,c⟩|skip) rfl;obtain⟨d,e,i,b3,o⟩:=fj ok.ok hs g;refine⟨⟨d,e,i⟩,?_⟩;rcases(show a.2<z.2+m\/a.2=z.2+m by omega)with q|q
   .exact q
   .exact absurd ⟨n+1,by rw[show (a.1,z.2+m)=a from HF rfl q.symm];exact .snoc c hs⟩ (hno a.1 d e)
 exact this x h rfl
theorem C4{l B:Nat}(a:Least F d l)(b:∀i,B<=i->F i=false):∀i,F i=true->i<l:=λi hi=>by refine GX λz=>?_;have h1:=a.pos;have h2:=a.per.times B i (by lia);have c:B<=B*d:=J9 B h1;rw[b (i+B*d) (by lia),hi]at h2;cases h2
inductive pY(K:E3)(vs:List V)(H:Hp)(Q:VK)(E:XK):Prop|mk:∀a m ws c x l xs,vs=[a,.ref c,.ref l]->bt H a m ws->HOuse m ws->ao H c x->cF m x->H l=Vn (.lst xs)->iY H xs m ws x->(∀gl as H',Ext H H'->H' gl=Vn (.lst (A0 V.ref as))->(∀b∈as,∃r:Int,0<=r/\r<m/\ao H' b (r,x.2+m)/\aX ws x (r,x.2+m))->(as=[]->∀r:Nat,r<m.toNat->¬aX ws x ((r:Int),x.2+m))->Q (.ref gl) H')->pY K vs H Q E
theorem zo(T:Bu w mg base):Cal P w K mg base "unbounded_goals" 8 ["house","place","stairs"] (pY K):=by
 refine(dX T.d_unbounded_goals).oS ["house","place","stairs","number"] λe nd H vs Q E h=>?_;obtain⟨Z,m,ws,pa,x,l,xs,rfl,U,ok,B,M,N,O,q⟩:=h;have m2:=ok.m12;have x2:=M.2.2.1;obtain⟨hh,t1,rfl,k1,k2⟩:=id U;have W:=O.1;have C:=O.gd ok M;refine⟨_,(@av _ _ _ _ _ (@aH _ _ 3 _ _ _ _ nd rfl oj (aJ bx (@ax _ _ _ _ _ _ _ (aD K) (pv 1) ae (λ_ _=>rfl)) (@ax _ _ _ _ _ _ _ (aD K) (pv 0) ae (λ_ _=>rfl))) rfl oi)
   (@az _ _ _ (@aK _ _ _ _ (cK ["room","stair"] [3] (nX K rfl T.enumerate_ (af (pv 2) aa rfl)) (λ_=>(dw (n:=2) K rfl (bF (aO (i:=0) (show(["room","stair","number"]:List Vm).Nodup from by decide +kernel) rfl oi oj) (bF (aO (i:=1) (show(["room","stair","number"]:List Vm).Nodup from by decide +kernel) rfl oi oj) df)))) (λ_=>(dI (bT (aG (Ef T) e (af (pv 1) (af (pv 2) aa rfl) rfl))))) (λ_=>(@bH _ _ _ _ _ (af (pv 0) (af (pv 2) aa rfl) rfl))))))),?_⟩
 left;refine aE (ay.of B) (v:=.int x.2) rfl ?_;left;refine aE (ay.of k1) (v:=.int m) rfl ?_;left;refine nN ?_;left;refine n8 (ag.of N) ?_;refine sF (xs:=xs) (λi ys H'=>Ext H H'/\∃as,ys=A0 V.ref as/\as.length<=i/\(∀b∈as,∃r:Int,0<=r/\r<m/\ao H' b (r,x.2+m)/\aX ws x (r,x.2+m))/\(as=[]->∀r:Nat,r<i->¬aX ws x ((r:Int),x.2+m))) (b7 (by lia)) ⟨Ext.rfl' _,[],rfl,Fu _,λb h=>(nomatch h),λ_ r h=>absurd h (GS _)⟩ (λi ys H' h=>⟨ag.of (h.1 _ _ N),by obtain⟨_,as,rfl,h,_⟩:=h;rw[E7];exact h⟩) ?_ ?_
 .rintro i u ys H2 pp H3 R ⟨f,as,rfl,hal,hall,d⟩ g F _;obtain⟨b,s',o,a,G,X,h1,h2⟩:=C i u R;have hi:=(Fg.mp R).1;refine dD (ay.of F) rfl ?_;left;refine⟨u,x.2+m,b,s',o,a,rfl,G.ext (f.trans g),X,_,rfl,?_⟩;cases I:mem b s' o a (x.2+m)with
  | true=>
   right;refine aS λnp H4 S J _=>?_;refine⟨f.trans (g.trans S),as++[np],by rw[Fq];rfl,by rw[Fs];exact IW hal,λc L=>?_,λz=>by simp at z⟩;rcases Fx.mp L with z|z
   .obtain⟨r,j,p,s,y⟩:=hall c z;exact⟨r,j,p,(g.trans S) _ _ s,y⟩
   .rw[Fi.mp z];exact⟨(i:Int),by lia,by lia,J,(h1 _ (by lia)).mp I⟩
  | false=>
   refine aC ?_;refine⟨f.trans g,as,rfl,by lia,λc L=>?_,λz r e=>?_⟩
   .obtain⟨r,j,p,s,y⟩:=hall c L;exact⟨r,j,p,g _ _ s,y⟩
   .rcases(show r<i\/r=i by lia)with w|w
    .exact d z r w
    .subst w;intro e;rw[(h1 _ (by lia)).mpr e]at I;cases I
 .rintro ys H2 Y ⟨f,as,rfl,hal,hall,d⟩ A;refine q Y as _ (f.trans (aY A)) aF (λb hb=>?_) (λz r e=>d z r (by lia));obtain⟨r,j,p,s,y⟩:=hall b hb;exact⟨r,j,p,(aY A) _ _ s,y⟩
inductive uc(K:E3)(vs:List V)(H:Hp)(Q:VK)(E:XK):Prop|mk:∀a m ws b x,vs=[a,.ref b]->bt H a m ws->HOuse m ws->ao H b x->cF m x->fO K->Tbs K H->((∃r:Int,aX ws x (r,x.2+m))->∀t c d as bs H',Et H H'->Tbs K H'->H' t=Vn (.tup [.str "rises",.ref c,.ref d])->H' c=Vn (.lst (aW as))->H' d=Vn (.lst (aW bs))->iU m ws x as bs->Q (.ref t) H')->((∀r:Int,0<=r->r<m->¬aX ws x (r,x.2+m))->∀t l N r U ks H',Et H H'->Tbs K H'->(∀o,H l=Vn o->∃ps,o=.tbl ps)->H' t=Vn (.tup [.str "most",.int N,.ref l])->H' l=Vn (.lst (aW ks))->Bfs.gone (nx:=aN ws U) x ks=Vn (r,N)->(ks.length:Int)<=m*(x.2+m+m*m+1)->(∀y,aX ws x y->y.2<=N)->aX ws x (r,N)->Q (.ref t) H')->uc K vs H Q E
theorem yP(T:Bu w mg base):Cal P w K mg base "greatest" 11 ["house","place"] (uc K):=by
 refine(bZ T.d_greatest).oS ["house","place","stairs","goals","number","rooms"] λa nd H vs Q E h=>?_;obtain⟨vh,m,ws,S,x,rfl,hv,ok,W,q,ak,am,q1,q2⟩:=h;have m1:=ok.m1;have m2:=ok.m12;obtain⟨x0,x1,x2,x3⟩:=id q;refine⟨_,(@av _ _ _ _ _ (@aH _ _ 2 _ _ _ _ nd rfl oi (aG (Bx T) a (af (pv 0) (af (pv 1) aa rfl) rfl)) rfl oi)
   (@av _ _ _ _ _ (@aH _ _ 3 _ _ _ _ nd rfl oi (aG (zo T) a (af (pv 0) (af (pv 1) (af (pv 2) aa rfl) rfl) rfl)) rfl oi)
   (@av _ _ _ _ _ (@bB _ _ _ _ _ _ _ _ (lU K (pv 3) (λ_=>rfl)) (@az _ _ _ (@aK _ _ _ _ (aG (Df T) a (af (pv 0) (af (pv 1) (af (@ax _ _ _ _ _ _ _ (aQ K) (pv 3) ae (λ_ _=>rfl)) aa rfl) rfl) rfl)))) aV)
   (@av _ _ _ _ _ (@aH _ _ 4 _ _ _ _ nd rfl oj (bq (pB K rfl) rfl T.max_ HN (af (cK ["stair"] [] (bP K (pv 2)) (λ_=>(aO (i:=0) (show(["stair"]:List Vm).Nodup from by decide +kernel) rfl oi oj)) (λ_=>(dI (lU K (@ax _ _ _ _ _ _ _ (aD K) (pv 0) ae (λ_ _=>rfl)) (λ_=>rfl)))) (λ_=>(bq (Ak K rfl) rfl T.max_ HN (af (@ax _ _ _ _ _ _ _ (aD K) (pv 0) ae (λ_ _=>rfl)) aa rfl)))) aa rfl)) rfl oi)
   (@av _ _ _ _ _ (fE (i:=5) ["room","stair"] [4] nd rfl oi (nX K rfl T.enumerate_ (af (pv 2) aa rfl)) (λ_=>(dw (n:=2) K rfl (bF (aO (i:=0) (show(["room","stair","number"]:List Vm).Nodup from by decide +kernel) rfl oi oj) (bF (aO (i:=1) (show(["room","stair","number"]:List Vm).Nodup from by decide +kernel) rfl oi oj) df)))) (λ_=>(dI (aT (lZ K) (pv 2) (@ax _ _ _ _ _ _ _ (aD K) (pv 1) ae (λ_ _=>rfl)) (by with_unfolding_all rfl)))) (λ_=>(pv 0)))
   (@az _ _ _ (@aK _ _ _ _ (@bH _ _ _ _ _ (af a8 (af (pv 4) (af (aG (uR T) a (af (pv 0) (af (pv 1) (af (@bH _ _ _ _ _ (af (@ax _ _ _ _ _ _ _ (aQ K) (pv 5) ae (λ_ _=>rfl)) (af (pv 4) aa rfl) rfl)) aa rfl) rfl) rfl)) aa rfl) rfl) rfl))))))))),?_⟩
 left;refine⟨vh,m,ws,S,x,rfl,hv,ok,W,q,ak,am,λl xs H1 X Y bu hl fw=>?_⟩;have Z:=hv.et X;have a0:ao H1 S x:=ao.et X W;left;refine⟨vh,m,ws,S,x,l,xs,rfl,Z,ok,a0,q,hl,fw,λgl as H2 c s hall A=>?_⟩;left;have a3:=Z.ext c;have a4:ao H2 S x:=c _ _ a0;cases as with
 | cons b as=>
  obtain⟨r,r0,r1,hb,a⟩:=hall b Fe;refine⟨true,.inl ⟨_,ag.of s,rfl⟩,aI ?_⟩;left;refine aP (ag.of s) (v:=.ref b) (cN (j:=0) rfl) ?_;left;exact⟨vh,m,ws,S,b,x,(r,x.2+m),rfl,a3,ok,a4,hb,q,rfl,(wc ok q).mp a,λt l1 l2 as bs H3 C ht h1 h2 a5=>q1 ⟨r,a⟩ t l1 l2 as bs H3 (X.trans (c.trans C).et) (Y.ext (c.trans C)) ht h1 h2 a5⟩
 | nil=>
  have hno:∀r:Int,0<=r->r<m->¬aX ws x (r,x.2+m):=λr r0 r1=>by have:=A rfl r.toNat (by lia);rw[Fm r0]at this;exact this
  have hlow:=kB ok q hno;have bv:=fw.1;have a6:∀(r:Nat) (v:V),xs[r]?=Vn v->∃(p:Vb) (l d:Nat) (f ra:Vb) (F:Nat->Bool),v=.ref p/\H1 p=Vn (.tup [.int l,.int d,.ref f,.ref ra])/\H1 f=Vn (.tup ((row F 0 l).map V.int))/\(∀i:Nat,F i=true↔aX ws x ((r:Int),(i:Int)))/\∀i,F i=true->i<l:=λr v hv=>by obtain⟨F,l,d,⟨p,f,ra,rfl,h1,h2,h3⟩,hL,hd,_,G⟩:=fw.2 r v hv;refine⟨p,l,d,f,ra,F,rfl,h1,h2,G,C4 (B:=(x.2+m).toNat) hL λi hi=>?_⟩;rw[Hr];intro z;obtain⟨n,hn⟩:=(G i).mp z;have:=(hlow n _ hn).2;have:(i:Int)<x.2+m:=this;lia
  refine⟨false,.inl ⟨_,ag.of s,rfl⟩,aC ?_⟩;have I:=c _ _ hl;left;refine bQ (ag.of I) ?_;refine dJ (xs:=xs) (λi ys H'=>H'=H2/\∃ns:List Int,ys=ns.map V.int/\ns.length<=i/\(∀N∈ns,∃r:Nat,r<xs.length/\aX ws x ((r:Int),N))/\∀(r:Nat) (k:Nat),r<i->aX ws x ((r:Int),(k:Int))->∃N∈ns,(k:Int)<=N) (b7 (by lia)) ⟨rfl,[],rfl,Fu _,λN h=>(nomatch h),λr k h=>absurd h (GS _)⟩ (λi ys H' hi h=>⟨by rw[h.1];exact ag.of I,by obtain⟨_,ns,rfl,h,_⟩:=h;rw[E7];exact h⟩) ?_ ?_
  .rintro i u ys H3 hu ⟨rfl,ns,rfl,a9,hN,hk⟩;obtain⟨p,lo,d,f,ra,F,rfl,h1,h2,G,J⟩:=a6 i u hu;have hi:=(Fg.mp hu).1;left;refine aE (ay.of (c _ _ h1)) (v:=.ref f) rfl ?_;have hnew:∀k:Nat,aX ws x ((i:Int),(k:Int))->(k:Int)∈row F 0 lo:=λk z=>by have:=(G k).mpr z;exact iu.mpr ⟨by lia,by have:=J k this;lia,by rw[Fl];exact this⟩
   cases hrow:row F 0 lo with
   | nil=>
    refine⟨false,.inr (.inl ⟨_,ay.of (c _ _ h2),by rw[hrow];rfl⟩),aC ?_⟩;refine⟨rfl,ns,rfl,by lia,hN,λr k a z=>?_⟩;rcases(show r<i\/r=i by lia)with w|w
    .exact hk r k w z
    .subst w;have:=hnew k z;rw[hrow]at this;cases this
   | cons y0 c0=>
    refine⟨true,.inr (.inl ⟨_,ay.of (c _ _ h2),by rw[hrow];rfl⟩),aI ?_⟩;left;refine aE (ay.of (c _ _ h1)) (v:=.ref f) rfl ?_;left;refine Ek (ay.of (c _ _ h2)) (by rw[hrow];simp) λM hM an=>?_;obtain⟨M0,M1,M2⟩:=iu.mp hM;refine⟨rfl,ns++[M],by rw[Fq];rfl,by rw[Fs];exact IW a9,λN ap=>?_,λr k a z=>?_⟩
    .rcases Fx.mp ap with w|w
     .exact hN N w
     .rw[Fi.mp w];refine⟨i,hi,?_⟩;have:=(G M.toNat).mp M2;rw[Fm (by lia)]at this;exact this
    .rcases(show r<i\/r=i by lia)with w|w
     .obtain⟨N,a1,a2⟩:=hk r k w z;exact⟨N,FT _ a1,a2⟩
     .subst w;exact⟨M,FR _ (Fi.mpr rfl),an _ (hnew k z)⟩
  rintro ys H3 p9 ⟨rfl,ns,rfl,a9,hN,hk⟩ aq;have C:=aY (o:=.lst (ns.map V.int)) aq;have h9:(upd H3 p9 (.lst (ns.map V.int))) p9=Vn (.lst (ns.map V.int)):=aF;generalize upd H3 p9 (.lst (ns.map V.int))=H4 at C h9 ⊢;left;have ar:((x.1.toNat:Int),(x.2.toNat:Int))=x:=HF (Fm x0) (Fm x2);obtain⟨N0,au,_⟩:=hk x.1.toNat x.2.toNat (by lia) (by rw[ar];exact⟨0,.nil⟩);refine⟨p9,ns,rfl,ag.of h9,He au,λN b0 L=>?_⟩;obtain⟨r9,b1,ab⟩:=hN N b0;obtain⟨n9,b2⟩:=id ab;obtain⟨⟨_,_,ac⟩,ad⟩:=hlow n9 _ b2;have O:0<=N:=ac;have b3:N<x.2+m:=ad;have b4:∀y,aX ws x y->y.2<=N:=λy hy=>by obtain⟨n,hn⟩:=id hy;obtain⟨⟨y0,y1,y2⟩,_⟩:=hlow n y hn;obtain⟨N',a1,a2⟩:=hk y.1.toNat y.2.toNat (by lia) (by rw[Fm y0,Fm y2];exact hy);have:=L N' a1;lia
  have ah:=C _ _ I;left;refine nN ?_;left;refine n8 (ag.of ah) ?_;refine sF (xs:=xs) (λi ys H'=>Ext H4 H'/\∃rs:List Int,ys=rs.map V.int/\rs.length<=i/\(∀r∈rs,aX ws x (r,N))/\(r9<i->rs≠[])) (b7 (by lia)) ⟨Ext.rfl' _,[],rfl,Fu _,λr h=>(nomatch h),λh=>absurd h (GS _)⟩ (λi ys H' h=>⟨ag.of (h.1 _ _ ah),by obtain⟨_,rs,rfl,h,_⟩:=h;rw[E7];exact h⟩) ?_ ?_
  .rintro i u ys H5 pp H6 hu ⟨e5,rs,rfl,hrs,hall,hne⟩ U ba _;obtain⟨p,lo,d,f,ra,F,rfl,h1,h2,G,J⟩:=a6 i u hu;have ai:=c.trans (C.trans (e5.trans U));refine dD (ay.of ba) rfl ?_;left;refine aE (ay.of (ai _ _ h1)) (v:=.ref f) rfl ?_;left;refine mi (.inr (ay.of (ai _ _ h2))) rfl (pH _) ?_;rw[m3];have hc:(row F 0 lo).contains N=true↔aX ws x ((i:Int),N):=by have aj:=G N.toNat;rw[Fm O]at aj;rw[Hi,iu,<-aj];exact⟨λz=>z.2.2,λz=>⟨by omega,by have:=J _ z;omega,z⟩⟩
   cases hb:(row F 0 lo).contains N with
   | true=>
    exfalso;left;refine⟨e5.trans U,rs++[(i:Int)],by rw[Fq];rfl,by rw[Fs];exact IW hrs,λr a=>?_,λ_ z=>by simp at z⟩;rcases Fx.mp a with w|w
    .exact hall r w
    .rw[Fi.mp w];exact hc.mp hb
   | false=>
    symm;refine⟨e5.trans U,rs,rfl,by omega,hall,λa=>?_⟩;rcases(show r9<i\/r9=i by omega)with w|w
    .exact hne w
    .subst w;rw[hc.mpr ab]at hb;cases hb
  rintro ys H5 p8 ⟨e5,rs,rfl,hrs,R,hne⟩ bb;have U:=e5.trans (aY (o:=.lst (rs.map V.int)) bb);have h8:(upd H5 p8 (.lst (rs.map V.int))) p8=Vn (.lst (rs.map V.int)):=aF;generalize upd H5 p8 (.lst (rs.map V.int))=H6 at U h8 ⊢;obtain⟨r,rs,rfl⟩:=Jo (hne b1);have a:=R r Fe;left;refine aP (ag.of h8) (v:=.int r) (cN (j:=0) rfl) ?_;left;refine aS λga H7 e7 bc _=>?_;have e:=C.trans (U.trans e7);obtain⟨nD,hD⟩:=(wc ok q).mp a;left;refine⟨vh,m,ws,S,ga,x,(r,N),rfl,a3.ext e,ok,e _ _ a4,bc,q,by show N<=1012;omega,λhno=>absurd hD (hno _),λn wl H8 ks hD hn e8 be bg c1 bi=>?_⟩;left;refine aS λt H9 e9 ht _=>?_;have bm:0<=m*m:=FE (by omega) (by omega);have bl:=mZ (m:=m) (x:=x) (g:=(r,N)) (by omega);have c2:cP m x (r,N)<=x.2+m+m*m:=by show(if N>x.2 then N else x.2)+m*m<=_;split<;>omega
  have bn:(n:Int)<=m*(cP m x (r,N)+1)-1:=Bfs.b6.few (by omega) (by omega) hD λk z hz=>pw ok ⟨x0,x1,x2,bl.1⟩ hz;have hmul:m*(cP m x (r,N)+1)<=m*(x.2+m+m*m+1):=JQ (by omega) (by omega);refine q2 hno t wl N r _ ks H9 (X.trans (c.trans (e.trans (e8.trans e9))).et) (Y.ext (c.trans (e.trans (e8.trans e9)))) (λo ho=>?_) ht (e9 _ _ bg) bi (by omega) b4 a;refine GX λz=>?_;have:=e _ _ (c _ _ (X _ _ ho (λps w=>z ⟨ps,w⟩)));rw[be]at this;cases this
def hide(H:Hp)(f:Vb):Hp:=λa=>if a=f then Vo else H a
def mM(H)(f):Ext (hide H f) H:=λb o h=>by
 unfold hide at h;split at h
 .cases h
 .exact h
def ja(ne:a≠f)(h:H a=Vn o):hide H f a=Vn o:=by unfold hide;rw[F5 ne];exact h
def oQ(H)(f):hide H f f=Vo:=by unfold hide;rw[F6 rfl]
def uZ(h:H a=Vo):hide H f a=Vo:=by
 unfold hide;split
 .rfl
 .exact h
abbrev uI(kv:List Key×V)(e:Bfs.eI):Prop:=kv.1=aA e.1/\kv.2=.int ((e.2:Nat):Int)
structure LC(H:Hp)(f la:Vb)(fl:List Bfs.eI)(lt:List Bfs.Pl):Prop where
 d:∃kvs,H f=Vn (.dT kvs)/\Paired uI kvs fl
 r:∃as,H la=Vn (.lst (A0 V.ref as))/\Paired (ao H) as lt
def LC.step(h:LC H f la fl lt)(e:Ext H H1):LC H1 f la fl lt:=by obtain⟨⟨kvs,a,b⟩,as,c,d⟩:=h;exact⟨⟨kvs,e _ _ a,b⟩,as,e _ _ c,Paired.mapP d λ_ _ z=>e _ _ z⟩
def LC.push(h:LC H f la fl lt)(m:y∉fl.map (·.1))(c:ao H th y):
  ∃kvs,H f=Vn (.dT kvs)/\kvs.length=fl.length/\∃as,upd H f (.dT (putK kvs (aA y) (.int ((d:Nat):Int)))) la=Vn (.lst (A0 V.ref as))/\as.length=lt.length ∧
   LC (upd (upd H f (.dT (putK kvs (aA y) (.int ((d:Nat):Int))))) la (.lst (A0 V.ref as++[.ref th]))) f la (fl++[(y,d)]) (lt++[y]):=by
 obtain⟨⟨kvs,b,e⟩,as,g,i⟩:=h;have j:∀xs,(HO.dT kvs)≠.tup xs:=λxs z=>by cases z
 have l:∀xs,(HO.lst (A0 V.ref as))≠.tup xs:=λxs z=>by cases z
 have ne:la≠f:=bp g b (by intro z;cases z);have a:upd H f (.dT (putK kvs (aA y) (.int ((d:Nat):Int)))) la=Vn (.lst (A0 V.ref as)):=by rw[aB ne];exact g
 refine⟨kvs,b,F9 e,as,a,F9 i,⟨kvs++[(aA y,.int (d:Int))],?_,?_⟩,as++[th],?_,?_⟩
 .rw[aB ne.symm,aF,iw _ (eR (λ_ _ z=>z.1) e m)]
 .exact Gz e ⟨rfl,rfl⟩
 .rw[aF,Fq];rfl
 .exact Gz (Paired.mapP i λ_ _ z=>ao.put a l (ao.put b j z)) (ao.put a l (ao.put b j c))
def kZ(fl:List Bfs.eI)(wt:List Bfs.Pl):Nat:=(24013-fl.length)+(if wt=[]then 0 else 1)
def tI(H0:Hp)(ws:List Way)(m U:Int)(x:Bfs.Pl)(v:V)(b f:Vb)(M:Nat)(σ:St)(H':Hp):Prop:=
 ∃fl wt L a k1 k2 k3 c,σ=[Vn v,Vn (.ref b),Vn (.int U),Vn (.ref f),Vn (.ref a),k1,k2,k3,c]/\Ext H0 H'/\LC H' f a fl wt/\Bfs.LI (nx:=aN ws U) (s:=x) fl wt L/\(∀e∈fl,bC m U e.1)/\kZ fl wt=M
def zT(H0:Hp)(ws:List Way)(U:Int)(x:Bfs.Pl)(v:V)(b f:Vb)(σ:St)(H':Hp):Prop:=
 ∃fl L a k1 k2 k3 c,σ=[Vn v,Vn (.ref b),Vn (.int U),Vn (.ref f),Vn (.ref a),k1,k2,k3,c]/\Ext H0 H'/\LC H' f a fl []/\Bfs.LI (nx:=aN ws U) (s:=x) fl [] L
def xq(ws:List Way)(U:Int)(wt:List Bfs.Pl)(i:Nat)(y:Bfs.Pl):Prop:=∃z∈wt.take i,∃k,aN ws U z k=Vn y
def pC(ws:List Way)(U:Int)(wt:List Bfs.Pl)(i:Nat)(z:Bfs.Pl)(j:Nat)(y:Bfs.Pl):Prop:=xq ws U wt i y\/∃t∈(cO ws z.1 z.2 ws.length).take j,y=(t.2.1,t.2.2)/\t.2.2<=U
def En(H0 G:Hp)(ws:List Way)(m U:Int)(x:Bfs.Pl)(v:V)(b f c la:Vb)(fl:List Bfs.eI)(wt:List Bfs.Pl)(L i:Nat)(σ:St)(H':Hp):Prop:=
 ∃a lt k2 k3 d,σ=[Vn v,Vn (.ref b),Vn (.int U),Vn (.ref f),Vn (.ref c),Vn (.ref la),k2,k3,d]/\Ext H0 H'/\Ext G H'/\LC H' f la a lt/\Bfs.LF (nx:=aN ws U) (s:=x) fl a wt lt L (xq ws U wt i)/\(∀e∈a,bC m U e.1)/\a.length=fl.length+lt.length
def B9(H0 G c:Hp)(ws:List Way)(m U:Int)(x:Bfs.Pl)(v:V)(d f g la b:Vb)(z:Bfs.Pl)(fl:List Bfs.eI)(wt:List Bfs.Pl)(L i j:Nat)(σ:St)(H':Hp):Prop:=
 ∃a lt k3 h,σ=[Vn v,Vn (.ref d),Vn (.int U),Vn (.ref f),Vn (.ref g),Vn (.ref la),Vn (.ref b),k3,h]/\Ext H0 H'/\Ext G H'/\Ext c H'/\LC H' f la a lt/\Bfs.LF (nx:=aN ws U) (s:=x) fl a wt lt L (pC ws U wt i z j)/\(∀e∈a,bC m U e.1)/\a.length=fl.length+lt.length
def oF{fl:List Bfs.eI}(a:m<=12)(b:U<=2000)(c:(fl.map (·.1)).Nodup)(h:∀e∈fl,bC m U e.1):fl.length<=24012:=by
 have:=bC.few a b c (λy d=>by obtain⟨e,f,rfl⟩:=F7.mp d;exact h e f)
 rwa [E7]at this
inductive uA(K:E3)(vs:List V)(H:Hp)(Q:VK)(E:XK):Prop|mk:∀v m ws a x U,vs=[v,.ref a,.int U]->bt H v m ws->HOuse m ws->ao H a x->bC m U x->U<=2000->(∀f H' kvs fl,Ext H H'->H f=Vo->H' f=Vn (.dT kvs)->Paired uI kvs fl->(fl.map (·.1)).Nodup->(∀e∈fl,Bfs.b6 (aN ws U) x e.2 e.1)->(∀n y,Bfs.Wk (aN ws U) x n y->y∈fl.map (·.1))->Q (.ref f) H')->uA K vs H Q E
theorem Ax(T:Bu w mg base):Cal P w K mg base "_law_come" 2 ["_law_house_here","_law_place","_law_top"] (uA K):=by
 refine(dX T.d__law_come).oS ["_law_house_here","_law_place","_law_top","_law_found","_law_waiting","_law_later","_law_here","_law_k","_law_there"] λhr nd H vs Q E h=>?_;obtain⟨v,m,ws,pa,x,U,rfl,hv,ok,hx,ix,hU,q⟩:=h;have m2:=ok.m12;have d8:=ok.few;refine⟨_,(av (aH (i:=3) nd rfl oi (oZ (bo hr) (pv 1) ae))
   (av (aH (i:=4) nd rfl oi (bI (aw (pv 1) aa)))
   (av (fi F8 (aT fF (bq (cn K) rfl T.len_ GI (aw (pv 4) aa)) ae (aR _)) (av (aH (i:=5) nd rfl oi (bI aa))
   (av (bJ F8 rfl (bP K (pv 4)) (aO (i:=6) nd rfl oi) (az (bJ F8 rfl (bP K (aG (jr T) hr (aw (pv 0) (aw (pv 6) aa)))) (dw (n:=2) K rfl (bF (aO (i:=7) nd rfl oi) (bF (aO (i:=8) nd rfl oi) df))) (az (cL (PW.pt (gZ (aT g8 (ax (aD K) (pv 8) ae (λ_ _=>rfl)) (pv 2) (aR _)) (ir (fY (gN (bo hr) (pv 8) (pv 3)) (by with_unfolding_all rfl))))) (av (fg (bo hr) (pv 3) (pv 8) (aJ bx (cz (bo hr) (pv 3) (pv 6) (λ_ _=>rfl)) ae) rfl)
   (az (bA (bO K Ff Fv Fw bV (pv 5) (aw (pv 8) aa))))) aV)))))
   (az (aH (i:=4) nd rfl oi (pv 5))))))
   (az (aK (pv 3)))))),?_⟩
 left;refine λf hfn=>?_;left;refine⟨pa,aA x,rfl,(aY hfn) _ _ hx,aF,?_⟩;left;refine aS λwa H3 e3 C cm=>?_;left;have au:Ext H (upd (upd H f (.dT [])) f (.dT [(aA x,.int 0)])):=λb o hb=>by rw[aB (cG hb hfn),aB (cG hb hfn)];exact hb
 have eH3:=au.trans e3;have b0:LC H3 f wa [(x,0)] [x]:=⟨⟨_,e3 _ _ aF,.cons ⟨rfl,rfl⟩ .nil⟩,[pa],C,.cons (eH3 _ _ hx) .nil⟩;refine eV (tI H ws m U x v pa f) (zT H ws U x v pa f) (kZ [(x,0)] [x]) ⟨[(x,0)],[x],0,wa,_,_,_,_,rfl,eH3,b0,Bfs.LI.begin,?_,rfl⟩ ?_ ?_
 .intro e he;rw[Fi]at he;subst he;exact ix
 .clear b0 eH3 au C cm e3 wa;rintro M σ H4 ⟨fl,wt,L,wa,k1,k2,k3,k4,rfl,e4,lc,li,hin,hM⟩;obtain⟨as,C,ac⟩:=lc.r;have hal:=F9 ac;left;refine dE (ag.of C) ?_;left;rw[E7,hal];by_cases ad:wt=[]
  .subst ad;refine aC ?_;exact⟨fl,L,wa,_,_,_,_,rfl,e4,lc,li⟩
  .rw[F4 (show(0:Int)<((wt.length:Nat):Int) by have:=K6.mpr ad;lia)];refine aI ?_;refine⟨λco H'=>∃m',m'<M/\tI H ws m U x v pa f m' co H',λ_ _ h=>h,?_⟩;left;refine aS λla H5 e5 b1 p=>?_;left;refine bQ (ag.of (e5 _ _ C)) ?_;obtain⟨a5,X,b2⟩:=lc.d;have wf:wa≠f:=bp C X (by intro z;cases z);have dc:la≠f:=λz=>by rw[z]at p;rw[X]at p;cases p
   have ah:Ext (hide H4 f) H5:=(mM _ _).trans e5;have b3:hide H4 f wa=Vn (.lst (A0 V.ref as)):=ja wf C;have b4:Paired (ao (hide H4 f)) as wt:=Paired.mapP ac λa y z=>ja (bp z X (by intro z;cases z)) z;have ba:=oQ H4 f;have bb:hide H4 f la=Vo:=uZ p;have cp:H la=Vo:=e4.none p;have bc:LC H5 f la fl []:=⟨⟨a5,e5 _ _ X,b2⟩,[],b1,.nil⟩;have be:=e4.trans e5;clear ac C e5 p b1 b2 X lc a5;generalize hide H4 f=G at ah b3 b4 ba bb;clear e4 H4;refine forL (xs:=A0 V.ref as) (En H G ws m U x v pa f wa la fl wt L) ?_ (λi σ H' _ h=>?_) ?_ ?_
   .refine⟨fl,[],_,_,_,rfl,be,ah,bc,li.start.more (λy N=>?_),hin,by simp⟩;obtain⟨z,hz,_⟩:=N;simp at hz
   .obtain⟨_,_,_,_,_,_,_,eG,_⟩:=h;exact ag.of (eG _ _ b3)
   .rintro i u σ H6 hu ⟨B,lt,c2,c3,c4,rfl,e6,a4,O,lf,F,g⟩;rw[E9]at hu;obtain⟨b,hb,rfl⟩:=Fj.mp hu;obtain⟨z,hz,cr⟩:=bU b4 hb;have ai:z∈wt:=Fh hz;have aj:ao H6 b z:=a4 _ _ cr;clear bc ah be H5;left;refine⟨v,m,ws,b,z.1,z.2,rfl,hv.ext e6,ok,aj,λbl H7 cs e7 Y bg ak=>?_⟩;have hcl:=F9 ak;have bi:=O.step e7;obtain⟨d9,am,_⟩:=O.d;obtain⟨dd,an,_⟩:=O.r;have bm:=e7 _ _ am;have bn:=e7 _ _ an;have bu:bl≠f:=λz=>by rw[z,am]at Y;cases Y
    have bv:bl≠la:=λz=>by rw[z,an]at Y;cases Y
    have eG2:Ext (hide (hide H7 f) la) H7:=(mM _ _).trans (mM _ _);have Z:hide (hide H7 f) la bl=Vn (.lst (A0 V.ref cs)):=ja bv (ja bu bg);have J:∀a xs,H7 a=Vn (.tup xs)->hide (hide H7 f) la a=Vn (.tup xs):=λa xs h=>ja (bp h bn (by intro z;cases z)) (ja (bp h bm (by intro z;cases z)) h);have a6:Paired (dA (hide (hide H7 f) la)) cs (cO ws z.1 z.2 ws.length):=Paired.mapP ak λc t h=>by obtain⟨d,h1,h2⟩:=h;exact⟨d,J _ _ h1,J _ _ h2⟩
    have a9:hide (hide H7 f) la f=Vo:=uZ (oQ _ _);have ab:hide (hide H7 f) la la=Vo:=oQ _ _;have c0:ao (hide (hide H7 f) la) b z:=J _ _ (e7 _ _ aj);have c1:=e6.trans e7;have c5:=a4.trans e7;clear J bn bm an am bg ak Y e7 O a4 e6 aj bu bv;generalize hide (hide H7 f) la=G2 at eG2 Z a6 a9 ab c0;refine bQ (ag.of (eG2 _ _ Z)) ?_;refine forL (xs:=A0 V.ref cs) (B9 H G G2 ws m U x v pa f wa la b z fl wt L i) ?_ (λj σ H' _ h=>?_) ?_ ?_
    .refine⟨B,lt,_,_,rfl,c1,c5,eG2,bi,lf.more (λy N=>?_),F,g⟩;rcases N with h|⟨t,ht,_⟩
     .exact .inl h
     .simp at ht
    .obtain⟨_,_,_,_,_,_,_,e2,_⟩:=h;exact ag.of (e2 _ _ Z)
    .clear bi lf F g c5 c1;rintro j u σ H8 hu ⟨B,lt,d3,d4,rfl,a0,a1,R,S,lf,A,l⟩;rw[E9]at hu;obtain⟨c,hc,rfl⟩:=Fj.mp hu;obtain⟨t,ht,ct⟩:=bU a6 hc;have cu:=Fh ht;obtain⟨d,cv,c9⟩:=ct.ext R;have ap:=oF m2 hU lf.nd A;have a2:ao H8 d (t.2.1,t.2.2):=c9;have I:∀y,pC ws U wt i z (j+1) y->pC ws U wt i z j y\/(y=(t.2.1,t.2.2)/\t.2.2<=U):=by
      rintro y (h|⟨t',ca,h1,h2⟩)
      .exact .inl (.inl h)
      .rw[Hu,ht]at ca;rcases Fx.mp ca with w|w
       .exact .inl (.inr ⟨t',w,h1,h2⟩)
       .have:t'=t:=by simpa using w
        subst this;exact .inr ⟨h1,h2⟩
     refine dD (ay.of cv) rfl ?_;left;refine cC ?_;left;refine aE (ay.of c9) (v:=.int t.2.2) rfl ?_;left;by_cases hle:t.2.2<=U
     rotate_left
     .rw[F3 hle];refine aC ?_;nofun;refine⟨B,lt,_,_,rfl,a0,a1,R,S,lf.more (λy N=>?_),A,l⟩;rcases I y N with h|⟨_,h⟩
      .exact .inl h
      .exact absurd h hle
     .rw[F4 hle];right;obtain⟨kvs,cc,aq⟩:=S.d;refine⟨f,_,rfl,bw.t cc (k:=aA (t.2.1,t.2.2)) a2,?_⟩;by_cases hnew:(t.2.1,t.2.2)∈B.map (·.1)
      .obtain⟨e,he,d0⟩:=F7.mp hnew;obtain⟨v1,W,_⟩:=ef (λ_ _ z=>z.1) aq lf.nd he;rw[d0]at W;rw[W];symm;left;refine⟨B,lt,_,_,rfl,a0,a1,R,S,lf.more (λy N=>?_),A,l⟩;rcases I y N with h|⟨h,_⟩
       .exact .inl h
       .rw[h];exact .inr hnew
      .rw[eR (λ_ _ z=>z.1) aq hnew];exfalso;obtain⟨kk,_,hkk⟩:=BN cu hle;obtain⟨ez,ar,a3⟩:=F7.mp (li.al L z (Fu _) (li.wt z ai).1);have cd:ez.2=L:=Bfs.b6.uniq (nx:=aN ws U) (s:=x) (li.ds ez ar).1 (by rw[a3];exact li.wt z ai);obtain⟨v1,W,ce⟩:=ef (λ_ _ z=>z.1) aq lf.nd (lf.sub ez ar);rw[a3]at W;obtain rfl:v1=.int ((L:Nat):Int):=by rw[<-cd];exact ce.2
       have cf:bC m U (t.2.1,t.2.2):=k8 ok (by have:=hin ez ar;rw[a3]at this;exact this.2.2.1) hkk;left;refine⟨f,_,rfl,by rw[<-W];exact bw.t cc (k:=aA z) (R _ _ c0),?_⟩;clear W ce;left;obtain⟨da,d1,dg,dk,ch,db,d2⟩:=S.push (d:=L+1) hnew a2;refine⟨f,_,rfl,cX.t d1 (k:=aA (t.2.1,t.2.2)) a2 (cj (by lia)),?_⟩;left;refine⟨cg (ag.of ch),?_⟩;left;refine bR ch (cj (by rw[E7];lia)) ?_;have d5:∀e∈B++[((t.2.1,t.2.2),L+1)],bC m U e.1:=λe he=>by
        rcases Fx.mp he with w|w
        .exact A e w
        .rw[Fi]at w;subst w;exact cf
       left;refine⟨_,_,_,_,rfl,bM (bM a0 hfn) cp,bM (bM a1 ba) bb,bM (bM R a9) ab,d2,lf.add li ai hkk hnew (λy N=>?_),d5,by rw[Fs,Fs,l];simp;lia⟩;rcases I y N with h|⟨h,_⟩
       .exact .inl h
       .exact .inr h
    .rintro σ H8 ⟨d6,lt2,d3,d4,rfl,a0,a1,R,S,ci,A,l⟩;rw[E7,hcl]at ci;refine⟨d6,lt2,_,_,_,rfl,a0,a1,S,ci.more (λy N=>.inl ?_),A,l⟩;obtain⟨z',cl,k,hk⟩:=N;rw[Hu,hz]at cl;rcases Fx.mp cl with w|w
     .exact .inl ⟨z',w,k,hk⟩
     .have:z'=z:=by simpa using w
      subst this;obtain⟨h1,h2⟩:=qL hk;exact .inr ⟨_,by rw[FD];exact h1,rfl,h2⟩
   .rintro σ H6 ⟨B,lt,c2,c3,c4,rfl,e6,a4,O,lf,F,g⟩;rw[E7,hal]at lf;have d7:=lf.next li (λy N k z hz=>⟨y,by rw[FD];exact N,k,hz⟩);have ap:=oF m2 hU lf.nd F;left;refine⟨kZ B lt,?_,B,lt,L+1,la,_,_,_,_,rfl,e6,O,d7,F,rfl⟩;rw[<-hM];unfold kZ;rw[F5 ad];cases lt with
    | nil=>rw[F6 rfl,g];simp
    | cons a r=>rw[F5 (by simp),g];rw[g]at ap;rw[FC]at ap ⊢;lia
 .rintro σ H4 ⟨fl,L,wa,k1,k2,k3,k4,rfl,e4,lc,li⟩;obtain⟨kvs,hd,pk⟩:=lc.d;left;exact q f H4 kvs fl e4 hfn hd pk li.nd (λe he=>(li.ds e he).1) li.end_
def eT(ws:List Way)(z:Bfs.Pl)(k:Nat):Bool:=(ws[k]?).any λw=>cw w z.1 z.2
def gF(ws:List Way)(z:Bfs.Pl)(k:Nat):Bfs.Pl:=((ws[k]?).map λw=>(w.other,z.2+rz w.deed)).getD z
def eZ(ws:List Way)(z:Bfs.Pl):List Nat:=(cB ws z.1 ws.length).filter (eT ws z)
def aL(ws:List Way)(z:Bfs.Pl):List (Nat×Bfs.Pl):=(eZ ws z).map λk=>(k,gF ws z k)
def mw(h:k∈eZ ws z):∃w,ws[k]?=Vn w/\cw w z.1 z.2=true/\gF ws z k=(w.other,z.2+rz w.deed):=by obtain⟨h1,h2⟩:=GC.mp h;obtain⟨w,a,_⟩:=nj h1;unfold eT at h2;rw[a]at h2;exact⟨w,a,h2,by unfold gF;rw[a];rfl⟩
def yx{w:Way}(a:ws[k]?=Vn w)(ho:cw w z.1 z.2=true):k∈eZ ws z:=by refine GC.mpr ⟨?_,by unfold eT;rw[a];exact ho⟩;refine GC.mpr ⟨GK.mpr (Fg.mp a).1,?_⟩;rw[a];exact F4 (gD ho)
def dM:(∃k,(k,y)∈aL ws z)↔aZ ws z y:=by
 constructor
 .rintro⟨k,h⟩;obtain⟨j,c,e⟩:=F7.mp h;cases e;obtain⟨w,a,ho,e⟩:=mw c;exact⟨w,Fh a,ho,e⟩
 .rintro⟨w,a,ho,e⟩;obtain⟨k,b⟩:=FX a;refine⟨k,F7.mpr ⟨k,yx b ho,?_⟩⟩;unfold gF;rw[b,e];rfl
def uE:(eZ ws z).length<=ws.length:=FI (GF _ _) (FI (GF _ _) (by rw[G6];exact Fu _))
def iS:(aL ws z).length<=ws.length:=by unfold aL;rw[E7];exact uE
abbrev dN(H:Hp)(a:Vb)(e:Nat×Bfs.Pl):Prop:=∃b,H a=Vn (.tup [.int (e.1:Int),.ref b])/\ao H b e.2
def dN.ext(h:Ext H H')(s:dN H a e):dN H' a e:=let ⟨b,h1,h2⟩:=s;⟨b,h _ _ h1,h _ _ h2⟩
theorem dN.put{H:Hp}{c:Vb}{u u':HO}(d:H c=Vn u)(f:∀xs,u≠.tup xs){a:Vb}{e:Nat×Bfs.Pl}(s:dN H a e):dN (upd H c u') a e:=by obtain⟨b,h1,h2⟩:=s;exact⟨b,by rw[aB (bp h1 d (λz=>f _ z.symm))];exact h1,ao.put d f h2⟩
def dj(ws:List Way)(H:Hp)(kv:List Key×V)(z:Bfs.Pl):Prop:=kv.1=aA z/\∃l as,kv.2=.ref l/\H l=Vn (.lst (A0 V.ref as))/\Paired (dN H) as (aL ws z)
theorem dj.ext{ws:List Way}{H H':Hp}(h:Ext H H'){kv:List Key×V}{z:Bfs.Pl}(s:dj ws H kv z):dj ws H' kv z:=by obtain⟨h1,l,as,h2,a,b⟩:=s;exact⟨h1,l,as,h2,h _ _ a,Paired.mapP b λ_ _ z=>z.ext h⟩
theorem dj.put{ws:List Way}{H:Hp}{c:Vb}{u u':HO}(a:H c=Vn u)(b:∀xs,u≠.tup xs){kv:List Key×V}{z:Bfs.Pl}(d:kv.2≠.ref c)(s:dj ws H kv z):dj ws (upd H c u') kv z:=by obtain⟨h1,l,as,h2,f,g⟩:=s;exact⟨h1,l,as,h2,by rw[aB (λe=>d (by rw[h2,e]))];exact f,Paired.mapP g λ_ _ z=>z.put a b⟩
def qg{u u':HO}(d:H c=Vn u)(e:∀xs,u≠.tup xs)(h:Paired (dj ws H) kvs qs)(b:∀kv∈kvs,kv.2≠.ref c):Paired (dj ws (upd H c u')) kvs qs:=by
 induction h with
 | nil=>exact .nil
 | cons a _ f=>exact .cons (a.put d e (b _ Fe)) (f λkv h=>b kv (Fb _ h))
structure SS(ws:List Way)(H0 H:Hp)(f rw:Vb)(qs R:List Bfs.Pl):Prop where
 ext:Ext H0 H
 fn:H0 f=Vo
 rn:H0 rw=Vo
 d:∃kvs,H f=Vn (.dT kvs)/\Paired (dj ws H) kvs qs/\∀kv∈kvs,kv.2≠.ref rw/\kv.2≠.ref f
 r:∃as,H rw=Vn (.lst (A0 V.ref as))/\Paired (ao H) as R
def SS.step(h:SS ws H0 H f rw qs R)(e:Ext H H1):SS ws H0 H1 f rw qs R:=by obtain⟨h1,h2,b,⟨kvs,c,d,g⟩,as,i,j⟩:=h;exact⟨h1.trans e,h2,b,⟨kvs,e _ _ c,Paired.mapP d λ_ _ z=>z.ext e,g⟩,as,e _ _ i,bz (λa x h=>e _ _ h) j⟩
def dF:∀xs,(HO.dT kvs)≠.tup xs:=λxs z=>by cases z
def dh:∀xs,(HO.lst ys)≠.tup xs:=λxs z=>by cases z
def SS.row(h:SS ws H0 H f rw qs R)(g:Paired (ao H) as' R'):SS ws H0 (upd H rw (.lst (A0 V.ref as'))) f rw qs R':=by obtain⟨h1,h2,c,⟨kvs,d,i,e⟩,as,b,l⟩:=h;have ne:f≠rw:=bp d b (by intro z;cases z);exact⟨bM h1 c,h2,c,⟨kvs,by rw[aB ne];exact d,qg b dh i λkv j=>(e kv j).1,e⟩,as',aF,bz (λa x z=>ao.put b dh z) g⟩
theorem SS.put{ws:List Way}{H0 H:Hp}{f rw l:Vb}{qs R:List Bfs.Pl}{z:Bfs.Pl}{as':List Vb}(h:SS ws H0 H f rw qs R)(n:z∉qs)(g:H l=Vn (.lst (A0 V.ref as')))(o:Paired (dN H) as' (aL ws z))(nl:l≠rw):
  ∃kvs,H f=Vn (.dT kvs)/\kvs.length=qs.length/\SS ws H0 (upd H f (.dT (putK kvs (aA z) (.ref l)))) f rw (qs++[z]) R:=by
 obtain⟨h1,h2,p,⟨kvs,b,c,i⟩,as,j,q⟩:=h;have ne:rw≠f:=bp j b (by intro z;cases z);have m:l≠f:=bp g b (by intro z;cases z);have kn:a7 kvs (aA z)=Vo:=eR (key:=λz=>z) (λ_ _ z=>z.1) c (by simpa using n);refine⟨kvs,b,F9 c,bM h1 h2,h2,p,⟨kvs++[(aA z,.ref l)],by rw[aF,iw _ kn],?_,λkv d=>?_⟩,as,by rw[aB ne];exact j,bz (λa x z=>ao.put b dF z) q⟩
 .refine Gz (qg b dF c λkv d=>(i kv d).2) ⟨rfl,l,as',rfl,by rw[aB m];exact g,Paired.mapP o λ_ _ z=>z.put b dF⟩
 .rcases Fx.mp d with h|h
  .exact i kv h
  .rw[Fi.mp h];exact⟨λe=>nl (by cases e;rfl),λe=>m (by cases e;rfl)⟩
def y7{F:α->β->Prop}{as cs:List α}{xs ys:List β}(h:Paired F as xs)(g:Paired F cs ys):Paired F (as++cs) (xs++ys):=by
 induction h with
 | nil=>exact g
 | cons a _ b=>exact .cons a b
def mV(h:Paired (ao H) as (R++[z])):∃as' b,as=as'++[b]/\Paired (ao H) as' R/\ao H b z:=by
 induction R generalizing as with
 | nil=>
  cases h with
  | cons a t=>
   cases t;exact⟨[],_,rfl,.nil,a⟩
 | cons r R c=>
  cases h with
  | cons a t=>
   obtain⟨as',b,rfl,h1,h2⟩:=c t;exact⟨_::as',b,rfl,.cons a h1,h2⟩
structure SM(m T:Int)(ws:List Way)(x:Bfs.Pl)(qs R:List Bfs.Pl):Prop where
 nd:qs.Nodup
 wk:∀z∈qs++R,aX ws x z
 ins:∀z∈qs++R,bC m T z
 has:x∈qs++R
 cl:∀z∈qs,∀y,aZ ws z y->y∈qs++R
def SM.done(h:SM m T ws x qs []):∀z,z∈qs↔aX ws x z:=λz=>by
 have wk:=h.wk;have c:=h.has;have cl:=h.cl;rw[GJ]at wk c cl;refine⟨wk z,λ⟨n,d⟩=>?_⟩;have go:∀(n:Nat) (a b:Bfs.Pl),Bfs.Rw (aZ ws) n a b->a∈qs->b∈qs:=by
  intro n a b e;induction e with
  | nil=>exact λh=>h
  | snoc _ hs f=>exact λha=>cl _ (f ha) _ hs
 exact go n x z d c
def SM.skip(h:SM m T ws x qs (R++[z]))(c:z∈qs):SM m T ws x qs R:=by
 have cut:∀y,y∈qs++(R++[z])->y∈qs++R:=λy b=>by
  rcases Fx.mp b with a|a
  .exact FT _ a
  .rcases Fx.mp a with a|a
   .exact FR _ a
   .rw[Fi.mp a];exact FT _ c
 have back:∀y,y∈qs++R->y∈qs++(R++[z]):=λy b=>by rw[<-Gm];exact FT _ b
 exact⟨h.nd,λy b=>h.wk y (back y b),λy b=>h.ins y (back y b),cut _ h.has,λy b u d=>cut _ (h.cl y b u d)⟩
def SM.new(h:SM m T ws x qs (R++[z]))(g:z∉qs)(i:∀y,aX ws x y->bC m T y):SM m T ws x (qs++[z]) (R++(aL ws z).map (·.2)):=by
 have d:=h.wk z (by simp);have low:∀y,y∈qs++(R++[z])->y∈(qs++[z])++(R++(aL ws z).map (·.2)):=λy b=>by
  rcases Fx.mp b with a|a
  .exact FT _ (FT _ a)
  .rcases Fx.mp a with a|a
   .exact FR _ (FT _ a)
   .exact FT _ (FR _ a)
 have all:∀y,y∈(qs++[z])++(R++(aL ws z).map (·.2))->aX ws x y:=λy b=>by
  rcases Fx.mp b with a|a
  .rcases Fx.mp a with a|a
   .exact h.wk y (FT _ a)
   .rw[Fi.mp a];exact d
  .rcases Fx.mp a with a|a
   .exact h.wk y (FR _ (FT _ a))
   .obtain⟨⟨k,o⟩,j,rfl⟩:=F7.mp a;exact d.trans (.one (dM.mp ⟨k,j⟩))
 refine⟨?_,all,λy b=>i y (all y b),low _ h.has,λy b u f=>?_⟩
 .rw[GD];refine⟨h.nd,by simp,λa ha c l e=>?_⟩;rw[Fi.mp l]at e;exact g (e ▸ ha)
 .rcases Fx.mp b with a|a
  .exact low _ (h.cl y a u f)
  .rw[Fi.mp a]at f;obtain⟨k,n⟩:=dM.mpr f;exact FR _ (FR _ (F7.mpr ⟨_,n,rfl⟩))
inductive sI(K:E3)(vs:List V)(H:Hp)(Q:VK)(E:XK):Prop|mk:∀v m ws a x T,vs=[v,.ref a]->bt H v m ws->HOuse m ws->ao H a x->T<=2000->(∀y,aX ws x y->bC m T y)->(∀f kvs qs H',Ext H H'->H f=Vo->H' f=Vn (.dT kvs)->Paired (dj ws H') kvs qs->qs.Nodup->qs.length<=24012->(∀kv∈kvs,kv.2≠.ref f)->(∀y,y∈qs↔aX ws x y)->Q (.ref f) H')->sI K vs H Q E
theorem AU(T:Bu w mg base):Cal P w K mg base "steps_by_place" 3 ["house","place"] (sI K):=by
 refine(bZ T.d_steps_by_place).oS ["house","place","ways","counts","steps","row","here","gone"] λhr nd H vs Q E h=>?_;obtain⟨v,m,ws,pa,x,TT,rfl,hv,ok,hx,hT,hin,q⟩:=h;have m2:=ok.m12;have O:=ok.few;obtain⟨hh,t,rfl,g1,g2⟩:=id hv;obtain⟨bs,g3,al⟩:=cx.al g2;refine⟨_,(@av _ _ _ _ _ (@aH _ _ 2 _ _ _ _ nd rfl oj (@ax _ _ _ _ _ _ _ (aD K) (pv 0) ae (λ_ _=>rfl)) rfl oi)
   (@av _ _ _ _ _ (@aH _ _ 3 _ _ _ _ nd rfl oi (aG (xc T) hr (af (pv 0) aa rfl)) rfl oi)
   (@av _ _ _ _ _ (@aH _ _ 4 _ _ _ _ nd rfl oi jz rfl oi)
   (@av _ _ _ _ _ (@aH _ _ 5 _ _ _ _ nd rfl oi (@bI _ _ _ _ (af (pv 1) aa rfl)) rfl oi)
   (@av _ _ _ _ _ (fi F8 (lU K (pv 5) (λ_=>rfl)) (@av _ _ _ _ _ (@aH _ _ 6 _ _ _ _ nd rfl oj (kU K Ff JB JC nI (pv 5)) rfl oi)
   (@az _ _ _ (cL (fY (gN (bo hr) (pv 6) (pv 4)) (by with_unfolding_all rfl)) (@av _ _ _ _ _ (fE (i:=7) ["count"] [2,6] nd rfl oi (bP K (@ax _ _ _ _ _ _ _ (aQ K) (pv 3) (@ax _ _ _ _ _ _ _ (aD K) (pv 6) ae (λ_ _=>rfl)) (λ_ _=>rfl))) (λ_=>(aO (i:=0) (show(["count","ways","here"]:List Vm).Nodup from by decide +kernel) rfl oi oj)) (λ_=>(dI (bT (aG (l5 T) hr (af (@ax _ _ _ _ _ _ _ (aD K) (pv 1) (pv 0) (λ_ _=>rfl)) (af (pv 2) aa rfl) rfl))))) (λ_=>(pv 0)))
   (@av _ _ _ _ _ (fg (bo hr) (pv 4) (pv 6) (cK ["count"] [2,6] (bP K (pv 7)) (λ_=>(aO (i:=0) (show(["count","ways","here"]:List Vm).Nodup from by decide +kernel) rfl oi oj)) (λ_=>dm) (λ_=>(@bH _ _ _ _ _ (af (pv 0) (af (aG (lC T) hr (af (@ax _ _ _ _ _ _ _ (aD K) (pv 1) (pv 0) (λ_ _=>rfl)) (af (pv 2) aa rfl) rfl)) aa rfl) rfl)))) rfl)
   (@az _ _ _ (bA (bO K Ff J1 J2 uz (pv 5) (af (cK ["count","there"] [] (bP K (cz (bo hr) (pv 4) (pv 6) (λ_ _=>rfl))) (λ_=>(dw (n:=2) K rfl (bF (aO (i:=0) (show(["count","there"]:List Vm).Nodup from by decide +kernel) rfl oi oj) (bF (aO (i:=1) (show(["count","there"]:List Vm).Nodup from by decide +kernel) rfl oi oj) df)))) (λ_=>dm) (λ_=>(pv 1))) aa rfl)))))) aV))))
   (@az _ _ _ (@aK _ _ _ _ (pv 4)))))))),?_⟩
 left;refine aE (ay.of g1) (v:=.ref t) rfl ?_;left;refine⟨_,m,ws,rfl,hv,ok,λc ls H1 e1 ct=>?_⟩;left;refine λf hfn=>?_;left;refine aS λrw H3 e3 b3 b4=>?_;left;have a0:Ext H1 (upd H1 f (.dT [])):=aY hfn;have ah:H1 rw=Vo:=a0.none b4;have s0:SS ws H1 H3 f rw [] [x]:=⟨a0.trans e3,hfn,ah,⟨[],e3 _ _ aF,.nil,λkv h=>by cases h⟩,[pa],b3,.cons (e3 _ _ (a0 _ _ (e1 _ _ hx))) .nil⟩;have m0:SM m TT ws x [] [x]:=⟨Gq,λz j=>by rw[Fi.mp j];exact .refl,λz j=>by rw[Fi.mp j];exact hin _ .refl,by simp,λz j=>by cases j⟩;clear ah a0 b3 b4 e3;refine eV (λM σ H'=>∃qs R k1 k2,SS ws H1 H' f rw qs R/\SM m TT ws x qs R/\R.length<=1+100*qs.length/\M=101*(24013-qs.length)+R.length/\σ=[Vn (.ref hh),Vn (.ref pa),Vn (.ref t),Vn (.ref c),Vn (.ref f),Vn (.ref rw),k1,k2]) (λσ H'=>∃qs k1 k2,SS ws H1 H' f rw qs []/\SM m TT ws x qs []/\σ=[Vn (.ref hh),Vn (.ref pa),Vn (.ref t),Vn (.ref c),Vn (.ref f),Vn (.ref rw),k1,k2]) _ ⟨[],[x],_,_,s0,m0,by simp,rfl,rfl⟩ ?_ ?_
 .clear s0 m0;rintro M σ H4 ⟨qs,R,k1,k2,ss,sm,c3,rfl,rfl⟩;have ba:qs.length<=24012:=bC.few m2 hT sm.nd λz j=>sm.ins z (FT _ j);obtain⟨as,B,pr⟩:=ss.r;have hal:=cA pr;left;by_cases hR:R=[]
  .subst hR;have:as=[]:=by cases as with|nil=>rfl|cons a b=>cases hal
   subst this;refine⟨false,.inl ⟨_,ag.of B,rfl⟩,?_⟩;refine aC ?_;exact⟨qs,_,_,ss,sm,rfl⟩
  obtain⟨R',z,rfl⟩:∃R' z,R=R'++[z]:=⟨R.dropLast,R.getLast hR,(IH hR).symm⟩;obtain⟨as',b,rfl,ai,bb⟩:∃as' b,as=as'++[b]/\Paired (ao H4) as' R'/\ao H4 b z:=mV pr;have co:=cA ai;have cp:R'.length<=100*qs.length:=by rw[Fs,GG]at c3;lia
  refine⟨true,.inl ⟨_,ag.of B,by simp⟩,?_⟩;refine aI ?_;refine⟨λbc H'=>∃C G k1 k2,SS ws H1 H' f rw C G/\SM m TT ws x C G/\G.length<=1+100*C.length/\101*(24013-C.length)+G.length<101*(24013-qs.length)+(R'++[z]).length/\bc=[Vn (.ref hh),Vn (.ref pa),Vn (.ref t),Vn (.ref c),Vn (.ref f),Vn (.ref rw),k1,k2],λbc H' ⟨C,G,k1,k2,a1,a2,a3,a4,a5⟩=>⟨_,a4,C,G,k1,k2,a1,a2,a3,rfl,a5⟩,?_⟩;left;refine⟨cg (ag.of B),?_⟩;left;refine⟨rw,_,.ref b,rfl,rfl,B,by rw[Fq,Fs,Jp,GG,Ik,Fy (Fu _),Jd];rfl,?_⟩;rw[show (A0 V.ref (as'++[b])).dropLast=A0 V.ref as' by rw[Fq];exact JR];have g:=ss.row (as':=as') ai;have I:ao (upd H4 rw (.lst (A0 V.ref as'))) b z:=ao.put B dh bb;generalize upd H4 rw (.lst (A0 V.ref as'))=H5 at g I;clear ss pr ai bb B hal H4;obtain⟨kvs,be,aj,c4⟩:=g.d;left;refine cC ?_;left;refine⟨f,_,rfl,bw.t be (k:=aA z) I,?_⟩;by_cases j:z∈qs
  .obtain⟨v1,c5,_⟩:=ef (key:=λz=>z) (λ_ _ z=>z.1) aj (by simpa using sm.nd) j;rw[c5];symm;left;refine⟨qs,R',_,_,g,sm.skip j,by lia,by rw[Fs,GG];lia,rfl⟩
  rw[eR (key:=λz=>z) (λ_ _ z=>z.1) aj (by simpa using j)];exfalso;have iz:=sm.ins z (by simp);have c9:=sm.new j hin;have ak:=ct.ext g.ext;have ca:z.1.toNat<ls.length:=by rw[ct.len];have:=iz.1;have:=iz.2.1;lia
  have am:ls[z.1.toNat]?=Vn ls[z.1.toNat]:=E8 ca;generalize ls[z.1.toNat]=l at am;have a6:=ak.it _ _ am;rw[show ((z.1.toNat:Nat):Int)=z.1 by have:=iz.1;lia]at a6;have S:=(e1.trans g.ext) _ _ g3;left;refine aE (ay.of I) (v:=.int z.1) rfl ?_;left;refine aP (ag.of ak.at_) (v:=.ref l) (eQ iz.1 (by rw[E9,am];rfl)) ?_;left;refine bQ (ag.of a6) ?_;have hcl:(cB ws z.1 ws.length).length<=100:=FI (GF _ _) (by rw[G6];exact O);refine dJ (xs:=aW (cB ws z.1 ws.length)) (λi ys H'=>H'=H5/\ys=aW (((cB ws z.1 ws.length).take i).filter (eT ws z))) (b7 (by rw[E7];lia)) ⟨rfl,rfl⟩ (λi ys H' _ h=>by obtain⟨rfl,rfl⟩:=h;refine⟨ag.of a6,?_⟩;rw[E7];exact FI (GF _ _) (by rw[FZ];lia)) ?_ ?_
  .rintro i u ys H6 hu ⟨rfl,rfl⟩;rw[E9]at hu;obtain⟨k,hk,rfl⟩:=Fj.mp hu;obtain⟨w,hw,cc⟩:=nj (Fh hk);have an:k<bs.length:=by rw[al.1];exact(Fg.mp hw).1
   have p:=E8 an;generalize bs[k]=bk at p;have ap:=(e1.trans g.ext) _ _ (al.2 k bk w p hw);have step:((cB ws z.1 ws.length).take (i+1)).filter (eT ws z)=((cB ws z.1 ws.length).take i).filter (eT ws z)++if cw w z.1 z.2=true then[k]else[]:=by rw[GA,hk,GL];congr 1;show G7 _ [k]=_;rw[GQ,show eT ws z k=cw w z.1 z.2 by unfold eT;rw[hw];rfl];rfl
   left;refine aE (ay.of S) (v:=.ref bk) (cN (by rw[E9,p];rfl)) ?_;left;refine⟨bk,w,b,z,rfl,ap,I,?_⟩;rw[step];cases ho:cw w z.1 z.2 with
   | false=>
    refine rd_exb (aC ⟨rfl,?_⟩);rw[F5 Fp,GJ]
   | true=>
    exfalso;left;refine⟨rfl,?_⟩;rw[F6 rfl,lj]
  rintro ys H6 p6 ⟨rfl,rfl⟩ aq;rw[E7,FD];rw[show G7 (eT ws z) (cB ws z.1 ws.length)=eZ ws z from rfl];have J:=g.step (aY (o:=.lst (aW (eZ ws z))) aq);have ab:=(aY (o:=.lst (aW (eZ ws z))) aq) _ _ I;have ac:upd H6 p6 (.lst (aW (eZ ws z))) p6=Vn (.lst (aW (eZ ws z))):=aF;generalize upd H6 p6 (.lst (aW (eZ ws z)))=H7 at J ab ac ⊢;clear g I be aj c4 a6 ak S aq kvs;have S:=(e1.trans J.ext) _ _ g3;have cv:(eZ ws z).length<=100:=FI uE O;left;refine bQ (ag.of ac) ?_;refine dJ (xs:=aW (eZ ws z)) (λi ys H'=>Ext H7 H'/\∃cs,ys=A0 V.ref cs/\Paired (dN H') cs (((eZ ws z).take i).map λk=>(k,gF ws z k))) (b7 (by rw[E7];lia)) ⟨Ext.rfl' _,[],rfl,.nil⟩ (λi ys H' _ h=>by obtain⟨e,cs,rfl,s⟩:=h;refine⟨ag.of (e _ _ ac),?_⟩;rw[E7,F9 s,E7,FZ];lia) ?_ ?_
  .rintro i u ys H8 hu ⟨e8,cs,rfl,s⟩;rw[E9]at hu;obtain⟨k,hk,rfl⟩:=Fj.mp hu;obtain⟨w,hw,ho,bg⟩:=mw (Fh hk);have cd:=ok.ok w (Fh hw);have an:k<bs.length:=by rw[al.1];exact(Fg.mp hw).1
   have p:=E8 an;generalize bs[k]=bk at p;have ap:=(e1.trans (J.ext.trans e8)) _ _ (al.2 k bk w p hw);left;right;refine aE (ay.of (e8 _ _ S)) (v:=.ref bk) (cN (by rw[E9,p];rfl)) ?_;left;refine⟨bk,w,b,z,rfl,ap,cd.dd,e8 _ _ ab,λtt H9 e9 ht _=>?_⟩;left;refine aS λa9 HA eA hA _=>?_;refine⟨e8.trans (e9.trans eA),cs++[a9],by rw[Fq];rfl,?_⟩;rw[GA,hk,Fq];refine Gz (Paired.mapP s λ_ _ z=>z.ext (e9.trans eA)) ⟨tt,hA,?_⟩;show ao HA tt (gF ws z k);rw[bg];exact eA _ _ ht
  rintro ys H8 L ⟨e8,cs,rfl,s⟩ U;rw[E7,FD]at s;have e9:=e8.trans (aY (o:=.lst (A0 V.ref cs)) U);have A:Paired (dN (upd H8 L (.lst (A0 V.ref cs)))) cs (aL ws z):=Paired.mapP s λ_ _ z=>z.ext (aY U);have W:upd H8 L (.lst (A0 V.ref cs)) L=Vn (.lst (A0 V.ref cs)):=aF;obtain⟨d0,bi,ce⟩:=J.r;have nl:L≠rw:=λe=>by rw[e,e8 _ _ bi]at U;cases U
  have ar:=J.step e9;have ad:=e9 _ _ ab;generalize upd H8 L (.lst (A0 V.ref cs))=H9 at e9 A W ar ad ⊢;clear e8 s U ac S ab J bi ce;obtain⟨kvs,X,d1,au⟩:=ar.put j W A nl;have bl:ao (upd H9 f (.dT (putK kvs (aA z) (.ref L)))) b z:=ao.put X dF ad;have bm:upd H9 f (.dT (putK kvs (aA z) (.ref L))) f=Vn (.dT (putK kvs (aA z) (.ref L))):=aF;have b0:upd H9 f (.dT (putK kvs (aA z) (.ref L))) L=Vn (.lst (A0 V.ref cs)):=by rw[aB (bp W X (by intro z;cases z))];exact W
  have Y:Paired (dN (upd H9 f (.dT (putK kvs (aA z) (.ref L))))) cs (aL ws z):=Paired.mapP A λ_ _ z=>z.put X dF;left;refine⟨f,_,rfl,cX.t X (k:=aA z) ad (cj (by lia)),?_⟩;generalize upd H9 f (.dT (putK kvs (aA z) (.ref L)))=HA at au bl bm b0 Y ⊢;clear ar ad W A X e9;obtain⟨cf,bn,ch⟩:=au.r;have cr:(aL ws z).length<=100:=FI iS O;have bu:=F9 Y;left;refine⟨cg (ag.of bn),?_⟩;left;refine⟨f,.ref L,rfl,by have:=bw.t bm (k:=aA z) bl;rw[fX,F6 rfl]at this;exact this,?_⟩;refine bQ (ag.of b0) ?_;refine dJ (xs:=A0 V.ref cs) (λi ys H'=>H'=HA/\∃ts,ys=A0 V.ref ts/\Paired (ao HA) ts (((aL ws z).take i).map (·.2))) (b7 (by rw[E7];lia)) ⟨rfl,[],rfl,.nil⟩ (λi ys H' _ h=>by obtain⟨rfl,ts,rfl,N⟩:=h;refine⟨ag.of b0,?_⟩;rw[E7,cA N,E7,FZ];lia) ?_ ?_
  .rintro i u ys HB hu ⟨rfl,ts,rfl,N⟩;rw[E9]at hu;obtain⟨a,ha,rfl⟩:=Fj.mp hu;obtain⟨⟨k,y⟩,hy,b2,hab,ci⟩:=bU Y ha;left;refine dD (ay.of hab) rfl ?_;left;right;refine⟨rfl,ts++[b2],by rw[Fq];rfl,?_⟩;rw[GA,hy,Fq];exact gr N ci
  rintro ys HB p9 ⟨rfl,ts,rfl,N⟩ cl;rw[E7,bu,FD]at N;have eB:=aY (o:=.lst (A0 V.ref ts)) cl;have bv:upd HB p9 (.lst (A0 V.ref ts)) p9=some (.lst (A0 V.ref ts)):=aF;have c0:=au.step eB;have Z:=bz (λa x h=>eB _ _ h) N;have c1:=eB _ _ bn;have b1:=bz (λa x h=>eB _ _ h) ch;generalize upd HB p9 (.lst (A0 V.ref ts))=HC at eB bv c0 Z c1 b1 ⊢;have cu:=cA b1;have c2:=cA Z;rw[E7]at c2;left;refine⟨rw,p9,_,_,rfl,rfl,c1,bv,by rw[E7,E7];exact FI (show _<=2500000 by lia) (by decide),?_⟩;rw[<-Fq];have cm:=c0.row (as':=cf++ts) (R':=R'++(aL ws z).map (·.2)) (y7 b1 Z);left;refine⟨qs++[z],R'++(aL ws z).map (·.2),_,_,cm,c9,?_,?_,rfl⟩
  .rw[Fs,Fs,E7,GG];lia
  .rw[Fs,Fs,Fs,E7,GG];lia
 .rintro σ H4 ⟨qs,k1,k2,ss,sm,rfl⟩;have ba:qs.length<=24012:=bC.few m2 hT sm.nd λz j=>sm.ins z (FT _ j);obtain⟨kvs,hd,pk,nf⟩:=ss.d;left;exact q f kvs qs H4 (e1.trans ss.ext) (e1.none hfn) hd pk sm.nd ba (λkv hk=>(nf kv hk).2) sm.done
def Kx(f:Vb)(H H':Hp):Prop:=∀b o,b≠f->H b=Vn o->H' b=Vn o
def Kx.ext(h:Kx f H H')(e:Ext H' H2):Kx f H H2:=λb o n z=>e _ _ (h b o n z)
def Kx.put(h:Kx f H H')(n:H a=Vo):Kx f H (upd H' a o):=λb u nb z=>by rw[aB (λe=>by rw[e,n]at z;cases z)];exact h b u nb z
def Kx.pl{u:HO}(h:Kx f H H')(b:H f=Vn u)(c:∀xs,u≠.tup xs)(p:ao H a x):ao H' a x:=h _ _ (bp p b (λz=>c _ z.symm)) p
def dj.kx{u:HO}(h:Kx f H H')(c:H f=Vn u)(d:∀xs,u≠.tup xs)(i:kv.2≠.ref f)(s:dj ws H kv z):dj ws H' kv z:=by obtain⟨h1,l,as,h2,j,m⟩:=s;refine⟨h1,l,as,h2,h _ _ (λe=>i (by rw[h2,e])) j,Paired.mapP m λa e z=>?_⟩;obtain⟨b,g,n⟩:=z;exact⟨b,h _ _ (bp g c (λe=>d _ e.symm)) g,h.pl c d n⟩
abbrev wV(kv:List Key×V)(za:Bfs.Pl×Vb):Prop:=kv.1=aA za.1/\kv.2=.ref za.2
structure AH(H0 H:Hp)(g:Vb)(zas:List (Bfs.Pl×Vb))(A:Bfs.Pl->List Bfs.Pl):Prop where
 gn:H0 g=Vo
 d:∃kvs,H g=Vn (.dT kvs)/\Paired wV kvs zas
 nd:(zas.map (·.2)).Nodup
 fr:∀za∈zas,H0 za.2=Vo
 it:∀za∈zas,∃as,H za.2=Vn (.lst (A0 V.ref as))/\Paired (ao H) as (A za.1)
def AH.ext{g:Vb}(h:AH H0 H g zas A)(e:Ext H H'):AH H0 H' g zas A:=by
 obtain⟨h1,⟨kvs,h2,b⟩,c,d,f⟩:=h;exact⟨h1,⟨kvs,e _ _ h2,b⟩,c,d,λza i=>by obtain⟨as,j,l⟩:=f za i;exact⟨as,e _ _ j,bz (λa x h=>e _ _ h) l⟩⟩
theorem AH.put{H0 H:Hp}{g c:Vb}{u u':HO}{zas:List (Bfs.Pl×Vb)}{A:Bfs.Pl->List Bfs.Pl}(h:AH H0 H g zas A)(d:H c=Vn u)(e:∀xs,u≠.tup xs)(f:c≠g)(i:∀za∈zas,c≠za.2):AH H0 (upd H c u') g zas A:=by
 obtain⟨h1,⟨kvs,h2,j⟩,l,m,n⟩:=h;exact⟨h1,⟨kvs,by rw[aB f.symm];exact h2,j⟩,l,m,λza b=>by obtain⟨as,o,p⟩:=n za b;exact⟨as,by rw[aB (i za b).symm];exact o,bz (λa x h=>ao.put d e h) p⟩⟩
def AH.val{g:Vb}(h:AH H0 H g zas A)(nd:(zas.map (·.1)).Nodup)(b:(y,a)∈zas):∃kvs,H g=Vn (.dT kvs)/\a7 kvs (aA y)=Vn (.ref a):=by obtain⟨kvs,h2,c⟩:=h.d;obtain⟨v,f,_,e⟩:=ef (key:=λza:Bfs.Pl×Vb=>za.1) (λ_ _ z=>z.1) c nd b;exact⟨kvs,h2,by rw[f];exact congrArg Vn e⟩
def AH.push{g b:Vb}(h:AH H0 H g zas A)(nd:(zas.map (·.1)).Nodup)(m:(y,a)∈zas)(hb:ao H b z):
  ∃as,H a=Vn (.lst (A0 V.ref as))/\as.length=(A y).length/\AH H0 (upd H a (.lst (A0 V.ref as++[.ref b]))) g zas (λu=>if u=y then A u++[z]else A u):=by
 obtain⟨h1,⟨kvs,h2,w⟩,r,B,s⟩:=h;obtain⟨as,f,v⟩:=s _ m;have C:g≠a:=bp h2 f (by intro z;cases z);refine⟨as,f,cA v,h1,⟨kvs,by rw[aB C];exact h2,w⟩,r,B,λza n=>?_⟩;by_cases e:za.1=y
 .have o:za=(y,a):=by
   obtain⟨i,hi⟩:=FX n;obtain⟨j,d⟩:=FX m;have l:(zas.map (·.1))[i]?=Vn y:=by rw[E9,hi];exact congrArg Vn e
   have p:(zas.map (·.1))[j]?=Vn y:=by rw[E9,d];rfl
   have:=(HM (Fg.mp l).1 nd).mp (l.trans p.symm);subst this;rw[hi]at d;exact FQ d
  subst o;refine⟨as++[b],by rw[aF,Fq];rfl,?_⟩;rw[F6 rfl];exact gr (bz (λc x h=>ao.put f dh h) v) (ao.put f dh hb)
 .rw[F5 e];obtain⟨q,E,F⟩:=s za n;have na:za.2≠a:=λo=>by
   obtain⟨i,hi⟩:=FX n;obtain⟨j,d⟩:=FX m;have l:(zas.map (·.2))[i]?=Vn a:=by rw[E9,hi];exact congrArg Vn o
   have p:(zas.map (·.2))[j]?=Vn a:=by rw[E9,d];rfl
   have:=(HM (Fg.mp l).1 r).mp (l.trans p.symm);subst this;rw[hi]at d;exact e (by rw[FQ d])
  exact⟨q,by rw[aB na];exact E,bz (λc x h=>ao.put f dh h) F⟩
def AH.new{g:Vb}(h:AH H0 H g zas A)(l:z∉zas.map (·.1))(ha:H a=Vn (.lst []))(h0:H0 a=Vo)(na:∀za∈zas,za.2≠a)(hA:A z=[]):
  ∃kvs,H g=Vn (.dT kvs)/\kvs.length=zas.length/\AH H0 (upd H g (.dT (putK kvs (aA z) (.ref a)))) g (zas++[(z,a)]) A:=by
 obtain⟨h1,⟨kvs,h2,b⟩,m,n,o⟩:=h;have kn:a7 kvs (aA z)=Vo:=eR (key:=λza:Bfs.Pl×Vb=>za.1) (λ_ _ z=>z.1) b l;have f:a≠g:=bp ha h2 (by intro z;cases z);refine⟨kvs,h2,F9 b,h1,⟨_,by rw[aF,iw _ kn],Gz b ⟨rfl,rfl⟩⟩,?_,λza i=>?_,λza i=>?_⟩
 .rw[Fq,GD];refine⟨m,by simp,λc p d hd e=>?_⟩;obtain⟨za,hza,rfl⟩:=F7.mp p;have:d=a:=by simpa using hd
  exact na za hza (e.trans this)
 .rcases Fx.mp i with w|w
  .exact n za w
  .rw[Fi.mp w];exact h0
 .rcases Fx.mp i with w|w
  .obtain⟨as,j,q⟩:=o za w;exact⟨as,by rw[aB (bp j h2 (by intro z;cases z))];exact j,bz (λc x h=>ao.put h2 dF h) q⟩
  .rw[Fi.mp w];exact⟨[],by rw[aB f];exact ha,by rw[hA];exact .nil⟩
def uf(h:a7 kvs k=Vn v):∃kv∈kvs,kv.2=v:=by
 induction kvs with
 | nil=>cases h
 | cons a t b=>
  by_cases e:a.1=k
  .rw[eU e]at h;exact⟨a,Fe,FQ h⟩
  .rw[eF e]at h;obtain⟨kv,h1,h2⟩:=b h;exact⟨kv,Fb _ h1,h2⟩
def ck(l:List (Nat×Bfs.Pl))(y:Bfs.Pl):Nat:=(l.map (·.2)).count y
def br(ws:List Way)(zs:List Bfs.Pl)(y:Bfs.Pl):List Bfs.Pl:=zs.flatMap λz=>FU (ck (aL ws z) y) z
def yj(ws)(zs)(z y):br ws (zs++[z]) y=br ws zs y++FU (ck (aL ws z) y) z:=by unfold br;simp
inductive vR(K:E3)(vs:List V)(H:Hp)(Q:VK)(E:XK):Prop|mk:∀f kvs qs ws,vs=[.ref f]->H f=Vn (.dT kvs)->Paired (dj ws H) kvs qs->qs.Nodup->qs.length<=24012->ws.length<=100->(∀kv∈kvs,kv.2≠.ref f)->(∀z∈qs,∀y,aZ ws z y->y∈qs)->(∀g od zas H',Kx f H H'->H' f=Vn (.frz od (.dT kvs))->AH H H' g zas (br ws qs)->zas.map (·.1)=qs->Q (.ref g) H')->vR K vs H Q E
theorem yL(T:Bu w mg base):Cal P w K mg base "places_ahead" 1 ["steps"] (vR K):=by
 refine(cH T.d_places_ahead).oS ["steps","ahead","here","count","there"] λhr nd H vs Q E h=>?_;obtain⟨f,kvs,qs,ws,rfl,hf,pk,Y,cc,a4,nk,hcl,q⟩:=h;have a5:=F9 pk;refine⟨_,(@av _ _ _ _ _ (@aH _ _ 1 _ _ _ _ nd rfl oi jz rfl oi)
   (@av _ _ _ _ _ (bJ F8 rfl (kr (pv 0)) (aO (i:=2) nd rfl oi) (@az _ _ _ (fg (bo hr) (pv 1) (pv 2) (@bI _ _ _ _ aa) rfl)))
   (@av _ _ _ _ _ (bJ F8 rfl (kr (pv 0)) (aO (i:=2) nd rfl oi) (@az _ _ _ (bJ F8 rfl (bP K (cz (bo hr) (pv 0) (pv 2) (λ_ _=>rfl))) (dw K rfl (bF (aO (i:=3) nd rfl oi) (bF (aO (i:=4) nd rfl oi) df))) (@az _ _ _ (bA (bO K Ff Fv Fw bV (cz (bo hr) (pv 1) (pv 4) (λ_ _=>rfl)) (af (pv 2) aa rfl)))))))
   (@az _ _ _ (@aK _ _ _ _ (pv 1)))))),?_⟩
 left;refine λg Z=>?_;left;have N:f≠g:=λe=>by rw[e,Z]at hf;cases hf
 have ba:upd H g (.dT []) f=Vn (.dT kvs):=by rw[aB N];exact hf
 refine⟨f,kvs,rfl,.inl ba,λod bs a1=>?_⟩;have bb:=F9 a1;have a6:∀(i:Nat) (b:Vb),bs[i]?=Vn b->∃z,qs[i]?=Vn z/\ao H b z:=λi b hb=>by
  obtain⟨kv,C,m⟩:=bU a1 hb;obtain⟨z,B,a2⟩:=bU pk C;refine⟨z,B,?_⟩;rw[a2.1]at m;have m:upd H g (.dT []) b=Vn (.tup [.int z.1,.int z.2]):=m;have nb:b≠g:=λe=>by rw[e,aF]at m;cases m
  rw[aB nb]at m;exact m
 clear a1;have a0:AH H (upd (upd H g (.dT [])) f (.frz od (.dT kvs))) g [] (λ_=>[]):=⟨Z,⟨[],by rw[aB N.symm,aF],.nil⟩,Gq,λza h=>(nomatch h),λza h=>(nomatch h)⟩;have k0:Kx f H (upd (upd H g (.dT [])) f (.frz od (.dT kvs))):=λb o nb z=>by rw[aB nb,aB (λe=>by rw[e,Z]at z;cases z)];exact z
 have f0:upd (upd H g (.dT [])) f (.frz od (.dT kvs)) f=Vn (.frz od (.dT kvs)):=aF;generalize upd (upd H g (.dT [])) f (.frz od (.dT kvs))=H1 at a0 k0 f0 ⊢;refine kX (λi σ H'=>∃k1 zas,σ=[Vn (.ref f),Vn (.ref g),k1,Vo,Vo]/\Kx f H H'/\H' f=Vn (.frz od (.dT kvs))/\AH H H' g zas (λ_=>[])/\zas.map (·.1)=qs.take i) ⟨_,[],rfl,k0,f0,a0,rfl⟩ (λi σ H' h=>by obtain⟨_,_,_,_,h,_⟩:=h;exact h) ?_ ?_
 .rintro i b σ H2 hb ⟨k1,zas,rfl,kx,r,F,d⟩;obtain⟨z,B,a9⟩:=a6 i b hb;have bc:ao H2 b z:=kx.pl hf dF a9;left;refine aS λa H3 e3 ha J=>?_;left;have na:∀za∈zas,za.2≠a:=λza B e=>by obtain⟨as,h1,_⟩:=F.it za B;rw[e,J]at h1;cases h1
  have be:H a=Vo:=by
   cases w:H a with
   | none=>rfl
   | some o=>
    by_cases e:a=f
    .rw[e,r]at J;cases J
    .rw[kx _ _ e w]at J;cases J
  have bg:z∉zas.map (·.1):=by
   rw[d];intro hm;obtain⟨j,hj⟩:=FX hm;rw[LO]at hj;split at hj
   .rename_i hji;have:=(HM (Fg.mp hj).1 Y).mp (hj.trans B.symm);lia
   .cases hj
  obtain⟨ab,bi,cd,bl⟩:=(F.ext e3).new bg ha be na rfl;have ce:zas.length<=24012:=by have:=congrArg Ju d;rw[E7,FZ]at this;lia
  refine⟨g,_,rfl,cX.t bi (k:=aA z) (e3 _ _ bc) (cj (by lia)),?_⟩;refine⟨_,_,rfl,(kx.ext e3).put F.gn,?_,bl,?_⟩
  .rw[aB N];exact e3 _ _ r
  .rw[Fq,d,GA,B];rfl
 rintro σ H2 ⟨k1,zas,rfl,kx,r,F,d⟩;rw[bb,a5,FD]at d;left;refine⟨f,kvs,rfl,.inr ⟨od,r⟩,λp ac L=>?_⟩;have ad:=F9 L;have S:∀(i:Nat) (b:Vb),ac[i]?=Vn b->∃z,qs[i]?=Vn z/\ao H2 b z:=λi b hb=>by obtain⟨kv,C,m⟩:=bU L hb;obtain⟨z,B,a2⟩:=bU pk C;refine⟨z,B,?_⟩;rw[a2.1]at m;exact m
 clear L a6;have bm:∀za∈zas,f≠za.2:=λza B e=>by obtain⟨as,h1,_⟩:=F.it za B;rw[<-e,r]at h1;cases h1
 have U:∀xs,(HO.frz od (.dT kvs))≠.tup xs:=λxs z=>by cases z
 have ai:AH H (upd H2 f (.frz p (.dT kvs))) g zas (br ws (qs.take 0)):=F.put r U N bm;have aj:Kx f H (upd H2 f (.frz p (.dT kvs))):=λb o nb z=>by rw[aB nb];exact kx b o nb z
 have f3:upd H2 f (.frz p (.dT kvs)) f=Vn (.frz p (.dT kvs)):=aF;have ak:∀(i:Nat) (b:Vb),ac[i]?=Vn b->∃z,qs[i]?=Vn z/\ao (upd H2 f (.frz p (.dT kvs))) b z:=λi b hb=>by obtain⟨z,B,hp⟩:=S i b hb;exact⟨z,B,ao.put r U hp⟩
 generalize upd H2 f (.frz p (.dT kvs))=H3 at ai aj f3 ak ⊢;clear F kx r S H2;have am:(zas.map (·.1)).Nodup:=by rw[d];exact Y
 refine kX (λi σ H'=>∃k1 k2 k3,σ=[Vn (.ref f),Vn (.ref g),k1,k2,k3]/\Kx f H H'/\(∀b z,ao H3 b z->ao H' b z)/\H' f=Vn (.frz p (.dT kvs))/\AH H H' g zas (br ws (qs.take i))/\∀y,(br ws (qs.take i) y).length<=100*i) ⟨_,_,_,rfl,aj,λ_ _ h=>h,f3,ai,λy=>Fu _⟩ (λi σ H' h=>by obtain⟨_,_,_,_,_,_,h,_⟩:=h;exact h) ?_ ?_
 .rintro i b σ H4 hb ⟨k1,k2,k3,rfl,kx,kp,O,F,hle⟩;obtain⟨z,B,W⟩:=ak i b hb;have bn:=kp _ _ W;have an:=Fh B;have cf:=(Fg.mp B).1;have c5:(aL ws z).length<=100:=FI iS a4;obtain⟨v,hv,C⟩:=ef (key:=λz:Bfs.Pl=>z) (λ_ _ z=>z.1) pk (by simpa using Y) an;have bu:v≠.ref f:=by obtain⟨kv,ap,aq⟩:=uf hv;exact aq ▸ nk kv ap
  obtain⟨_,l,as,e,ar,au⟩:=C.kx kx hf dF bu;cases e;left;refine⟨f,.ref l,rfl,.inr ⟨kvs,aA z,b,.inr ⟨p,O⟩,rfl,bn,hv.symm⟩,?_⟩;refine bQ (ag.of ar) ?_;have b0:=F9 au;have nl:∀za∈zas,za.2≠l:=λza hza e=>by have h1:=F.fr za hza;obtain⟨_,l',ch,e',bv,_⟩:=C;cases e';rw[e,bv]at h1;cases h1
  refine forL (xs:=A0 V.ref as) (λj σ H'=>∃k2 k3,σ=[Vn (.ref f),Vn (.ref g),Vn (.ref b),k2,k3]/\Kx f H H'/\(∀b z,ao H3 b z->ao H' b z)/\H' f=Vn (.frz p (.dT kvs))/\H' l=Vn (.lst (A0 V.ref as))/\Paired (dN H') as (aL ws z)/\AH H H' g zas (λy=>br ws (qs.take i) y++FU (ck ((aL ws z).take j) y) z)/\∀y,(br ws (qs.take i) y++FU (ck ((aL ws z).take j) y) z).length<=100*i+j) ⟨_,_,rfl,kx,kp,O,ar,au,?_,?_⟩ (λj σ H' _ h=>by obtain⟨_,_,_,_,_,_,h,_⟩:=h;exact ag.of h) ?_ ?_
  .have:(λy=>br ws (qs.take i) y++FU (ck ((aL ws z).take 0) y) z)=br ws (qs.take i):=funext λy=>by show br ws (qs.take i) y++[]=_;rw[GJ]
   rw[this];exact F
  .intro y;show(br ws (qs.take i) y++[]).length<=_;rw[GJ];exact hle y
  .rintro j u σ H5 hu ⟨k2,k3,rfl,a3,kp5,R,b1,M,G,A⟩;rw[E9]at hu;obtain⟨a,ha,rfl⟩:=Fj.mp hu;obtain⟨⟨k,y⟩,hy,b2,hab,c0⟩:=bU M ha;have c1:y∈qs:=hcl z an y (dM.mp ⟨k,Fh hy⟩);obtain⟨⟨X,a'⟩,hza,e⟩:=F7.mp (show y∈zas.map (·.1) by rw[d];exact c1);have e:X=y:=e;subst e;obtain⟨ab,c2,c3⟩:=G.val am hza;obtain⟨ci,I,c9,b3⟩:=G.push am hza (kp5 _ _ W);have hj:=(Fg.mp hy).1;have ca:=A X;left;refine dD (ay.of hab) rfl ?_;left;refine⟨g,.ref a',rfl,by have:=bw.t c2 (k:=aA X) c0;rw[c3]at this;exact this,?_⟩;refine⟨cg (ag.of I),?_⟩;left;refine bR I (by rw[E7];exact FH (show _<2500000 by lia) (by decide)) ?_;left;have c4:f≠a':=λe=>by rw[<-e,R]at I;cases I
   have b4:(λu=>if u=X then(br ws (qs.take i) u++FU (ck ((aL ws z).take j) u) z)++[z]else br ws (qs.take i) u++FU (ck ((aL ws z).take j) u) z)=λu=>br ws (qs.take i) u++FU (ck ((aL ws z).take (j+1)) u) z:=funext λu=>by
    have cs:ck ((aL ws z).take (j+1)) u=ck ((aL ws z).take j) u+if X=u then 1 else 0:=by
     unfold ck;rw[GA,hy,Fq,IQ];congr 1;show LR u [X]=_;rw[Ka,IV];by_cases e:X=u
     .subst e;simp
     .simp[e]
    rw[cs];by_cases e:u=X
    .subst e;rw[F6 rfl,F6 rfl,Hq,Gm]
    .rw[F5 e,F5 (λh=>e h.symm),Lb]
   rw[b4]at b3;refine⟨_,_,rfl,a3.put (G.fr _ hza),λc x h=>ao.put I dh (kp5 _ _ h),by rw[aB c4];exact R,by rw[aB (nl _ hza).symm];exact b1,Paired.mapP M λ_ _ s=>s.put I dh,b3,λu=>?_⟩;have:=A u;have h2:=congrFun b4 u;rw[<-h2];split
   .rw[Fs,GG];lia
   .omega
  .rintro σ H5 ⟨k2,k3,rfl,a3,kp5,R,b1,M,G,A⟩;rw[E7,b0,FD]at G A;left;have e:(λy=>br ws (qs.take i) y++FU (ck (aL ws z) y) z)=br ws (qs.take (i+1)):=funext λy=>by rw[GA,B];exact(yj ws (qs.take i) z y).symm
   refine⟨_,_,_,rfl,a3,kp5,R,e ▸ G,λy=>?_⟩;have:=A y;rw[<-congrFun e y];lia
 rintro σ H4 ⟨k1,k2,k3,rfl,kx,kp,O,F,hle⟩;rw[ad,a5,FD]at F;left;exact q g p zas H4 kx O F d
def gY(ws:List Way)(kn:List Bfs.Pl)(z:Bfs.Pl):Nat:=((aL ws z).filter λe=>decide (e.2∉kn)).length
def BP(ws)(z):gY ws [] z=(aL ws z).length:=by unfold gY;congr 1;exact List.filter_eq_self.mpr λe _=>by simp
theorem qT(kn:List Bfs.Pl)(h:Bfs.Pl)(b:h∉kn):∀l:List (Nat×Bfs.Pl),(l.filter λe=>decide (e.2∉kn)).length=(l.filter λe=>decide (e.2∉kn++[h])).length+ck l h
 | []=>rfl
 | e::l=>by
  have a:=qT kn h b l;have c:ck (e::l) h=ck l h+if e.2=h then 1 else 0:=by unfold ck;congr 1;by_cases q:e.2=h<;>simp[q]
  rw[c,GQ,GQ];by_cases q:e.2=h
  .rw[F6 (F4 (q ▸ b)),F5 (by simp[q]),F6 q,FC,a];lia
  .rw[F5 q];by_cases w:e.2∈kn
   .rw[F5 (by simp[w]),F5 (by simp[w]),a];lia
   .rw[F6 (F4 w),F6 (F4 (by simp[w,q])),FC,FC,a];lia
def pf(a:h∉kn)(z):gY ws kn z=gY ws (kn++[h]) z+ck (aL ws z) h:=qT kn h a _
def mB:gY ws kn z=0↔∀y,aZ ws z y->y∈kn:=by
 unfold gY;rw[KA,KR];constructor
 .intro h y a;obtain⟨k,b⟩:=dM.mpr a;have:=h _ b;simpa using this
 .intro h e c;have:=h e.2 (dM.mp ⟨e.1,c⟩);simpa using this
theorem kz{ws:List Way}{y z:Bfs.Pl}:∀{qs:List Bfs.Pl},qs.Nodup->(br ws qs y).count z=if z∈qs then ck (aL ws z) y else 0
 | [],_=>rfl
 | q::qs,nd=>by
  rw[Gp]at nd;have a:=kz (ws:=ws) (y:=y) (z:=z) nd.2;have:br ws (q::qs) y=FU (ck (aL ws q) y) q++br ws qs y:=rfl;rw[this,IQ,a,List.count_replicate];by_cases e:q=z
  .subst e;rw[F6 (by simp),F5 nd.1,F6 (by simp)];rfl
  .rw[F5 (by simpa using e),Hd];by_cases w:z∈qs
   .rw[F6 w,F6 (Fb _ w)]
   .rw[F5 w,F5 (by rw[Fo];rintro(h|h);exact e h.symm;exact w h)]
def gB(h:z∈br ws qs y):z∈qs:=by obtain⟨u,a,b⟩:=List.mem_flatMap.mp h;rw[(List.mem_replicate.mp b).2];exact a
structure KhS(ws:List Way)(qs:List Bfs.Pl)(Kn:List (Bfs.Pl×Nat))(R:List Bfs.Pl)(W:Bfs.Pl->Nat):Prop where
 nd:(Kn.map (·.1)++R).Nodup
 inq:∀z∈Kn.map (·.1)++R,z∈qs
 lw:∀e∈Kn,Bfs.Lw (aZ ws) e.1 e.2
 w:∀z∈qs,W z=gY ws (Kn.map (·.1)) z
 z0:∀z∈qs,W z=0↔z∈Kn.map (·.1)++R
structure KhI(qs L:List Bfs.Pl)(W0 W:Bfs.Pl->Nat)(new:List Bfs.Pl)(j:Nat):Prop where
 w:∀z∈qs,W z+(L.take j).count z=W0 z
 nw:∀z,z∈new↔z∈L.take j/\W z=0
 nd:new.Nodup
theorem KhI.pos{R':List Bfs.Pl}(a:qs.Nodup)(ks:KhS ws qs Kn (R++[h]) W0)(d:h∉Kn.map (·.1))(e:KhI qs (br ws qs h) W0 W new j)(c:(br ws qs h)[j]?=Vn z):1<=W z:=by
 have b:z∈qs:=gB (Fh c);have h1:=e.w z b;have h2:=ks.w z b;have g:=pf (ws:=ws) d z;have f:=kz (ws:=ws) (y:=h) (z:=z) a;rw[F6 b]at f;have i:((br ws qs h).take (j+1)).count z=((br ws qs h).take j).count z+1:=by rw[GA,c,IQ];show _+LR z [z]=_;rw[List.count_cons_self,IV]
 have l:((br ws qs h).take (j+1)).count z<=(br ws qs h).count z:=(Jv _ _).count_le z;lia
theorem KhI.step{L:List Bfs.Pl}(b:KhI qs L W0 W new j)(f:L[j]?=Vn z)(l:1<=W z):KhI qs L W0 (λu=>if u=z then W z-1 else W u) (if W z-1=0 then new++[z]else new) (j+1):=by
 have tk:∀u,u∈L.take (j+1)↔u∈L.take j\/u=z:=λu=>by rw[GA,f,Fx];show _\/u∈[z]↔_;rw[Fi]
 have d:z∉new:=λh=>by have:=((b.nw z).mp h).2;lia
 refine⟨λu g=>?_,λu=>?_,?_⟩
 .have h1:=b.w u g;rw[GA,f,IQ];show _+(_+LR u [z])=_;rw[Ka,IV];by_cases e:u=z
  .subst e;rw[F6 rfl,F6 (by simp)];lia
  .rw[F5 e,F5 (by simpa using λh=>e h.symm)];lia
 .by_cases e:u=z
  .subst e;rw[F6 rfl];by_cases w:W u-1=0
   .rw[F6 w];exact⟨λ_=>⟨(tk u).mpr (.inr rfl),w⟩,λ_=>by simp⟩
   .rw[F5 w];exact⟨λh=>absurd h d,λh=>absurd h.2 w⟩
  .rw[F5 e,tk];have:u∈(if W z-1=0 then new++[z]else new)↔u∈new:=by
    split
    .simp[e]
    .exact Iff.rfl
   rw[this,b.nw];simp[e]
 .split
  .rw[GD];refine⟨b.nd,by simp,λa ha c i e=>?_⟩;rw[Fi.mp i]at e;exact d (e ▸ ha)
  .exact b.nd
theorem KhS.done(g:qs.Nodup)(ks:KhS ws qs Kn (R++[h]) W0)(m:Bfs.Lw (aZ ws) h n)(i:KhI qs (br ws qs h) W0 W new (br ws qs h).length):KhS ws qs (Kn++[(h,n)]) (R++new) W:=by
 have d:=ks.nd;have o:h∉Kn.map (·.1):=λw=>by rw[<-Gm,GD]at d;exact d.2.2 h (FT _ w) h (by simp) rfl
 have kw:=i.w;have kn:=i.nw;rw[FD]at kw kn;have p:∀z∈qs,W z=gY ws (Kn.map (·.1)++[h]) z:=λz b=>by have h1:=kw z b;have h2:=ks.w z b;have j:=pf (ws:=ws) o z;have l:=kz (ws:=ws) (y:=h) (z:=z) g;rw[F6 b]at l;lia
 have old:∀z,z∈(Kn++[(h,n)]).map (·.1)++R↔z∈Kn.map (·.1)++(R++[h]):=λz=>by
  simp only[Fq,GY,Lc,Fx,Fi];constructor
  .rintro((a|a)|a)
   .exact .inl a
   .exact .inr (.inr a)
   .exact .inr (.inl a)
  .rintro(a|a|a)
   .exact .inl (.inl a)
   .exact .inr a
   .exact .inl (.inr a)
 have nq:∀z∈new,z∈qs/\W z=0/\W0 z≠0:=λz b=>by obtain⟨h1,h2⟩:=(kn z).mp b;have f:=gB h1;have j:=kw z f;have l:=IE.mpr h1;exact⟨f,h2,by lia⟩
 refine⟨?_,λz b=>?_,λe q=>?_,λz b=>?_,λz b=>?_⟩
 .rw[<-Gm,GD];refine⟨?_,i.nd,λa ha c r e=>?_⟩
  .have:(A0 (λx=>x.fst) (Kn++[(h,n)])++R).Perm (Kn.map (·.1)++(R++[h])):=by rw[Fq,Gm];exact List.Perm.append_left _ Kg
   exact this.nodup_iff.mpr d
  .subst e;obtain⟨f,_,j⟩:=nq a r;exact j ((ks.z0 a f).mpr ((old a).mp ha))
 .rw[<-Gm]at b;rcases Fx.mp b with a|a
  .exact ks.inq z ((old z).mp a)
  .exact(nq z a).1
 .rcases Fx.mp q with a|a
  .exact ks.lw e a
  .rw[Fi.mp a];exact m
 .rw[p z b,Fq];rfl
 .rw[<-Gm,Fx,old];have h1:=kw z b;constructor
  .intro e;by_cases c:z∈br ws qs h
   .exact .inr ((kn z).mpr ⟨c,e⟩)
   .rw[List.count_eq_zero_of_not_mem c]at h1;exact .inl ((ks.z0 z b).mp (by lia))
  .rintro(a|a)
   .have:=(ks.z0 z b).mpr a;lia
   .exact(nq z a).2.1
def KhS.all(ks:KhS ws qs Kn [] W)(a:z∈qs)(h:∀y,aZ ws z y->y∈Kn.map (·.1)):z∈Kn.map (·.1):=by
 have h1:=(ks.z0 z a).mp (by rw[ks.w z a];exact mB.mpr h)
 rwa [GJ]at h1
def KhS.start(b:qs.Nodup)(c:∀z∈qs,W z=(aL ws z).length):KhS ws qs [] (qs.filter λz=>decide (W z=0)) W:=
 ⟨JP _ b,λz a=>(GC.mp a).1,λe d=>by(cases d),λz a=>by rw[c z a];exact(BP ws z).symm,λz a=>by rw[Lc,List.nil_append,GC];exact⟨λh=>⟨a,F4 h⟩,λh=>of_decide_eq_true h.2⟩⟩
def CY{u:V}(h:a7 kvs k=Vn u):(putK kvs k v).length=kvs.length:=by unfold putK;rw[i5,h,F6 (show(Vn u).isSome=true from rfl),E7]
def WD(H:Hp)(c:Vb)(qs:List Bfs.Pl)(W:Bfs.Pl->Nat):Prop:=∃kvs,H c=Vn (.dT kvs)/\kvs.length<=24012/\∀z∈qs,a7 kvs (aA z)=Vn (.int (W z:Nat))
abbrev ua(kv:List Key×V)(e:Bfs.Pl×Nat):Prop:=kv.1=aA e.1/\kv.2=.int (e.2:Nat)
def KD(H:Hp)(c:Vb)(Kn:List (Bfs.Pl×Nat)):Prop:=∃kvs,H c=Vn (.dT kvs)/\Paired ua kvs Kn
def KD.val(h:KD H c Kn)(nd:(Kn.map (·.1)).Nodup)(a:(z,n)∈Kn):∃kvs,H c=Vn (.dT kvs)/\a7 kvs (aA z)=Vn (.int (n:Nat)):=by obtain⟨kvs,h1,h2⟩:=h;obtain⟨v,b,_,e⟩:=ef (key:=λe:Bfs.Pl×Nat=>e.1) (λ_ _ z=>z.1) h2 nd a;exact⟨kvs,h1,by rw[b];exact congrArg Vn e⟩
structure KH(kvs:List (List Key×V))(qs:List Bfs.Pl)(B H:Hp)(f wt kn:Vb)(W:Bfs.Pl->Nat)(Kn:List (Bfs.Pl×Nat)):Prop where
 kx:Kx f B H
 fz:∃od,H f=Vn (.frz od (.dT kvs))
 wn:B wt=Vo
 nn:B kn=Vo
 wd:WD H wt qs W
 kd:KD H kn Kn
 ne:wt≠kn
theorem KH.ext{kvs:List (List Key×V)}{qs:List Bfs.Pl}{B H H':Hp}{f wt kn:Vb}{W:Bfs.Pl->Nat}{Kn:List (Bfs.Pl×Nat)}(h:KH kvs qs B H f wt kn W Kn)(e:Ext H H'):KH kvs qs B H' f wt kn W Kn:=by obtain⟨h1,⟨od,h2⟩,a,b,⟨k1,c,d⟩,⟨k2,g,i⟩,ne⟩:=h;exact⟨h1.ext e,⟨od,e _ _ h2⟩,a,b,⟨k1,e _ _ c,d⟩,⟨k2,e _ _ g,i⟩,ne⟩
theorem KH.put{kvs:List (List Key×V)}{qs:List Bfs.Pl}{B H:Hp}{f wt kn c:Vb}{u:List V}{u':HO}{W:Bfs.Pl->Nat}{Kn:List (Bfs.Pl×Nat)}(h:KH kvs qs B H f wt kn W Kn)(a:H c=Vn (.lst u))(e:B c=Vo):KH kvs qs B (upd H c u') f wt kn W Kn:=by obtain⟨h1,⟨od,h2⟩,g,i,⟨k1,b,j⟩,⟨k2,d,l⟩,ne⟩:=h;exact⟨h1.put e,⟨od,by rw[aB (bp h2 a (by intro z;cases z))];exact h2⟩,g,i,⟨k1,by rw[aB (bp b a (by intro z;cases z))];exact b,j⟩,⟨k2,by rw[aB (bp d a (by intro z;cases z))];exact d,l⟩,ne⟩
def KH.wput{B:Hp}(h:KH kvs qs B H f wt kn W Kn)(b:z∈qs):∃kw,H wt=Vn (.dT kw)/\kw.length<=24012/\a7 kw (aA z)=Vn (.int (W z:Nat))/\∀n,KH kvs qs B (upd H wt (.dT (putK kw (aA z) (.int (n:Nat))))) f wt kn (λu=>if u=z then n else W u) Kn:=by
 obtain⟨h1,⟨od,h2⟩,c,i,⟨k1,d,g,a⟩,⟨k2,j,l⟩,ne⟩:=h;refine⟨k1,d,g,a z b,λn=>⟨h1.put c,⟨od,by rw[aB (bp h2 d (by intro z;cases z))];exact h2⟩,c,i,⟨_,aF,by rw[CY (a z b)];exact g,λu m=>?_⟩,⟨k2,by rw[aB ne.symm];exact j,l⟩,ne⟩⟩;show _=Vn (V.int ((if u=z then n else W u:Nat):Int));rw[fX];by_cases e:u=z
 .rw[F6 (by rw[e]),F6 e]
 .rw[F5 (λw=>e (g9 w)),F5 e];exact a u m
def KH.kput{B:Hp}(h:KH kvs qs B H f wt kn W Kn)(g:z∉Kn.map (·.1)):∃kk,H kn=Vn (.dT kk)/\kk.length=Kn.length/\∀n,KH kvs qs B (upd H kn (.dT (putK kk (aA z) (.int (n:Nat))))) f wt kn W (Kn++[(z,n)]):=by obtain⟨h1,⟨od,h2⟩,i,c,⟨k1,j,l⟩,⟨k2,d,a⟩,ne⟩:=h;have b:a7 k2 (aA z)=Vo:=eR (key:=λe:Bfs.Pl×Nat=>e.1) (λ_ _ z=>z.1) a g;exact⟨k2,d,F9 a,λn=>⟨h1.put c,⟨od,by rw[aB (bp h2 d (by intro z;cases z))];exact h2⟩,i,c,⟨k1,by rw[aB ne];exact j,l⟩,⟨_,by rw[aF,iw _ b],Gz a ⟨rfl,rfl⟩⟩,ne⟩⟩
theorem sub_len:∀{l m:List Bfs.Pl},l.Nodup->(∀x∈l,x∈m)->l.length<=m.length
 | [],_,_,_=>GO _
 | a::l,m,nd,h=>by rw[Gp]at nd;have ha:=h a Fe;have:=sub_len (m:=m.erase a) nd.2 λx b=>(Ks (λe:x=a=>nd.1 (by rw[<-e];exact b))).mpr (h x (Fb _ b));rw[Ie ha]at this;have:=He ha;rw[FC];omega
def cV(Kn:List (Bfs.Pl×Nat))(y:Bfs.Pl):Nat:=((Kn.find? λe=>decide (e.1=y)).map (·.2)).getD 0
def iO(h:y∈Kn.map (·.1)):(y,cV Kn y)∈Kn:=by
 obtain⟨e,b,rfl⟩:=F7.mp h;have hs:(Kn.find? λu=>decide (u.1=e.1)).isSome=true:=List.find?_isSome.mpr ⟨e,b,F4 rfl⟩;obtain⟨u,a⟩:=GR.mp hs;have h1:u.1=e.1:=by simpa using List.find?_some a
 have h2:=Jt a;unfold cV;rw[a];rw[<-h1];exact h2
theorem ve(c:∀y,aZ ws h y->y∈Kn.map (·.1))(d:∀e∈Kn,Bfs.Lw (aZ ws) e.1 e.2){M:Int}(f:((aL ws h).map (λe=>((cV Kn e.2+1:Nat):Int))=[]/\M=0)\/(M∈(aL ws h).map (λe=>((cV Kn e.2+1:Nat):Int))/\∀a,a∈(aL ws h).map (λe=>((cV Kn e.2+1:Nat):Int))->a<=M)):∃n:Nat,M=(n:Int)/\Bfs.Lw (aZ ws) h n:=by
 have lw:∀y,aZ ws h y->Bfs.Lw (aZ ws) y (cV Kn y):=λy b=>d _ (iO (c y b));rcases f with⟨h1,h2⟩|⟨h1,h2⟩
 .have no:∀y,¬aZ ws h y:=λy b=>by obtain⟨k,c⟩:=dM.mpr b;rw[List.map_eq_nil_iff.mp h1]at c;cases c
  exact⟨0,h2,Bfs.o6 lw (λ_=>rfl) (λy b=>absurd b (no y)) λ⟨y,b⟩=>absurd b (no y)⟩
 .obtain⟨e,g,i⟩:=F7.mp h1;have hs:aZ ws h e.2:=dM.mp ⟨e.1,g⟩;refine⟨cV Kn e.2+1,i.symm,Bfs.o6 lw (λw=>absurd hs (w _)) (λy b=>?_) λ_=>⟨e.2,hs,rfl⟩⟩;obtain⟨k,c⟩:=dM.mpr b;have:=h2 _ (F7.mpr ⟨_,c,rfl⟩);dsimp only at this;lia
inductive sV(K:E3)(vs:List V)(H:Hp)(Q:VK)(E:XK):Prop|mk:∀f kvs qs ws,vs=[.ref f]->H f=Vn (.dT kvs)->Paired (dj ws H) kvs qs->qs.Nodup->qs.length<=24012->ws.length<=100->(∀kv∈kvs,kv.2≠.ref f)->(∀z∈qs,∀y,aZ ws z y->y∈qs)->(∀kn od Kn H',Kx f H H'->H' f=Vn (.frz od (.dT kvs))->H kn=Vo->KD H' kn Kn->(Kn.map (·.1)).Nodup->(∀e∈Kn,e.1∈qs/\Bfs.Lw (aZ ws) e.1 e.2)->(∀z∈qs,(∀y,aZ ws z y->y∈Kn.map (·.1))->z∈Kn.map (·.1))->Q (.ref kn) H')->sV K vs H Q E
theorem Cu(T:Bu w mg base):Cal P w K mg base "known_ranks" 2 ["steps"] (sV K):=by
 refine(cH T.d_known_ranks).oS ["steps","ahead","waits","here","known","row","before"] λhr nd H vs Q E h=>?_;obtain⟨f,kvs,qs,ws,rfl,hf,pk,G,ct,bu,nk,hcl,q⟩:=h;have c1:=F9 pk;refine⟨_,(@av _ _ _ _ _ (@aH _ _ 1 _ _ _ _ nd rfl oi (aG (yL T) hr (af (pv 0) aa rfl)) rfl oi)
   (@av _ _ _ _ _ (@aH _ _ 2 _ _ _ _ nd rfl oj jz rfl oi)
   (@av _ _ _ _ _ (bJ F8 rfl (kr (pv 0)) (aO (i:=3) nd rfl oi) (@az _ _ _ (fg (bo hr) (pv 2) (pv 3) (bq (cn K) rfl T.len_ GI (af (cz (bo hr) (pv 0) (pv 3) (λ_ _=>rfl)) aa rfl)) rfl)))
   (@av _ _ _ _ _ (@aH _ _ 4 _ _ _ _ nd rfl oj jz rfl oi)
   (@av _ _ _ _ _ (fE (i:=5) ["here"] [2] nd rfl oi (kr (pv 0)) (λ_=>(aO (i:=0) (show(["here","waits"]:List Vm).Nodup from by decide +kernel) rfl oi oj)) (λ_=>(dI (aT bG (cz (bo hr) (pv 1) (pv 0) (λ_ _=>rfl)) ae (aR _)))) (λ_=>(pv 0)))
   (@av _ _ _ _ _ (fi F8 (lU K (pv 5) (λ_=>rfl)) (@av _ _ _ _ _ (@aH _ _ 3 _ _ _ _ nd rfl oi (kU K Ff JB JC nI (pv 5)) rfl oi)
   (@av _ _ _ _ _ (fg (bo hr) (pv 4) (pv 3) (DN K rfl rfl T.max_ (af (cK ["count","there"] [4] (bP K (cz (bo hr) (pv 0) (pv 3) (λ_ _=>rfl))) (λ_=>(dw (n:=2) K rfl (bF (aO (i:=0) (show(["count","there","known"]:List Vm).Nodup from by decide +kernel) rfl oi oj) (bF (aO (i:=1) (show(["count","there","known"]:List Vm).Nodup from by decide +kernel) rfl oi oj) df)))) (λ_=>dm) (λ_=>(aJ bx (cz (bo hr) (pv 2) (pv 1) (λ_ _=>rfl)) ae))) aa rfl) ae) rfl)
   (@az _ _ _ (bJ F8 rfl (bP K (cz (bo hr) (pv 1) (pv 3) (λ_ _=>rfl))) (aO (i:=6) nd rfl oi) (@av _ _ _ _ _ (fg (bo hr) (pv 2) (pv 6) (aJ dR (cz (bo hr) (pv 2) (pv 6) (λ_ _=>rfl)) ae) rfl)
   (@az _ _ _ (cL (aT bG (cz (bo hr) (pv 2) (pv 6) (λ_ _=>rfl)) ae (aR _)) (@az _ _ _ (bA (bO K Ff Fv Fw bV (pv 5) (af (pv 6) aa rfl)))) aV))))))))
   (@az _ _ _ (@aK _ _ _ _ (pv 4))))))))),?_⟩
 left;refine⟨f,kvs,qs,ws,rfl,hf,pk,G,ct,bu,nk,hcl,λg cu zas B kxB I ah bv=>?_⟩;have e1:(zas.map (·.1)).Nodup:=by rw[bv];exact G
 left;refine λwt ac=>?_;left;have b0:f≠wt:=λe=>by rw[<-e,I]at ac;cases ac
 have e2:upd B wt (.dT []) f=Vn (.frz cu (.dT kvs)):=by rw[aB b0];exact I
 refine⟨f,kvs,rfl,.inr ⟨cu,e2⟩,λod bs c2=>?_⟩;have e3:=F9 c2;have ad:∀(i:Nat) (b:Vb),bs[i]?=Vn b->∃z,qs[i]?=Vn z/\ao B b z:=λi b hb=>by
  obtain⟨kv,d,r⟩:=bU c2 hb;obtain⟨z,A,c3⟩:=bU pk d;refine⟨z,A,?_⟩;rw[c3.1]at r;have r:upd B wt (.dT []) b=Vn (.tup [.int z.1,.int z.2]):=r;have nb:b≠wt:=λe=>by rw[e,aF]at r;cases r
  rw[aB nb]at r;exact r
 clear c2;have N:∀{od:Obj} xs,(HO.frz od (.dT kvs))≠.tup xs:=λxs z=>by cases z
 have k0:Kx f B (upd (upd B wt (.dT [])) f (.frz od (.dT kvs))):=λb o nb z=>by rw[aB nb,aB (λe=>by rw[e,ac]at z;cases z)];exact z
 have f0:upd (upd B wt (.dT [])) f (.frz od (.dT kvs)) f=Vn (.frz od (.dT kvs)):=aF;have w0:upd (upd B wt (.dT [])) f (.frz od (.dT kvs)) wt=Vn (.dT []):=by rw[aB b0.symm,aF]
 generalize upd (upd B wt (.dT [])) f (.frz od (.dT kvs))=B1 at k0 f0 w0 ⊢;have cv:∀z∈qs,∀H',Kx f B H'->∃l as,a7 kvs (aA z)=Vn (.ref l)/\H' l=Vn (.lst (A0 V.ref as))/\Paired (dN H') as (aL ws z)/\B l≠Vo:=λz X H' kx=>by
  obtain⟨v,hv,d⟩:=ef (key:=λz:Bfs.Pl=>z) (λ_ _ z=>z.1) pk (by simpa using G) X;have d0:v≠.ref f:=by obtain⟨kv,d1,d2⟩:=uf hv;exact d2 ▸ nk kv d1
  have hB:=d.kx kxB hf dF d0;obtain⟨_,l,as,e,h1,h2⟩:=id hB;have h3:=hB.kx kx I N d0;obtain⟨_,l',p,e',e4,e6⟩:=h3;cases e;cases e';exact⟨l,p,hv,e4,e6,by rw[h1];intro z;cases z⟩
 refine kX (λi σ H'=>∃k1,σ=[Vn (.ref f),Vn (.ref g),Vn (.ref wt),k1,Vo,Vo,Vo]/\Kx f B H'/\H' f=Vn (.frz od (.dT kvs))/\∃kw,H' wt=Vn (.dT kw)/\kw.length<=i/\∀j z,j<i->qs[j]?=Vn z->a7 kw (aA z)=Vn (.int ((aL ws z).length:Nat))) ⟨_,rfl,k0,f0,[],w0,Fu _,λj z h=>absurd h (GS _)⟩ (λi σ H' h=>by obtain⟨_,_,_,h,_⟩:=h;exact h) ?_ ?_
 .rintro i b σ H2 hb ⟨k1,rfl,kx,J,kw,b1,b3,d⟩;obtain⟨z,A,O⟩:=ad i b hb;have d3:ao H2 b z:=kx.pl I N O;have ew:=(Fg.mp A).1;obtain⟨l,as,hv,e7,e8,_⟩:=cv z (Fh A) H2 kx;left;refine⟨f,.ref l,rfl,.inr ⟨kvs,aA z,b,.inr ⟨od,J⟩,rfl,d3,hv.symm⟩,?_⟩;left;refine dE (ag.of e7) ?_;left;refine⟨wt,_,rfl,cX.t b1 (k:=aA z) d3 (cj (by lia)),?_⟩;rw[E7,F9 e8];refine⟨_,rfl,kx.put ac,by rw[aB b0];exact J,_,aF,FI (jX _ _ _) (by lia),λj u hj hu=>?_⟩;rw[fX];by_cases e:j=i
  .subst e;rw[A]at hu;cases hu;rw[F6 rfl]
  .rw[F5 (λh=>?_)]
   .exact d j u (by lia) hu
   .have:=g9 h;rw[this]at hu;exact e ((HM (Fg.mp hu).1 G).mp (hu.trans A.symm))
 rintro σ H2 ⟨k1,rfl,c4,J,kw,b1,b3,d⟩;rw[e3,c1]at b3 d;have c5:WD H2 wt qs (λz=>(aL ws z).length):=⟨kw,b1,by lia,λz A=>by obtain⟨j,hj⟩:=FX A;exact d j z (Fg.mp hj).1 hj⟩
 clear b3 d k0 f0 w0 b1;left;refine λkn ai=>?_;left;have d4:wt≠kn:=λe=>by obtain⟨_,h,_⟩:=c5;rw[e,ai]at h;cases h
 have b4:f≠kn:=λe=>by rw[e,ai]at J;cases J
 have ba:B kn=Vo:=by
  cases w:B kn with
  | none=>rfl
  | some o=>rw[c4 _ _ b4.symm w]at ai;cases ai
 have c9:upd H2 kn (.dT []) f=Vn (.frz od (.dT kvs)):=by rw[aB b4];exact J
 refine⟨f,kvs,rfl,.inr ⟨od,c9⟩,λY ea aj=>?_⟩;have c0:=F9 aj;have Z:KH kvs qs B (upd (upd H2 kn (.dT [])) f (.frz Y (.dT kvs))) f wt kn (λz=>(aL ws z).length) []:=by refine⟨λb o nb z=>by rw[aB nb,aB (λe=>by rw[e,ba]at z;cases z)];exact c4 b o nb z,⟨Y,aF⟩,ac,ba,?_,⟨[],by rw[aB b4.symm,aF],.nil⟩,d4⟩;obtain⟨kw,h1,h2⟩:=c5;exact⟨kw,by rw[aB b0.symm,aB d4];exact h1,h2⟩
 have ak:∀(i:Nat) (b:Vb),ea[i]?=Vn b->∃z,qs[i]?=Vn z/\ao (upd (upd H2 kn (.dT [])) f (.frz Y (.dT kvs))) b z:=λi b hb=>by obtain⟨kv,d,r⟩:=bU aj hb;obtain⟨z,A,c3⟩:=bU pk d;refine⟨z,A,?_⟩;rw[c3.1]at r;exact ao.put c9 N r
 have bb:upd (upd H2 kn (.dT [])) f (.frz Y (.dT kvs)) f=Vn (.frz Y (.dT kvs)):=aF;generalize upd (upd H2 kn (.dT [])) f (.frz Y (.dT kvs))=H3 at Z ak bb ⊢;clear aj c5 J c9 ai c4 ad;refine j3 (λi ys H'=>H'=H3/\∃as,ys=A0 V.ref as/\Paired (ao H3) as ((qs.take i).filter λz=>decide ((aL ws z).length=0))) (by rw[c0,c1];exact FI ct (by decide)) ⟨rfl,[],rfl,.nil⟩ (λi ys H' h=>by obtain⟨rfl,as,rfl,has⟩:=h;refine⟨bb,?_⟩;rw[E7,cA has];exact FI (GF _ _) (by rw[FZ];lia)) ?_ ?_
 .rintro i b ys H4 hb ⟨rfl,as,rfl,has⟩;obtain⟨z,A,O⟩:=ak i b hb;obtain⟨kw,eb,_,ca⟩:=Z.wd;have cc:(qs.take (i+1)).filter (λz=>decide ((aL ws z).length=0))=(qs.take i).filter (λz=>decide ((aL ws z).length=0))++if decide ((aL ws z).length=0)then[z]else[]:=by rw[GA,A,GL];congr 1;show G7 _ [z]=_;rw[GQ];rfl
  left;refine⟨wt,_,rfl,by have:=bw.t eb (k:=aA z) O;rw[ca z (Fh A)]at this;exact this,?_⟩;left;rw[cc];by_cases e:(aL ws z).length=0
  .rw[F4 (show(((aL ws z).length:Nat):Int)=0 by lia),F4 e];right;exact⟨rfl,as++[b],by rw[Fq];rfl,gr has O⟩
  .rw[F3 (show ¬(((aL ws z).length:Nat):Int)=0 by lia),F3 e];refine aC ⟨rfl,as,rfl,?_⟩;rw[F5 Fp,GJ];exact has
 rintro ys H4 rw ⟨rfl,as,rfl,has⟩ a0;rw[c0,c1,FD]at has;have e5:=aY (o:=.lst (A0 V.ref as)) a0;have d5:=Z.ext e5;have d6:B rw=Vo:=by
  cases w:B rw with
  | none=>rfl
  | some o=>
   by_cases e:rw=f
   .rw[e,bb]at a0;cases a0
   .rw[Z.kx _ _ e w]at a0;cases a0
 have ec:=KhS.start (ws:=ws) G (W:=λz=>(aL ws z).length) λz _=>rfl;have d7:upd H4 rw (.lst (A0 V.ref as)) rw=Vn (.lst (A0 V.ref as)):=aF;have d8:=bz (λa x h=>e5 _ _ h) has;generalize upd H4 rw (.lst (A0 V.ref as))=H5 at d5 d7 d8 ⊢;clear e5 Z ak bb has a0;left;refine eV (λM σ H'=>∃Kn R W k1 k2,KH kvs qs B H' f wt kn W Kn/\KhS ws qs Kn R W/\(∃as,H' rw=Vn (.lst (A0 V.ref as))/\Paired (ao H') as R)/\M=24013-Kn.length/\σ=[Vn (.ref f),Vn (.ref g),Vn (.ref wt),k1,Vn (.ref kn),Vn (.ref rw),k2]) (λσ H'=>∃Kn W k1 k2,KH kvs qs B H' f wt kn W Kn/\KhS ws qs Kn [] W/\σ=[Vn (.ref f),Vn (.ref g),Vn (.ref wt),k1,Vn (.ref kn),Vn (.ref rw),k2]) _ ⟨[],_,_,_,_,d5,ec,⟨as,d7,d8⟩,rfl,rfl⟩ ?_ ?_
 .rintro M σ H6 ⟨Kn,R,W,k1,k2,Z,ks,⟨as,C,pr⟩,rfl,rfl⟩;have hal:=cA pr;have d9:(Kn.map (·.1)).Nodup:=(GD.mp ks.nd).1;have ex:Kn.length<=24012:=by have:=sub_len d9 λz A=>ks.inq z (FT _ A);rw[E7]at this;lia
  left;by_cases hR:R=[]
  .subst hR;have:as=[]:=by cases as with|nil=>rfl|cons a b=>cases hal
   subst this;refine⟨false,.inl ⟨_,ag.of C,rfl⟩,?_⟩;refine aC ?_;exact⟨Kn,W,_,_,Z,ks,rfl⟩
  obtain⟨R',z,rfl⟩:∃R' z,R=R'++[z]:=⟨R.dropLast,R.getLast hR,(IH hR).symm⟩;obtain⟨p,b,rfl,da,ad⟩:=mV pr;refine⟨true,.inl ⟨_,ag.of C,by simp⟩,?_⟩;refine aI ?_;refine⟨λdb H'=>∃a6 bc s k1 k2,KH kvs qs B H' f wt kn s a6/\KhS ws qs a6 bc s/\(∃as,H' rw=some (.lst (A0 V.ref as))/\Paired (ao H') as bc)/\a6.length=Kn.length+1/\db=[some (.ref f),some (.ref g),some (.ref wt),k1,some (.ref kn),some (.ref rw),k2],λdb H' ⟨a6,bc,s,k1,k2,a1,a2,a3,a4,a5⟩=>⟨24013-a6.length,by lia,a6,bc,s,k1,k2,a1,a2,a3,rfl,a5⟩,?_⟩;have X:z∈qs:=ks.inq z (by simp);have dc:z∉Kn.map (·.1):=λw=>(GD.mp ks.nd).2.2 z w z (by simp) rfl;have dd:∀y,aZ ws z y->y∈Kn.map (·.1):=mB.mp (by rw[<-ks.w z X];exact(ks.z0 z X).mpr (by simp));left;refine⟨cg (ag.of C),?_⟩;left;refine⟨rw,_,.ref b,rfl,rfl,C,by rw[Fq,Fs,Jp,GG,Ik,Fy (Fu _),Jd];rfl,?_⟩;rw[show (A0 V.ref (p++[b])).dropLast=A0 V.ref p by rw[Fq];exact JR];have a9:=Z.put (u':=.lst (A0 V.ref p)) C d6;have be:ao (upd H6 rw (.lst (A0 V.ref p))) b z:=ao.put C dh ad;have cd:upd H6 rw (.lst (A0 V.ref p)) rw=some (.lst (A0 V.ref p)):=aF;have ce:=bz (λa x h=>ao.put (o':=.lst (A0 V.ref p)) C dh h) da;generalize upd H6 rw (.lst (A0 V.ref p))=H7 at a9 be cd ce;clear Z C pr da ad hal;obtain⟨l,cs,hv,cf,ch,_⟩:=cv z X H7 a9.kx;obtain⟨ed,dg⟩:=a9.fz;have er:(aL ws z).length<=100:=FI iS bu;have dk:=F9 ch;left;refine⟨f,.ref l,rfl,.inr ⟨kvs,aA z,b,.inr ⟨ed,dg⟩,rfl,be,hv.symm⟩,?_⟩;refine bQ (ag.of cf) ?_;refine dJ (xs:=A0 V.ref cs) (λi ys H'=>H'=H7/\ys=(((aL ws z).take i).map λe=>((cV Kn e.2+1:Nat):Int)).map V.int) (b7 (by rw[E7];lia)) ⟨rfl,rfl⟩ (λi ys H' _ h=>by obtain⟨rfl,rfl⟩:=h;refine⟨ag.of cf,?_⟩;rw[E7,E7,FZ];lia) ?_ ?_
  .rintro i u ys H8 hu ⟨rfl,rfl⟩;rw[E9]at hu;obtain⟨a,ha,rfl⟩:=Fj.mp hu;obtain⟨⟨k,y⟩,hy,b2,hab,eg⟩:=bU ch ha;have ei:=dd y (dM.mp ⟨k,Fh hy⟩);obtain⟨kk,ej,d⟩:=a9.kd.val d9 (iO ei);left;refine dD (ay.of hab) rfl ?_;left;right;refine⟨kn,_,rfl,by have:=bw.t ej (k:=aA y) eg;rw[d]at this;exact this,?_⟩;left;refine⟨rfl,?_⟩;rw[GA,hy,Fq,Fq];rfl
  rintro ys H8 p8 ⟨rfl,rfl⟩ dl;rw[E7,dk,FD];have e9:=aY (o:=.lst (((aL ws z).map λe=>((cV Kn e.2+1:Nat):Int)).map V.int)) dl;have ci:upd H8 p8 (.lst (((aL ws z).map λe=>((cV Kn e.2+1:Nat):Int)).map V.int)) p8=Vn (.lst (((aL ws z).map λe=>((cV Kn e.2+1:Nat):Int)).map V.int)):=aF;have cl:=a9.ext e9;have bg:=e9 _ _ be;have bi:=e9 _ _ cd;have cm:=bz (λa x h=>e9 _ _ h) ce;generalize upd H8 p8 (.lst (((aL ws z).map λe=>((cV Kn e.2+1:Nat):Int)).map V.int))=H9 at ci cl bg bi cm ⊢;clear e9 dl a9 be cd ce cf ch dg hv;left;refine Az (ag.of ci) λM hM=>?_;obtain⟨n,rfl,ek⟩:=ve dd ks.lw hM;obtain⟨kk,am,b3,ab⟩:=cl.kput dc;have ab:=ab n;left;refine⟨kn,_,rfl,cX.t am (k:=aA z) bg (cj (by lia)),?_⟩;have dn:ao (upd H9 kn (.dT (putK kk (aA z) (.int (n:Nat))))) b z:=ao.put am dF bg;have dp:upd H9 kn (.dT (putK kk (aA z) (.int (n:Nat)))) rw=Vn (.lst (A0 V.ref p)):=by rw[aB (bp bi am (by intro z;cases z))];exact bi
  have dr:=bz (λa x h=>ao.put (o':=.dT (putK kk (aA z) (.int (n:Nat)))) am dF h) cm;generalize upd H9 kn (.dT (putK kk (aA z) (.int (n:Nat))))=HA at ab dn dp dr ⊢;clear cl bg bi cm ci am hM;obtain⟨⟨z',a'⟩,hza,e⟩:=F7.mp (show z∈zas.map (·.1) by rw[bv];exact X);have e:z'=z:=e;subst e;obtain⟨kg,co,el⟩:=ah.val e1 hza;obtain⟨la,S,ds⟩:=ah.it _ hza;have em:g≠f:=λe=>by rw[e,I]at co;cases co
  have dt:a'≠f:=λe=>by rw[e,I]at S;cases S
  have du:=cA ds;left;refine⟨g,.ref a',rfl,by have:=bw.t (ab.kx _ _ em co) (k:=aA z') dn;rw[el]at this;exact this,?_⟩;refine bQ (ag.of (ab.kx _ _ dt S)) ?_;refine forL (xs:=A0 V.ref la) (λj σ H'=>∃s new k2,KH kvs qs B H' f wt kn s (Kn++[(z',n)])/\KhI qs (br ws qs z') W s new j/\(∃as,H' rw=Vn (.lst (A0 V.ref as))/\Paired (ao H') as (R'++new))/\σ=[Vn (.ref f),Vn (.ref g),Vn (.ref wt),Vn (.ref b),Vn (.ref kn),Vn (.ref rw),k2]) ⟨W,[],_,ab,⟨λu _=>by rw[List.take_zero,IV];rfl,λu=>by simp,Gq⟩,⟨p,dp,by rw[GJ];exact dr⟩,rfl⟩ (λj σ H' _ h=>by obtain⟨_,_,_,h,_⟩:=h;exact ag.of (h.kx _ _ dt S)) ?_ ?_
  .rintro j u σ HB hu ⟨s,new,k2,bl,ki,⟨an,U,bm⟩,rfl⟩;rw[E9]at hu;obtain⟨c,hc,rfl⟩:=Fj.mp hu;obtain⟨y,hy,dx⟩:=bU ds hc;have cp:ao HB c y:=bl.kx.pl I N dx;have en:=gB (Fh hy);have dy:=KhI.pos (R':=[]) G ks dc ki hy;have bn:=ki.step hy dy;obtain⟨kw,ap,es,ca,ar⟩:=bl.wput en;have ar:=ar (s y-1);have ev:=cA bm;left;refine⟨wt,_,rfl,by have:=bw.t ap (k:=aA y) cp;rw[ca]at this;exact this,?_⟩;left;rw[show ((s y:Nat):Int)-1=((s y-1:Nat):Int) by lia];refine⟨wt,_,rfl,cX.t ap (k:=aA y) cp (cj (by lia)),?_⟩;have au:ao (upd HB wt (.dT (putK kw (aA y) (.int ((s y-1:Nat):Int))))) c y:=ao.put ap dF cp;have e0:upd HB wt (.dT (putK kw (aA y) (.int ((s y-1:Nat):Int)))) wt=Vn (.dT (putK kw (aA y) (.int ((s y-1:Nat):Int)))):=aF;have L:upd HB wt (.dT (putK kw (aA y) (.int ((s y-1:Nat):Int)))) rw=Vn (.lst (A0 V.ref an)):=by rw[aB (bp U ap (by intro z;cases z))];exact U
   have cr:=bz (λa x h=>ao.put (o':=.dT (putK kw (aA y) (.int ((s y-1:Nat):Int)))) ap dF h) bm;generalize upd HB wt (.dT (putK kw (aA y) (.int ((s y-1:Nat):Int))))=HC at ar au e0 L cr ⊢;left;refine cC ?_;left;refine⟨wt,_,rfl,by have:=bw.t e0 (k:=aA y) au;rw[fX,F6 rfl]at this;exact this,?_⟩;left;by_cases h0:s y-1=0
   .rw[F4 (show((s y-1:Nat):Int)=0 by lia)];refine aI ?_;rw[F6 h0]at bn;have ey:(R'++new).length<=24012:=by
     have h1:(R'++new).Nodup:=by rw[GD];refine⟨((GD.mp (GD.mp ks.nd).2.1).1),ki.nd,λa ha c hc e=>?_⟩;subst e;obtain⟨h1,h2⟩:=(ki.nw a).mp hc;have aq:=gB (Gs h1);have h3:=ki.w a aq;have h4:=IE.mpr h1;have:=(ks.z0 a aq).mpr (FR _ (FT _ ha));lia
     have:=sub_len h1 (m:=qs) λa ha=>by
      rcases Fx.mp ha with w|w
      .exact ks.inq a (FR _ (FT _ w))
      .exact gB (Gs ((ki.nw a).mp w).1)
     lia
    left;refine⟨cg (ag.of L),?_⟩;left;refine bR L (cj (by rw[E7];lia)) ?_;left;refine⟨_,_,_,ar.put L d6,bn,⟨an++[c],by rw[aF,Fq];rfl,?_⟩,rfl⟩;rw[<-Gm];exact gr (bz (λa x h=>ao.put L dh h) cr) (ao.put L dh au)
   .rw[F3 (show ¬((s y-1:Nat):Int)=0 by lia)];refine aC ?_;rw[F5 h0]at bn;left;exact⟨_,_,_,ar,bn,⟨an,L,cr⟩,rfl⟩
  .rintro σ HB ⟨s,new,k2,bl,ki,⟨an,U,bm⟩,rfl⟩;rw[E7,du]at ki;left;exact⟨_,_,_,_,_,bl,ks.done G ek ki,⟨an,U,bm⟩,by rw[Fs];rfl,rfl⟩
 .rintro σ H' ⟨Kn,W,k1,k2,Z,ks,rfl⟩;left;obtain⟨ep,eq⟩:=Z.fz;have nd:=ks.nd;have inq:=ks.inq;rw[GJ]at nd inq;refine q kn ep Kn H' (λb o nb z=>Z.kx b o nb (kxB b o nb z)) eq ?_ Z.kd nd (λe he=>⟨inq _ (F7.mpr ⟨e,he,rfl⟩),ks.lw e he⟩) λz A h=>ks.all A h;cases w:H kn with
  | none=>rfl
  | some o=>rw[kxB _ _ b4.symm w]at ba;cases ba
def vU(h:n<=xs.length):bY xs (Vn (n:Int)) Vo=xs.drop n:=by unfold bY;rw[HT.lJ,HT.pA,JW h];exact Hz (by rw[HP];exact Fu _)
structure MD(H:Hp)(md:Vb)(ms:List Bfs.Pl):Prop where
 at_:∃kd,H md=Vn (.dT kd)/\kd.length<=ms.length/\(∀j z,ms[j]?=Vn z->a7 kd (aA z)=Vn (.int (j:Nat)))/\∀z,z∉ms->a7 kd (aA z)=Vo
def BS(ok:HOuse m ws)(h:(k,y)∈aL ws z)(a:y.2<=T):aN ws T z k=Vn y:=by obtain⟨j,c,e⟩:=F7.mp h;cases e;obtain⟨w,b,ho,e⟩:=mw c;rw[e]at a ⊢;exact ug b (ok.ok w (Fh b)).dd ho a
inductive xh(K:E3)(vs:List V)(H:Hp)(Q:VK)(E:XK):Prop|mk:∀f kn a od kvs qs m ws T Kn x,vs=[.ref f,.ref kn,.ref a]->H f=Vn (.frz od (.dT kvs))->Paired (dj ws H) kvs qs->qs.Nodup->qs.length<=24012->HOuse m ws->(∀z∈qs,z.2<=T)->(∀z∈qs,∀y,aZ ws z y->y∈qs)->KD H kn Kn->(Kn.map (·.1)).Nodup->(∀z∈qs,(∀y,aZ ws z y->y∈Kn.map (·.1))->z∈Kn.map (·.1))->ao H a x->x∈qs->x∉Kn.map (·.1)->(∀t b c as bs y H',Ext H H'->H' t=Vn (.tup [.str "same",.ref b,.ref c])->H' b=Vn (.lst (aW as))->H' c=Vn (.lst (aW bs))->Bfs.gone (nx:=aN ws T) x as=Vn y->Bfs.gone (nx:=aN ws T) y bs=Vn y->0<bs.length->as.length+bs.length<=qs.length->Q (.ref t) H')->xh K vs H Q E
theorem Be(T:Bu w mg base):Cal P w K mg base "staying_part" 1 ["steps","known","place"] (xh K):=by
 refine(dX T.d_staying_part).oS ["steps","known","place","walk","met","here","unknown"] λhr nd H vs Q E h=>?_;obtain⟨f,kn,pa,od,kvs,qs,m,ws,TT,Kn,x,rfl,hf,pk,bi,bl,ok,hT,hcl,kd,bm,hall,hx,bn,bu,q⟩:=h;have ak:=ok.few;refine⟨_,(@av _ _ _ _ _ (@aH _ _ 3 _ _ _ _ nd rfl oi (@bI _ _ _ _ aa) rfl oi)
   (@av _ _ _ _ _ (@aH _ _ 4 _ _ _ _ nd rfl oi jz rfl oi)
   (@av _ _ _ _ _ (@aH _ _ 5 _ _ _ _ nd rfl oi (pv 2) rfl oi)
   (@av _ _ _ _ _ (fi F8 (fY (gN (bo hr) (pv 5) (pv 4)) (by with_unfolding_all rfl)) (@av _ _ _ _ _ (fg (bo hr) (pv 4) (pv 5) (bq (cn K) rfl T.len_ GI (af (pv 3) aa rfl)) rfl)
   (@av _ _ _ _ _ (fE (i:=6) ["step"] [1] nd rfl oi (bP K (cz (bo hr) (pv 0) (pv 5) (λ_ _=>rfl))) (λ_=>(aO (i:=0) (show(["step","known"]:List Vm).Nodup from by decide +kernel) rfl oi oj)) (λ_=>(dI (fY (gN (bo hr) (@ax _ _ _ _ _ _ _ (aD K) (pv 0) ae (λ_ _=>rfl)) (pv 1)) (by with_unfolding_all rfl)))) (λ_=>(pv 0)))
   (@av _ _ _ _ _ (bA (bO K Ff Fv Fw bV (pv 3) (af (@ax _ _ _ _ _ _ _ (aD K) (@ax _ _ _ _ _ _ _ (aQ K) (pv 6) ae (λ_ _=>rfl)) ae (λ_ _=>rfl)) aa rfl)))
   (@az _ _ _ (@aH _ _ 5 _ _ _ _ nd rfl oi (@ax _ _ _ _ _ _ _ (aD K) (@ax _ _ _ _ _ _ _ (aQ K) (pv 6) ae (λ_ _=>rfl)) ae (λ_ _=>rfl)) rfl oi))))))
   (@az _ _ _ (@aK _ _ _ _ (@bH _ _ _ _ _ (af a8 (af (fM (f7 K) (pv 3) gJ (eS (cz (bo hr) (pv 4) (pv 5) (λ_ _=>rfl)))) (af (fM (f7 K) (pv 3) (eS (cz (bo hr) (pv 4) (pv 5) (λ_ _=>rfl))) gJ) aa rfl) rfl) rfl)))))))),?_⟩
 left;refine aS λwl H1 e1 am bv=>?_;left;refine λmd S=>?_;left;have e2:Ext H (upd H1 md (.dT [])):=e1.trans (aY S);have c0:H md=Vo:=e1.none S;have a3:upd H1 md (.dT []) wl=Vn (.lst (aW [])):=(aY S) _ _ am;have a4:upd H1 md (.dT []) md=Vn (.dT []):=aF;generalize upd H1 md (.dT [])=H2 at e2 a3 a4 ⊢;refine eV (λM σ H'=>∃ms ks z b k1,Ext H H'/\H' wl=Vn (.lst (aW ks))/\MD H' md ms/\ms.Nodup/\(∀u∈ms,u∈qs)/\ks.length=ms.length/\(∀j u,(ms++[z])[j]?=Vn u->Bfs.gone (nx:=aN ws TT) x (ks.take j)=Vn u)/\ao H' b z/\z∈qs/\z∉Kn.map (·.1)/\M=24013-ms.length/\σ=[Vn (.ref f),Vn (.ref kn),Vn (.ref pa),Vn (.ref wl),Vn (.ref md),Vn (.ref b),k1]) (λσ H'=>∃ms ks z b k1,Ext H H'/\H' wl=Vn (.lst (aW ks))/\MD H' md ms/\(∀u∈ms,u∈qs)/\ms.length<=qs.length/\ks.length=ms.length/\(∀j u,(ms++[z])[j]?=Vn u->Bfs.gone (nx:=aN ws TT) x (ks.take j)=Vn u)/\ao H' b z/\z∈ms/\σ=[Vn (.ref f),Vn (.ref kn),Vn (.ref pa),Vn (.ref wl),Vn (.ref md),Vn (.ref b),k1]) _ ⟨[],[],x,pa,_,e2,a3,⟨[],a4,Fu _,λj z h=>(by cases h),λz _=>rfl⟩,Gq,λu h=>(nomatch h),rfl,?_,e2 _ _ hx,bn,bu,rfl,rfl⟩ ?_ ?_
 .intro j u d;cases j with
  | zero=>cases d;rfl
  | succ j=>cases d
 .clear a3 a4 e2 am e1 S;rintro M σ H3 ⟨ms,ks,z,b,k1,e3,g,N,a5,O,B,C,n,U,c1,rfl,rfl⟩;have c2:ms.length<=24012:=FI (sub_len a5 O) bl;obtain⟨F,p,Z,G,A⟩:=N.at_;left;refine⟨md,_,rfl,bw.t p (k:=aA z) n,?_⟩;by_cases s:z∈ms
  .obtain⟨j,d⟩:=FX s;rw[G j z d];symm;exact⟨ms,ks,z,b,_,e3,g,N,O,sub_len a5 O,B,C,n,s,rfl⟩
  rw[A z s];exfalso;refine⟨λan H'=>∃m',m'<24013-ms.length/\∃ms ks z b k1,Ext H H'/\H' wl=Vn (.lst (aW ks))/\MD H' md ms/\ms.Nodup/\(∀u∈ms,u∈qs)/\ks.length=ms.length/\(∀j u,(ms++[z])[j]?=Vn u->Bfs.gone (nx:=aN ws TT) x (ks.take j)=Vn u)/\ao H' b z/\z∈qs/\z∉Kn.map (·.1)/\m'=24013-ms.length/\an=[Vn (.ref f),Vn (.ref kn),Vn (.ref pa),Vn (.ref wl),Vn (.ref md),Vn (.ref b),k1],λan H' h=>h,?_⟩;left;refine dE (ag.of g) ?_;left;refine⟨md,_,rfl,cX.t p (k:=aA z) n (cj (by lia)),?_⟩;rw[E7,B];have e4:Ext H (upd H3 md (.dT (putK F (aA z) (.int (ms.length:Nat))))):=bM e3 c0;have a6:MD (upd H3 md (.dT (putK F (aA z) (.int (ms.length:Nat))))) md (ms++[z]):=by
   refine⟨_,aF,FI (jX _ _ _) (by rw[Fs,GG];lia),λj u d=>?_,λu hu=>?_⟩
   .rw[fX];rcases FW j ms.length with l|l
    .rw[Fz l]at d;rw[F5 (λe=>s (by rw[<-g9 e];exact Fh d))];exact G j u d
    .rw[Fy l]at d;have:j-ms.length=0:=by have:=(Fg.mp d).1;simpa using this
     rw[this]at d;cases d;rw[F6 rfl,show j=ms.length by lia]
   .rw[Fx,not_or,Fi]at hu;rw[fX,F5 (λe=>hu.2 (g9 e))];exact A u hu.1
  have W:upd H3 md (.dT (putK F (aA z) (.int (ms.length:Nat)))) wl=Vn (.lst (aW ks)):=by rw[aB (bp g p (by intro z;cases z))];exact g
  have a9:ao (upd H3 md (.dT (putK F (aA z) (.int (ms.length:Nat))))) b z:=ao.put p dF n;generalize upd H3 md (.dT (putK F (aA z) (.int (ms.length:Nat))))=H4 at e4 a6 W a9 ⊢;clear N p Z G A g n e3;obtain⟨v,hv,c3⟩:=ef (key:=λz:Bfs.Pl=>z) (λ_ _ z=>z.1) pk (by simpa using bi) U;obtain⟨_,l,cs,ev,ab,ac⟩:=c3.ext e4;cases ev;have ap:=F9 ac;have cf:(aL ws z).length<=100:=FI iS ak;obtain⟨kk,c4,aq⟩:=id kd;left;refine⟨f,.ref l,rfl,.inr ⟨kvs,aA z,b,.inr ⟨od,e4 _ _ hf⟩,rfl,a9,hv.symm⟩,?_⟩;refine bQ (ag.of ab) ?_;refine dJ (xs:=A0 V.ref cs) (λi ys H'=>H'=H4/\∃us,ys=A0 V.ref us/\Paired (dN H4) us (((aL ws z).take i).filter λe=>decide (e.2∉Kn.map (·.1)))) (b7 (by rw[E7];lia)) ⟨rfl,[],rfl,.nil⟩ (λi ys H' _ h=>by obtain⟨rfl,us,rfl,r⟩:=h;refine⟨ag.of ab,?_⟩;rw[E7,F9 r];exact FI (GF _ _) (by rw[FZ];lia)) ?_ ?_
  .rintro i u ys H5 hu ⟨rfl,us,rfl,r⟩;rw[E9]at hu;obtain⟨a,ha,rfl⟩:=Fj.mp hu;obtain⟨⟨k,y⟩,hy,b2,hab,I⟩:=bU ac ha;have ad:((aL ws z).take (i+1)).filter (λe=>decide (e.2∉Kn.map (·.1)))=((aL ws z).take i).filter (λe=>decide (e.2∉Kn.map (·.1)))++if decide (y∉Kn.map (·.1))then[(k,y)]else[]:=by rw[GA,hy,GL];congr 1;show G7 _ [(k,y)]=_;rw[GQ];rfl
   rw[ad];left;refine aE (ay.of hab) (v:=.ref b2) rfl ?_;left;refine⟨kn,_,rfl,bw.t (e4 _ _ c4) (k:=aA y) I,?_⟩;by_cases J:y∈Kn.map (·.1)
   .obtain⟨e,he,rfl⟩:=F7.mp J;obtain⟨v1,c5,_⟩:=ef (key:=λe:Bfs.Pl×Nat=>e.1) (λ_ _ z=>z.1) aq bm he;rw[c5,F3 (λh=>h J)];refine rd_exb (aC ⟨rfl,us,rfl,?_⟩);rw[F5 Fp,GJ];exact r
   .rw[eR (key:=λe:Bfs.Pl×Nat=>e.1) (λ_ _ z=>z.1) aq J,F4 J];exfalso;left;refine⟨rfl,us++[a],by rw[Fq];rfl,?_⟩;rw[F6 rfl];exact Gz r ⟨b2,hab,I⟩
  rintro ys H5 p5 ⟨rfl,us,rfl,r⟩ X;rw[E7,ap,FD]at r;have c9:p5≠wl:=λe=>by rw[e,W]at X;cases X
  have e6:=aY (o:=.lst (A0 V.ref us)) X;have ah:upd H5 p5 (.lst (A0 V.ref us)) p5=Vn (.lst (A0 V.ref us)):=aF;have R:Paired (dN (upd H5 p5 (.lst (A0 V.ref us)))) us _:=Paired.mapP r λ_ _ z=>z.ext e6;have L:=e6 _ _ W;have ar:=e4.trans e6;have as:MD (upd H5 p5 (.lst (A0 V.ref us))) md (ms++[z]):=by obtain⟨ai,h1,h2⟩:=a6.at_;exact⟨ai,e6 _ _ h1,h2⟩
  generalize upd H5 p5 (.lst (A0 V.ref us))=Y at ah R L ar as ⊢;clear r X ab ac a6 W a9 e4;obtain⟨⟨k,y⟩,rest,a0⟩:∃e rest,(aL ws z).filter (λe=>decide (e.2∉Kn.map (·.1)))=e::rest:=by
   cases hq:(aL ws z).filter (λe=>decide (e.2∉Kn.map (·.1)))with
   | cons e rest=>exact⟨e,rest,rfl⟩
   | nil=>
    refine absurd (hall z U λy hy=>?_) c1;obtain⟨k,hk⟩:=dM.mpr hy;have:=KR.mp hq _ hk;simpa using this
  have aj:=GC.mp (show(k,y)∈(aL ws z).filter (λe=>decide (e.2∉Kn.map (·.1))) by rw[a0];exact Fe);have J:y∉Kn.map (·.1):=of_decide_eq_true aj.2;have hys:aZ ws z y:=dM.mp ⟨k,aj.1⟩;have au:=hcl z U y hys;rw[a0]at R;cases R with
  | @cons a _ ca _ hab _=>
  obtain⟨b2,hab,I⟩:=hab;have I:ao Y b2 y:=I;left;refine⟨cg (ag.of L),?_⟩;left;refine aP (ag.of ah) (v:=.ref a) (eQ (HY 0) rfl) ?_;left;refine aE (ay.of hab) (v:=.int (k:Nat)) rfl ?_;left;refine bR L (cj (by rw[E7];lia)) ?_;rw[<-lj];have b0:Ext H (upd Y wl (.lst (aW (ks++[k])))):=bM ar bv;have b1:upd Y wl (.lst (aW (ks++[k]))) p5=some (.lst (A0 V.ref (a::ca))):=by rw[aB c9];exact ah
  have a1:upd Y wl (.lst (aW (ks++[k]))) a=Vn (.tup [.int (k:Nat),.ref b2]):=by rw[aB (bp hab L (by intro z;cases z))];exact hab
  have a2:ao (upd Y wl (.lst (aW (ks++[k])))) b2 y:=ao.put L dh I;have b3:upd Y wl (.lst (aW (ks++[k]))) wl=Vn (.lst (aW (ks++[k]))):=aF;have b4:MD (upd Y wl (.lst (aW (ks++[k])))) md (ms++[z]):=by obtain⟨ai,h1,h2⟩:=as.at_;exact⟨ai,by rw[aB (bp h1 L (by intro z;cases z))];exact h1,h2⟩
  generalize upd Y wl (.lst (aW (ks++[k])))=H7 at b0 b1 a1 a2 b3 b4 ⊢;left;refine aP (ag.of b1) (v:=.ref a) (eQ (HY 0) rfl) ?_;left;refine aE (ay.of a1) (v:=.ref b2) rfl ?_;left;have ba:=C ms.length z (by rw[Fy (Fu _),Jd];rfl);rw[<-B,FD]at ba;refine⟨24013-(ms++[z]).length,by rw[Fs,GG];lia,ms++[z],ks++[k],y,b2,_,b0,b3,b4,?_,?_,by rw[Fs,Fs,B];rfl,λj u d=>?_,a2,au,J,rfl,rfl⟩
  .rw[GD];refine⟨a5,by simp,λa ha c hc e=>?_⟩;rw[Fi.mp hc]at e;exact s (e ▸ ha)
  .intro u hu;rcases Fx.mp hu with h|h
   .exact O u h
   .rw[Fi.mp h];exact U
  .rcases FW j (ms++[z]).length with l|l
   .rw[Fz l]at d;rw[Fs,GG]at l;rw[List.take_append_of_le_length (by lia)];exact C j u d
   .rw[Fy l]at d;have h0:j-(ms++[z]).length=0:=by have:=(Fg.mp d).1;simpa using this
    rw[h0]at d;cases d;rw[Fs,GG]at l h0;rw[Hz (by rw[Fs,GG];lia)];exact Bfs.kY ba (BS ok aj.1 (hT _ au))
 .rintro σ H3 ⟨ms,ks,z,b,k1,e3,g,N,O,c2,B,C,n,s,rfl⟩;obtain⟨F,p,Z,G,A⟩:=N.at_;obtain⟨j,d⟩:=FX s;have cc:=(Fg.mp d).1;have bb:=C j z (by rw[Fz cc];exact d);have bc:=C ms.length z (by rw[Fy (Fu _),Jd];rfl);rw[<-B,FD]at bc;have cd:Bfs.gone (nx:=aN ws TT) z (ks.drop j)=some z:=by have:=lY (nx:=aN ws TT) (ks.take j) (ks.drop j) x;rw[Kl,bb,bc]at this;exact this.symm
  have dg:bw H3 md (.ref b) (Vn (.int (j:Nat))):=by have:=bw.t p (k:=aA z) n;rw[G j z d]at this;exact this
  left;refine⟨md,_,rfl,dg,?_⟩;left;refine gh (ag.of g) (cE λl1 H5 e5 be _=>?_);rw[qU (by rw[E7];lia),<-JI]at be;have ce:bw H5 md (.ref b) (some (.int (j:Nat))):=by have:=bw.t (e5 _ _ p) (k:=aA z) (e5 _ _ n);rw[G j z d]at this;exact this
  left;refine⟨md,_,rfl,ce,?_⟩;left;refine gh (ag.of (e5 _ _ g)) (cE λl2 Y e6 bg _=>?_);rw[vU (by rw[E7];lia),<-K9]at bg;left;refine aS λt H7 e7 ht _=>?_;exact q t l1 l2 (ks.take j) (ks.drop j) z H7 (e3.trans (e5.trans (e6.trans e7))) ht ((e6.trans e7) _ _ be) (e7 _ _ bg) bb cd (by rw[HP];lia) (by rw[FZ,HP];lia)
def BI(ok:HOuse m ws)(f:cF m x)(h:∀r,0<=r->r<m->¬aX ws x (r,x.2+m))(l:aX ws x y):bC m (x.2+m) y:=by
 have m1:=ok.m1;obtain⟨n,o⟩:=l;have key:∀(n:Nat) (a:Bfs.Pl),Bfs.Rw (aZ ws) n x a->0<=a.1/\a.1<m/\0<=a.2/\a.2<x.2+m:=by
  intro n;induction n with
  | zero=>
   intro a ha;cases ha;exact⟨f.1,f.2.1,f.2.2.1,by omega⟩
  | succ n p=>
   intro a ha;cases ha with
   | @snoc _ _ u _ g hs=>
    obtain⟨_,_,q,v⟩:=p u g;obtain⟨i,j,s,w,_⟩:=fj ok.ok hs q;refine⟨i,j,s,?_⟩;by_cases e:a.2=x.2+m
    .exact absurd ⟨n+1,by have:=Bfs.Rw.snoc g hs;rwa [show a=(a.1,x.2+m)from HF rfl e]at this⟩ (h a.1 i j)
    .omega
 obtain⟨a,b,c,d⟩:=key n y o;exact⟨a,b,c,by omega⟩
def Ed(h:Kx f H H')(d:H f=Vn (.dT b))(p:Paired (dj ws H) kvs qs)(c:∀kv∈kvs,kv.2≠.ref f):Paired (dj ws H') kvs qs:=by
 induction p with
 | nil=>exact .nil
 | cons a _ e=>exact .cons (a.kx h d dF (c _ Fe)) (e λkv g=>c kv (Fb _ g))
theorem Ah(s:0<=m)(A:0<=T)(o:l.Nodup)(h:∀z∈l,bC m T z):(l.length:Int)<=m*(T+1):=by
 have inj:∀{g f j i:Int},0<=f->f<=T->0<=i->i<=T->g*(T+1)+f=j*(T+1)+i->g=j/\f=i:=λ{g f j i} h1 h2 B C e=>by
  have key:=λ{c d} q=>by
   have:=HQ (show c+1<=d by omega) (show 0<=T+1 by lia)
   rwa [Kw,Ky]at this
  rcases Int.lt_trichotomy g j with q|q|q
  .have:=key q;omega
  .subst q;exact⟨rfl,by lia⟩
  .have:=key q;lia
 have low:∀z∈l,0<=z.1*(T+1)+z.2:=λz n=>by obtain⟨a,_,b,_⟩:=h z n;have:=FE a (show 0<=T+1 by lia);lia
 have hmap:(l.map λz=>(z.1*(T+1)+z.2).toNat).Nodup:=by unfold JG at o ⊢;rw[HG];refine HV ?_ o;intro a b ha hb hab e;obtain⟨_,_,p,r⟩:=h a ha;obtain⟨_,_,b3,u⟩:=h b hb;have h1:=low a ha;have h2:=low b hb;obtain⟨v,w⟩:=inj p r b3 u (show a.1*(T+1)+a.2=b.1*(T+1)+b.2 by omega);exact hab (HF v w)
 have:=Bfs.hZ (m*(T+1)).toNat _ hmap (λy x=>by obtain⟨z,n,rfl⟩:=F7.mp x;obtain⟨g,f,p,r⟩:=h z n;have h1:=low z n;have:=HQ (show z.1+1<=m by lia) (show 0<=T+1 by lia);rw[Kw,Ky]at this;omega)
 rw[E7]at this;have:=FE s (show 0<=T+1 by lia);lia
theorem B3{n:Int}(c:1<=m)(a:0<=n+m)(b:l.Nodup)(h:∀z∈l,bC m (n+m) z)(d:k<=l.length):(k:Int)<=m*(n+m+m*m+1):=by have h1:=Ah (by lia) a b h;have h2:0<=m*m:=FE (by lia) (by lia);have:=JQ (show n+m+1<=n+m+m*m+1 by lia) (show 0<=m by lia);lia
inductive nT(K:E3)(vs:List V)(H:Hp)(Q:VK)(E:XK):Prop|mk:∀c m ws d x,vs=[c,.ref d]->bt H c m ws->HOuse m ws->ao H d x->cF m x->fO K->Tbs K H->((∃r:Int,aX ws x (r,x.2+m))->∀t a b as bs H',Et H H'->Tbs K H'->H' t=Vn (.tup [.str "rises",.ref a,.ref b])->H' a=Vn (.lst (aW as))->H' b=Vn (.lst (aW bs))->iU m ws x as bs->Q (.ref t) H')->((∀r:Int,0<=r->r<m->¬aX ws x (r,x.2+m))->(∀n:Nat,Bfs.Lw (aZ ws) x n->∀t H',Et H H'->Tbs K H'->H' t=Vn (.tup [.str "ends",.int (n:Nat)])->Q (.ref t) H')/\((∀n:Nat,¬Bfs.Lw (aZ ws) x n)->∀t a b as bs y U H',Et H H'->Tbs K H'->H' t=Vn (.tup [.str "same",.ref a,.ref b])->H' a=Vn (.lst (aW as))->H' b=Vn (.lst (aW bs))->Bfs.gone (nx:=aN ws U) x as=Vn y->Bfs.gone (nx:=aN ws U) y bs=Vn y->0<bs.length->((as.length+bs.length:Nat):Int)<=m*(x.2+m+m*m+1)->Q (.ref t) H'))->nT K vs H Q E
theorem sP(T:Bu w mg base):Cal P w K mg base "fate" 12 ["house","place"] (nT K):=by
 refine(bZ T.d_fate).oS ["house","place","told","steps","known"] λi nd H vs Q E h=>?_;obtain⟨vh,m,ws,B,x,rfl,hv,ok,F,Z,a0,a1,q1,q2⟩:=h;have m1:=ok.m1;have m2:=ok.m12;refine⟨_,(@av _ _ _ _ _ (@aH _ _ 2 _ _ _ _ nd rfl oi (aG (yP T) i (af (pv 0) (af (pv 1) aa rfl) rfl)) rfl oi)
   (@av _ _ _ _ _ (@bB _ _ _ _ _ _ _ _ (aT bG (@ax _ _ _ _ _ _ _ (aD K) (pv 2) ae (λ_ _=>rfl)) a8 (aR _)) (@az _ _ _ (@aK _ _ _ _ (pv 2))) aV)
   (@av _ _ _ _ _ (@aH _ _ 3 _ _ _ _ nd rfl oi (aG (AU T) i (af (pv 0) (af (pv 1) aa rfl) rfl)) rfl oi)
   (@av _ _ _ _ _ (@aH _ _ 4 _ _ _ _ nd rfl oi (aG (Cu T) i (af (pv 3) aa rfl)) rfl oi)
   (@av _ _ _ _ _ (@bB _ _ _ _ _ _ _ _ (fY (xN (bo i) (pv 1) (pv 4)) (by with_unfolding_all rfl)) (@az _ _ _ (@aK _ _ _ _ (@bH _ _ _ _ _ (af a8 (af (cz (bo i) (pv 4) (pv 1) (λ_ _=>rfl)) aa rfl) rfl)))) aV)
   (@az _ _ _ (@aK _ _ _ _ (aG (Be T) i (af (pv 3) (af (pv 4) (af (pv 1) aa rfl) rfl) rfl))))))))),?_⟩
 left;refine⟨vh,m,ws,B,x,rfl,hv,ok,F,Z,a0,a1,λhex t l1 l2 as bs H1 G j ht h1 h2 I=>?_,λhno t l N r U ks H1 G j _ ht hl ab ac ad i=>?_⟩
 .left;refine aE (ay.of ht) (v:=.str "rises") rfl ?_;left;refine cD ?_;rw[F4 rfl];exfalso;left;exact q1 hex t l1 l2 as bs H1 G j ht h1 h2 I
 .have hT:∀y,aX ws x y->bC m (x.2+m) y:=λy hy=>BI ok Z hno hy;have a2:x.2+m<=2000:=by have:=Z.2.2.2;lia
  obtain⟨qe,a3⟩:=q2 hno;have a4:=hv.et G;have J:ao H1 B x:=ao.et G F;left;refine aE (ay.of ht) (v:=.str "most") rfl ?_;left;refine cD ?_;rw[F3 (show ¬(FP "most")=FP "rises" by decide +kernel)];symm;left;refine⟨vh,m,ws,B,x,x.2+m,rfl,a4,ok,J,a2,hT,λf kvs qs H2 e2 hfn L pk p M nk hqr=>?_⟩;have hcl:∀z∈qs,∀y,aZ ws z y->y∈qs:=λz q y hy=>(hqr y).mpr (((hqr z).mp q).trans (.one hy));have O:x∈qs:=(hqr x).mpr .refl;left;refine⟨f,kvs,qs,ws,rfl,L,pk,p,M,ok.few,nk,hcl,λkn od Kn H3 kx a5 ah kd R hKn hall=>?_⟩;have e3:Ext H1 H3:=λb o hb=>kx b o (λz=>by rw[z,hfn]at hb;cases hb) (e2 _ _ hb);have s:ao H3 B x:=e3 _ _ J;have S:=G.trans e3.et;have W:=j.ext e3;have a6:Paired (dj ws H3) kvs qs:=Ed kx L pk nk;have hlw:∀n,Bfs.Lw (aZ ws) x n->x∈Kn.map (·.1):=λn hn=>Bfs.qQ (C:=λz=>z∈qs) (Kn:=λz=>z∈Kn.map (·.1)) (λa c ha hs=>hcl a ha c hs) (λz q h=>hall z q h) n x O hn;obtain⟨kk,u,a9⟩:=id kd;left;refine⟨kn,_,rfl,bw.t u (k:=aA x) s,?_⟩;by_cases d:x∈Kn.map (·.1)
  .have hmem:=iO d;obtain⟨ai,g,X⟩:=kd.val R hmem;rw[u]at g;cases g;rw[X];exfalso;left;refine⟨kn,_,rfl,by have:=bw.t u (k:=aA x) s;rw[X]at this;exact this,?_⟩;left;refine aS λt4 H4 Y A _=>?_;exact qe _ (hKn _ hmem).2 t4 H4 (S.trans Y.et) (W.ext Y) A
  .rw[eR (key:=λe:Bfs.Pl×Nat=>e.1) (λ_ _ z=>z.1) a9 d];symm;left;refine⟨f,kn,B,od,kvs,qs,m,ws,x.2+m,Kn,x,rfl,a5,a6,p,M,ok,λz q=>(hT z ((hqr z).mp q)).2.2.2,hcl,kd,R,hall,s,O,d,λt4 l1 l2 as bs y H4 Y A h1 h2 g1 g2 hb hl=>?_⟩;exact a3 (λn hn=>d (hlw n hn)) t4 l1 l2 as bs y _ H4 (S.trans Y.et) (W.ext Y) A h1 h2 g1 g2 hb (B3 m1 (by have:=Z.2.2.1;lia) p (λz q=>hT z ((hqr z).mp q)) hl)
def de.put{K:E3}{x q:Vm}{l:Vb}(h:de K x q line col H)(a:H l=Vn (.lst xs)):de K x q line col (upd H l (.lst ys)):=λc T b=>by
 rcases h c T b with h|⟨c',h1,h2⟩
 .exact .inl (by rw[aB (bp h a (by intro z;cases z))];exact h)
 .exact .inr ⟨c',by rw[aB (bp h1 a (by intro z;cases z))];exact h1,by rw[aB (bp h2 a (by intro z;cases z))];exact h2⟩
theorem Tbs.put{K:E3}{H:Hp}{l:Vb}{xs ys:List V}(h:Tbs K H)(a:H l=Vn (.lst xs)):Tbs K (upd H l (.lst ys)):=⟨de.put h.kept a,de.put h.low a,de.put h.risen a⟩
inductive yi(K:E3)(vs:List V)(H:Hp)(Q:VK)(E:XK):Prop|mk:∀c p,vs=[.int c,.int p]->0<p->(∀n H',Ext H H'->0<=n->n<=1000->Q (.int n) H')->yi K vs H Q E
theorem Aj(T:Bu w mg base):Cal P w K mg base "_law_number" 3 ["_law_cell_here","_law_prime"] (yi K):=by
 refine(bZ T.d__law_number).oS ["_law_cell_here","_law_prime","_law_draws_here"] λr nd H vs Q E h=>?_;obtain⟨c,p,rfl,s,q⟩:=h;refine⟨_,(av (aH (i:=2) nd rfl oi (aG (iI T) r (aw (pv 0) (aw (bI (jg (.c (.c (.c (.c .n)))))) (aw (pv 1) aa)))))
   (av (bB (aT bG (ax (aQ K) (pv 2) ae (λ_ _=>rfl)) ae (aR _)) (az (aK (ax (aQ K) (pv 2) ae (λ_ _=>rfl)))) aV)
   (av (bB (aT bG (ax (aQ K) (pv 2) ae (λ_ _=>rfl)) ae (aR _)) (az (aK (ax (aQ K) (pv 2) ae (λ_ _=>rfl)))) aV)
   (az (aK (ax (aQ K) (pv 2) ae (λ_ _=>rfl))))))),?_⟩
 left;refine aS λu M v b _=>?_;left;refine⟨c,u,[8,13,201,1001],p,rfl,b,by decide,by decide,s,λdq ds H1 x hd y a hb=>?_⟩;have d:Ext H H1:=v.trans x;obtain⟨j,l,_⟩:=cU a hb 0 rfl;obtain⟨z,A,e,B⟩:=cU a hb 1 rfl;obtain⟨C,F,f,G⟩:=cU a hb 2 rfl;obtain⟨I,J,g,L⟩:=cU a hb 3 rfl;left;refine aP (ag.of hd) l ?_;left;by_cases m:j=7
 .rw[F4 m];right;refine aP (ag.of hd) J ?_;exact q I H1 d g (by lia)
 .rw[F3 m];nofun;refine aP (ag.of hd) l ?_;left;by_cases o:j=6
  .rw[F4 o];right;refine aP (ag.of hd) F ?_;exact q C H1 d f (by lia)
  .rw[F3 o];nofun;refine aP (ag.of hd) A ?_;exact q z H1 d e (by lia)
inductive uy(K:E3)(vs:List V)(H:Hp)(Q:VK)(E:XK):Prop|mk:∀c p,vs=[.int c,.int p]->0<p->(∀n H',Ext H H'->0<=n->n<=12->Q (.int n) H')->uy K vs H Q E
theorem Eo(T:Bu w mg base):Cal P w K mg base "_law_small" 3 ["_law_cell_here","_law_prime"] (uy K):=by refine(bZ T.d__law_small).oS ["_law_cell_here","_law_prime"] λd nd H vs Q E h=>?_;obtain⟨c,p,rfl,e,q⟩:=h;refine⟨_,(@az _ _ _ (@aK _ _ _ _ (@ax _ _ _ _ _ _ _ (aQ K) (aG (iI T) d (af (pv 0) (af (@bI _ _ _ _ (af ae aa rfl)) (af (pv 1) aa rfl) rfl) rfl)) ae (λ_ _=>rfl)))),?_⟩;left;refine aS λf r g a _=>?_;left;refine⟨c,f,[13],p,rfl,a,by decide,by decide,e,λdq ds H1 i hd j l hb=>?_⟩;obtain⟨m,n,b,o⟩:=cU l hb 0 rfl;left;refine aP (ag.of hd) n ?_;exact q m H1 (g.trans i) b (by lia)
inductive vn(K:E3)(vs:List V)(H:Hp)(Q:VK)(E:XK):Prop|mk:∀i:Int,vs=[.int i,.int i]->Q (.bl true) H->vn K vs H Q E
def CQ(T:Bu w mg base):Cal P w K mg base "_law_is" 2 ["_law_found","_law_due"] (vn K):=by refine(bZ T.d__law_is).oS ["_law_found","_law_due"] λa nd H vs Q E h=>?_;obtain⟨i,rfl,q⟩:=h;refine⟨_,(az (aK (cR (aG (vN T) a (aw (pv 0) aa)) (dG (c6 bG (pv 0) (pv 1) (aR _)))))),?_⟩;left;refine⟨i,rfl,?_⟩;left;right;rw[F4 rfl];exact q
def zb(H:Hp)(c:Vb)(v:V)(m:Int)(ws:List Way)(a:Vb)(x:Bfs.Pl):Prop:=H c=Vn (.tup [v,.ref a])/\bt H v m ws/\HOuse m ws/\ao H a x/\cF m x/\(x.2<=12\/(m<=4/\x.2<=200))
inductive yd(K:E3)(vs:List V)(H:Hp)(Q:VK)(E:XK):Prop|mk:∀(a:Vb) (ns:List Int),vs=[.ref a]->ag K H a (ns.map V.int)->ns.length<=63->(∀c v m ws b x H',Ext H H'->zb H' c v m ws b x->Q (.ref c) H')->yd K vs H Q E
theorem Ap(T:Bu w mg base):Cal P w K mg base "_law_case" 5 ["_law_script"] (yd K):=by
 refine(cH T.d__law_case).oS ["_law_script","_law_house_here","_law_cell_here","_law_number_here"] λb nd H vs Q E h=>?_;obtain⟨a,ns,rfl,ha,f,q⟩:=h;refine⟨_,(@av _ _ _ _ _ (@aH _ _ 1 _ _ _ _ nd rfl oi (aG (zx T) b (af (aG (mF T) b (af (pv 0) (af ae aa rfl) rfl)) (af ae aa rfl) rfl)) rfl oi)
   (@av _ _ _ _ _ (@aH _ _ 2 _ _ _ _ nd rfl oi (aG (mF T) b (af (pv 0) (af ae aa rfl) rfl)) rfl oi)
   (@av _ _ _ _ _ (@aH _ _ 3 _ _ _ _ nd rfl oi (aG (Eo T) b (af (pv 2) (af ae aa rfl) rfl)) rfl oi)
   (@av _ _ _ _ _ (cL (aT fm (@ax _ _ _ _ _ _ _ (aD K) (pv 1) ae (λ_ _=>rfl)) ae (aR _)) (@az _ _ _ (@aH _ _ 3 _ _ _ _ nd rfl oi (aJ c8 (aG (Aj T) b (af (pv 2) (af ae aa rfl) rfl)) ae) rfl oi)) aV)
   (@az _ _ _ (@aK _ _ _ _ (@bH _ _ _ _ _ (af (pv 1) (af (@bH _ _ _ _ _ (af (aJ c8 (@ax _ _ _ _ _ _ _ (aQ K) (aG (iI T) b (af (aG (mF T) b (af (pv 0) (af ae aa rfl) rfl)) (af (@bI _ _ _ _ (af ae aa rfl)) (af ae aa rfl) rfl) rfl)) ae (λ_ _=>rfl)) (@ax _ _ _ _ _ _ _ (aD K) (pv 1) ae (λ_ _=>rfl))) (af (pv 3) aa rfl) rfl)) aa rfl) rfl)))))))),?_⟩
 left;refine⟨a,ns,0,rfl,ha,f,by decide,λz=>?_⟩;left;refine⟨z,_,rfl,by decide,λv m ws H1 g A ok3=>?_⟩;have ok:=ok3.house;have m1:=ok.m1;have m2:=ok.m12;obtain⟨G,t1,rfl,k1,k2⟩:=id A;left;refine⟨a,ns,1,rfl,ha.ext g,f,by decide,λi=>?_⟩;left;refine⟨i,_,rfl,by decide,λI H2 j l o=>?_⟩;left;refine iE (λσ H'=>∃n:Int,σ=[Vn (.ref a),Vn (.ref G),Vn (.int i),Vn (.int n)]/\Ext H1 H'/\0<=n/\(n<=12\/(m<=4/\n<=200))) ?_ ?_
 .left;refine aE (ay.of (j _ _ k1)) (v:=.int m) rfl ?_;left;by_cases B:m<5
  .rw[F4 B];right;refine⟨i,_,rfl,by decide,λC J e L M=>?_⟩;left
   try refine rd_I (show(0:Int)<201 by decide) ?_
   left;have N:=Ge C (show(201:Int)≠0 by decide);have q1:=GU C (show(0:Int)<201 by decide);exact⟨_,rfl,j.trans e,N,.inr ⟨by lia,by lia⟩⟩
  .rw[F3 B];nofun;exact⟨I,rfl,j,l,.inl o⟩
 rintro σ J ⟨n,rfl,e,p,r⟩;left;refine⟨a,ns,2,rfl,ha.ext (g.trans e),f,by decide,λO=>?_⟩;left;refine aS λR H4 S s _=>?_;left;refine⟨O,R,[12],_,rfl,s,by decide,by decide,by decide,λdq ds H5 U hd W u hb=>?_⟩;obtain⟨X,Y,Z,a0⟩:=cU u hb 0 rfl;have d:=e.trans (S.trans U);left;refine aP (ag.of hd) Y ?_;left;refine aE (ay.of (d _ _ k1)) (v:=.int m) rfl ?_
 try refine rd_I (show(0:Int)<m by lia) ?_
 left;refine aS λpa H6 F x _=>?_;left;refine aS λc H7 y hc _=>?_;exact q c _ m ws pa (X % m,n) H7 (g.trans (d.trans (F.trans y))) ⟨hc,A.ext (d.trans (F.trans y)),ok,y _ _ x,⟨Ge _ (by lia),GU _ (by lia),p,by show n<=1000;lia⟩,r⟩
theorem CG(ok:HOuse m ws)(a:cF m x)(h:aX ws x (r,x.2+m)):∃n,∃b,Bfs.Wk (aN ws (x.2+m)) x n (b,x.2+m):=by
 have m1:=ok.m1;obtain⟨n,h⟩:=h;have key:∀(n:Nat) (y:Bfs.Pl),Bfs.Rw (aZ ws) n x y->(∃n:Nat,∃b:Int,Bfs.Wk (aN ws (x.2+m)) x n (b,x.2+m))\/((0<=y.1/\y.1<m/\0<=y.2)/\y.2<x.2+m/\Bfs.Wk (aN ws (x.2+m)) x n y):=by
  intro n;induction n with
  | zero=>
   intro y h;cases h;exact .inr ⟨⟨a.1,a.2.1,a.2.2.1⟩,by lia,.zero⟩
  | succ n d=>
   intro y h;cases h with
   | @snoc _ _ z _ e hs=>
    rcases d z e with q|⟨⟨l,o,f⟩,hlt,hwk⟩
    .exact .inl q
    .obtain⟨g,i,j,b3,p⟩:=fj ok.ok hs f;obtain⟨k,c⟩:=mH ok.ok hs (show y.2<=x.2+m by lia);rcases(show y.2<x.2+m\/y.2=x.2+m by lia)with w|w
     .exact .inr ⟨⟨g,i,j⟩,w,.succ hwk c⟩
     .exact .inl ⟨n+1,y.1,by rw[show (y.1,x.2+m)=y from HF rfl w.symm];exact .succ hwk c⟩
 rcases key n _ h with q|⟨_,hlt,_⟩
 .exact q
 .exact absurd hlt (Int.lt_irrefl _)
def CL(ok:HOuse m ws)(b:cF m x)(hno:∀r,0<=r->r<m->¬aX ws x (r,x.2+m)):∀n y,Bfs.Rw (aZ ws) n x y->(0<=y.1/\y.1<m/\0<=y.2)/\y.2<x.2+m/\Bfs.Wk (aN ws (x.2+m)) x n y:=by
 intro n;induction n with
 | zero=>
  intro y h;have a:=kB ok b hno 0 y h;cases h;exact⟨a.1,a.2,.zero⟩
 | succ n c=>
  intro y h;have a:=kB ok b hno (n+1) y h;cases h with
  | @snoc _ _ z _ d hs=>
   obtain⟨_,_,hwk⟩:=c z d;obtain⟨k,e⟩:=mH ok.ok hs (show y.2<=x.2+m by omega);exact⟨a.1,a.2,.succ hwk e⟩
def CP{z:Vm}{zs:List Vm}(h:∀y∈zs,y≠z):hJ (.str z) (zs.map V.str)=false:=by unfold hJ;rw[Jc,Hr];intro e;obtain⟨y,a,e⟩:=FL.mp e;have e':(y == z)=true:=e;exact h y a (by simpa using e')
def DR(xs:List Vm):(xs.map V.str).all fI=true:=by rw[List.all_map,FK];intro x _;rfl
inductive rF(K:E3)(vs:List V)(H:Hp)(Q:VK)(E:XK):Prop|mk:∀v m ws a x b c as bs,vs=[v,.ref a,.ref b,.ref c]->bt H v m ws->HOuse m ws->ao H a x->H b=Vn (.lst (aW as))->H c=Vn (.lst (aW bs))->iU m ws x as bs->as.length+bs.length<=20000->(∀H',Ext H H'->Q (.bl true) H')->rF K vs H Q E
theorem A1(T:Bu w mg base):Cal P w K mg base "_law_rising" 3 ["_law_house_here","_law_place","_law_walk_here","_law_ring"] (rF K):=by
 refine(lT T.d__law_rising).oS ["_law_house_here","_law_place","_law_walk_here","_law_ring","_law_led","_law_gone_here"] λX nd H vs Q E h=>?_;obtain⟨v,m,ws,pa,x,l1,l2,as,bs,rfl,hv,ok,a0,F,e,G,hn,q⟩:=h;obtain⟨U,y,z,g1,Y,a1,hlt,ac,hge,hzero,_⟩:=G;refine⟨_,(@av _ _ _ _ _ (@bB _ _ _ _ _ _ _ _ (PW.pt (cY (cI (bT (aG (l3 T) X (af (pv 2) (af ae aa rfl) rfl)))) (cY (cI (bT (aG (l3 T) X (af (pv 3) (af ae aa rfl) rfl)))) (eL (aT bG (bq (cn K) rfl T.len_ GI (af (pv 3) aa rfl)) ae (aR _)))))) (@az _ _ _ (@aK _ _ _ _ b8)) aV)
   (@av _ _ _ _ _ (@aH _ _ 4 _ _ _ _ nd rfl oi (aG (lO T) X (af (pv 0) (af (pv 1) (af (pv 2) aa rfl) rfl) rfl)) rfl oi)
   (@av _ _ _ _ _ (@bB _ _ _ _ _ _ _ _ (aT nZ (pv 4) ib (aR _)) (@az _ _ _ (@aK _ _ _ _ b8)) aV)
   (@av _ _ _ _ _ (@aH _ _ 5 _ _ _ _ nd rfl oi (aG (lO T) X (af (pv 0) (af (@ax _ _ _ _ _ _ _ (aQ K) (pv 4) (dQ dH ae) (λ_ _=>rfl)) (af (pv 3) aa rfl) rfl) rfl)) rfl oi)
   (@av _ _ _ _ _ (@bB _ _ _ _ _ _ _ _ (PW.pt (cY (aT nZ (pv 5) ib (aR _)) (eL (aT (lZ K) a8 (cK ["_law_k"] [0] (bP K (pv 3)) (λ_=>(aO (i:=0) (show(["_law_k","_law_house_here"]:List Vm).Nodup from by decide +kernel) rfl oi oj)) (λ_=>dm) (λ_=>(@ax _ _ _ _ _ _ _ (aD K) (@ax _ _ _ _ _ _ _ (aD K) (@ax _ _ _ _ _ _ _ (aD K) (pv 1) ae (λ_ _=>rfl)) (pv 0) (λ_ _=>rfl)) ae (λ_ _=>rfl)))) (by with_unfolding_all rfl))))) (@az _ _ _ (@aK _ _ _ _ b8)) aV)
   (@az _ _ _ (@aK _ _ _ _ (cR (c6 bG (@ax _ _ _ _ _ _ _ (aD K) (@ax _ _ _ _ _ _ _ (aQ K) (pv 5) (dQ dH ae) (λ_ _=>rfl)) ae (λ_ _=>rfl)) (@ax _ _ _ _ _ _ _ (aD K) (@ax _ _ _ _ _ _ _ (aQ K) (pv 4) (dQ dH ae) (λ_ _=>rfl)) ae (λ_ _=>rfl)) (aR _)) (cR (c6 fF (@ax _ _ _ _ _ _ _ (aD K) (@ax _ _ _ _ _ _ _ (aQ K) (pv 5) (dQ dH ae) (λ_ _=>rfl)) ae (λ_ _=>rfl)) (@ax _ _ _ _ _ _ _ (aD K) (@ax _ _ _ _ _ _ _ (aQ K) (pv 4) (dQ dH ae) (λ_ _=>rfl)) ae (λ_ _=>rfl)) (aR _)) (dG (c6 j6 (bq (Dl K rfl) rfl T.min_ PyProof.Rows.boot_min (af (cK ["_law_far"] [] (bP K (pv 5)) (λ_=>(aO (i:=0) (show(["_law_far"]:List Vm).Nodup from by decide +kernel) rfl oi oj)) (λ_=>dm) (λ_=>(@ax _ _ _ _ _ _ _ (aD K) (pv 0) ae (λ_ _=>rfl)))) aa rfl)) (@ax _ _ _ _ _ _ _ (aD K) (@ax _ _ _ _ _ _ _ (aQ K) (pv 4) (dQ dH ae) (λ_ _=>rfl)) ae (λ_ _=>rfl)) (aR _)))))))))))),?_⟩
 left;refine⟨l1,20000,as,rfl,F,by lia,by lia,λH1 e1=>?_⟩;left;nofun;refine⟨l2,20000,bs,rfl,e1 _ _ e,by lia,by lia,λH2 e2=>?_⟩;left;nofun;have f:=e1.trans e2;refine dE (ag.of (f _ _ e)) ?_;left;rw[E7,F3 (show ¬((bs.length:Nat):Int)=0 by lia)];nofun;refine⟨v,m,ws,pa,l1,U,x,y,as,rfl,hv.ext f,ok,f _ _ a0,f _ _ F,by lia,g1,λr1 H3 cs a e3 I _ ha=>?_⟩;have l:=f.trans e3;left;refine⟨rfl,?_⟩;rw[F3 (show ¬(V.ref r1=V.non) by intro z;cases z)];symm;left;refine aP (ag.of I) (v:=.ref a) (by rw[Fq];exact fC _ _) ?_;left;refine⟨v,m,ws,a,l2,U,y,z,bs,rfl,hv.ext l,ok,ha,l _ _ e,by lia,Y,λr2 H4 ds b e4 a2 J hb=>?_⟩;have j:=l.trans e4;obtain⟨hh,t1,rfl,k1,k2⟩:=hv.ext j;obtain⟨L,k3,al⟩:=cx.al k2;left;refine⟨rfl,?_⟩;rw[F3 (show ¬(V.ref r2=V.non) by intro z;cases z)];symm;left;refine bQ (ag.of (j _ _ e)) ?_;have N:∀(i k:Nat),bs[i]?=Vn k->∃w,ws[k]?=Vn w:=λi k Z=>by obtain⟨w,O,_⟩:=gI (jM Y Z);exact⟨w,O⟩
 refine dJ (xs:=aW bs) (λi ys H'=>H'=H4/\∃zs:List Vm,ys=zs.map V.str/\zs.length=i/\∀y∈zs,y≠"zero") (HE (cj (by rw[E7];lia))) ⟨rfl,[],rfl,rfl,λy h=>(nomatch h)⟩ (λi ys H' hi h=>⟨by rw[h.1];exact ag.of (j _ _ e),by obtain⟨_,zs,rfl,h,_⟩:=h;rw[E7,h];exact Fu _⟩) ?_ ?_
 .rintro i u ys H' R ⟨rfl,zs,rfl,S,r⟩;rw[E9]at R;obtain⟨k,Z,rfl⟩:=Fj.mp R;obtain⟨w,O⟩:=N i k Z;have a3:k<L.length:=by rw[al.1];exact(Fg.mp O).1
  have s:=E8 a3;generalize L[k]=bk at s;have a4:=al.2 k bk w s O;left;right;refine aE (ay.of k1) (v:=.ref t1) rfl ?_;left;refine aE (ay.of k3) (v:=.ref bk) (cN (by rw[E9,s];rfl)) ?_;left;refine aE (ay.of a4) (v:=.str w.deed) rfl ?_;refine⟨rfl,zs++[w.deed],by rw[Fq];rfl,by rw[Fs,S];rfl,λy hy=>?_⟩;rcases Fx.mp hy with h|h
  .exact r y h
  .rw[Fi.mp h];exact hzero k (Fh Z) w O
 rintro ys H' p9 ⟨rfl,zs,rfl,S,r⟩ a5;have A:=aY (o:=.lst (zs.map V.str)) a5;have h9:(upd H' p9 (.lst (zs.map V.str))) p9=Vn (.lst (zs.map V.str)):=aF;generalize upd H' p9 (.lst (zs.map V.str))=H5 at A h9 ⊢;left;refine mi (.inl (ag.of h9)) rfl (DR _) ?_;rw[CP r];symm;have g:=(e4.trans A) _ _ I;have B:ao H5 a y:=(e4.trans A) _ _ ha;have d:=A _ _ a2;have W:ao H5 b z:=A _ _ hb;left;refine aP (ag.of d) (v:=.ref b) (by rw[Fq];exact fC _ _) ?_;left;refine aE (ay.of W) (v:=.int z.1) rfl ?_;left;refine aP (ag.of g) (v:=.ref a) (by rw[Fq];exact fC _ _) ?_;left;refine aE (ay.of B) (v:=.int y.1) rfl ?_;left;rw[F4 a1];right;refine aP (ag.of d) (v:=.ref b) (by rw[Fq];exact fC _ _) ?_;left;refine aE (ay.of W) (v:=.int z.2) rfl ?_;left;refine aP (ag.of g) (v:=.ref a) (by rw[Fq];exact fC _ _) ?_;left;refine aE (ay.of B) (v:=.int y.2) rfl ?_;left;rw[F4 hlt];right;refine bQ (ag.of d) ?_;have a6:=F9 J;rw[j7 Y]at a6;refine dJ (xs:=A0 V.ref (ds++[b])) (λi ys H'=>H'=H5/\∃ns:List Int,ys=ns.map V.int/\ns.length=i/\∀n∈ns,y.2<=n) (HE (cj (by rw[E7];lia))) ⟨rfl,[],rfl,rfl,λn h=>(nomatch h)⟩ (λi ys H' hi h=>⟨by rw[h.1];exact ag.of d,by obtain⟨_,zs,rfl,h,_⟩:=h;rw[E7,h];exact Fu _⟩) ?_ ?_
 .rintro i u ys H' R ⟨rfl,ns,rfl,C,hall⟩;rw[E9]at R;obtain⟨c,hc,rfl⟩:=Fj.mp R;obtain⟨p,hp,a9⟩:=bU J hc;have ad:=(Fg.mp hc).1;rw[j2 Y (by lia)]at hp;cases hp;left;right;refine aE (ay.of (A _ _ a9)) (v:=.int (bj (aN ws U) y bs i).2) rfl ?_;refine⟨rfl,ns++[(bj (aN ws U) y bs i).2],by rw[Fq];rfl,by rw[Fs,C];rfl,λn hn=>?_⟩;rcases Fx.mp hn with h|h
  .exact hall n h
  .rw[Fi.mp h];exact hge i (by lia)
 rintro ys H' p8 ⟨rfl,ns,rfl,C,hall⟩ ab;have e6:=aY (o:=.lst (ns.map V.int)) ab;have h8:(upd H' p8 (.lst (ns.map V.int))) p8=Vn (.lst (ns.map V.int)):=aF;generalize upd H' p8 (.lst (ns.map V.int))=H6 at e6 h8 ⊢;left;refine DO (ag.of h8) (by rw[C,E7,Fs];simp) λM hM _=>?_;left;refine aP (ag.of (e6 _ _ g)) (v:=.ref a) (by rw[Fq];exact fC _ _) ?_;left;refine aE (ay.of (e6 _ _ B)) (v:=.int y.2) rfl ?_;left;rw[F4 (hall M hM)];exact q _ (j.trans (A.trans e6))
theorem uW{n:Int}(m1:1<=m)(b:m<=12)(d:0<=n)(h:n<=13\/(m<=4/\n<=201)):m*(n+m+m*m+1)<=20000:=by
 rcases h with h|⟨h,h2⟩
 .have c:m*m<=12*12:=Iz b b (by lia) (by decide);have a:0<=m*m:=FE (by lia) (by lia);have:=Iz b (show n+m+m*m+1<=170 by lia) (by lia) (by decide);lia
 .have c:m*m<=4*4:=Iz h h (by lia) (by decide);have a:0<=m*m:=FE (by lia) (by lia);have:=Iz h (show n+m+m*m+1<=222 by lia) (by lia) (by decide);lia
def EI(ok:HOuse m ws)(z):cO ws z.1 z.2 ws.length=(aL ws z).map λe=>((e.1:Int),e.2.1,e.2.2):=by
 have key:∀k,cO ws z.1 z.2 k=(((cB ws z.1 k).filter (eT ws z)).map λk=>(k,gF ws z k)).map λe=>((e.1:Int),e.2.1,e.2.2):=by
  intro k;induction k with
  | zero=>rfl
  | succ k f=>
   cases a:ws[k]? with
   | none=>
    have h1:cB ws z.1 (k+1)=cB ws z.1 k:=by unfold cB;rw[Hm,GL,GQ,a];simp
    show cO ws z.1 z.2 k++((ws[k]?).map λw=>eY w z.1 z.2 k).getD []=_;rw[a,f,h1];simp
   | some w=>
    rw[sD a,f,yl a];by_cases b:w.room=z.1
    .rw[F6 b,GL,Fq,Fq];congr 1;have c:=(ok.ok w (Fh a)).dd;have g:gF ws z k=(w.other,z.2+rz w.deed):=by unfold gF;rw[a];rfl
     by_cases ho:cw w z.1 z.2=true
     .have d:eT ws z k=true:=by unfold eT;rw[a];exact ho
      rw[fR b ((j1 c z).mp ho).2];simp[d,g]
     .have hs:cQ w.deed z.2=Vo:=by
       cases e:cQ w.deed z.2 with
       | none=>rfl
       | some h=>exact absurd ((j1 c z).mpr ⟨b,by rw[e,kF c e]⟩) ho
      have d:eT ws z k=false:=by unfold eT;rw[a];simpa using ho
      rw[fR b hs];simp[d]
    .rw[F5 b,nB b,GJ,GJ]
 exact key ws.length
theorem uJ{α β b:Type}{F:α->β->Prop}{G:α->b->Prop}{g:b->β}(d:∀a c,F a (g c)->G a c):∀{l:List b} {as:List α},Paired F as (l.map g)->Paired G as l
 | [],_,h=>by cases h;exact .nil
 | _::l,_,h=>by
  cases h with
  | cons a t=>exact .cons (d _ _ a) (uJ d t)
theorem lb{β a b:Type}{F:b->β->Prop}{g:a->b}{f:a->β}(d:∀c,F (g c) (f c)):∀(l:List a),Paired F (l.map g) (l.map f)
 | []=>.nil
 | _::l=>.cons (d _) (lb d l)
def kL(ok:HOuse m ws){cs:List Vb}(h:Paired (dA H) cs (cO ws z.1 z.2 ws.length)):Paired (dN H) cs (aL ws z):=by rw[EI ok z]at h;exact uJ (g:=λe:Nat×Bfs.Pl=>((e.1:Int),e.2.1,e.2.2)) (λa c w=>w) h
def EX{F:α->β->Prop}{G:α->b->Prop}{g:β->b}(d:∀a c,F a c->G a (g c)){as:List α}{l:List β}(h:Paired F as l):Paired G as (l.map g):=by
 induction h with
 | nil=>exact .nil
 | cons a _ e=>exact .cons (d _ _ a) e
def iW(c:Paired (λb (kv:List Key×V)=>H b=Vn (.tup (kv.1.map kV))) bs kvs)(d:Paired (λ kv z=>kv.1=aA z) kvs qs):Paired (ao H) bs qs:=by
 induction c generalizing qs with
 | nil=>cases d;exact .nil
 | cons a _ e=>
  cases d with
  | cons b t=>exact .cons (by rw[b]at a;exact a) (e t)
theorem vA{g:Bfs.Pl->V}{z:Bfs.Pl}:∀{qs:List Bfs.Pl},z∈qs->a7 (qs.map λz=>(aA z,g z)) (aA z)=Vn (g z)
 | a::qs,h=>by
  rw[GY];by_cases e:aA a=aA z
  .rw[eU e,g9 e]
  .rw[eF e];rcases Fo.mp h with w|w
   .exact absurd (by rw[w]) e
   .exact vA w
def oB(h:qs.Nodup):(qs.map aA).Nodup:=by unfold JG at h ⊢;rw[HG];exact h.imp λh e=>h (g9 e)
def dU(H:Hp)(a b c:Vb):Hp:=λx=>if x=a\/x=b\/x=c then Vo else H x
def BQ(H)(a b c):Ext (dU H a b c) H:=λx o h=>by
 unfold dU at h;split at h
 .cases h
 .exact h
def mD(h:H x=Vn o)(na:x≠a)(nb:x≠b)(d:x≠c):dU H a b c x=Vn o:=by unfold dU;rw[F5 (by rintro(h|h|h);exact na h;exact nb h;exact d h)];exact h
def oy(h:x=a\/x=b\/x=c):dU H a b c x=Vo:=by unfold dU;rw[F6 h]
structure FnS(ws:List Way)(Kn Fn:List (Bfs.Pl×Nat))(R:List Bfs.Pl):Prop where
 nd:(Fn.map (·.1)).Nodup
 al:∀z,z∈Fn.map (·.1)↔z∈Kn.map (·.1)++R
 lw:∀e∈Fn,Bfs.Lw (aZ ws) e.1 e.2
theorem KhI.known(a:qs.Nodup)(ks:KhS ws qs Kn (R++[h]) W0)(c:h∉Kn.map (·.1))(d:KhI qs (br ws qs h) W0 W new j)(b:z∈qs)(h0:W z=0):∀y,aZ ws z y->y∈Kn.map (·.1)++[h]:=by have h1:=d.w z b;have h2:=ks.w z b;have f:=pf (ws:=ws) c z;have e:=kz (ws:=ws) (y:=h) (z:=z) a;rw[F6 b]at e;have g:((br ws qs h).take j).count z<=(br ws qs h).count z:=(Jv _ _).count_le z;exact mB.mp (by lia)
theorem DC(c:∀y,aZ ws h y->y∈Kn.map (·.1))(d:∀e∈Kn,Bfs.Lw (aZ ws) e.1 e.2){M:Int}(f:M∈(aL ws h).map (λe=>((cV Kn e.2:Nat):Int)))(hA:∀a,a∈(aL ws h).map (λe=>((cV Kn e.2:Nat):Int))->a<=M):∃n:Nat,1+M=(n:Int)/\Bfs.Lw (aZ ws) h n:=by
 refine ve c d (.inr ⟨?_,λa ha=>?_⟩)
 .obtain⟨e,b,rfl⟩:=F7.mp f;exact F7.mpr ⟨e,b,by lia⟩
 .obtain⟨e,b,rfl⟩:=F7.mp ha;have:=hA _ (F7.mpr ⟨e,b,rfl⟩);lia
inductive vZ(K:E3)(vs:List V)(H:Hp)(Q:VK)(E:XK):Prop|mk:∀v m ws f od kvs qs,vs=[v,.ref f]->bt H v m ws->HOuse m ws->H f=Vn (.frz od (.dT kvs))->Paired (λ(kv:List Key×V) (z:Bfs.Pl)=>kv.1=aA z) kvs qs->qs.Nodup->qs.length<=24012->(∀z∈qs,∀y,aZ ws z y->y∈qs)->(∀kn Kn H',Ext H H'->KD H' kn Kn->(Kn.map (·.1)).Nodup->(∀e∈Kn,e.1∈qs/\Bfs.Lw (aZ ws) e.1 e.2)->(∀z∈qs,(∀y,aZ ws z y->y∈Kn.map (·.1))->z∈Kn.map (·.1))->Q (.ref kn) H')->vZ K vs H Q E
def DA(T:Bu w mg base):Cal P w K mg base "_law_longest" 2 ["_law_house_here","_law_places"] (vZ K):=by
 refine(bZ T.d__law_longest).oS ["_law_house_here","_law_places","_law_left","_law_found","_law_ready","_law_ahead","_law_place","_law_k","_law_there"] λhr nd H vs Q E h=>?_;obtain⟨v,m,ws,f,od,kvs,qs,rfl,hv,ok,hf,pk,U,e0,hcl,q⟩:=h;have gp:=F9 pk;have cl:=ok.few;have d2:qs.length<=sizeLine:=FI e0 (by decide);refine⟨_,(@av _ _ _ _ _ (@aH _ _ 2 _ _ _ _ nd rfl oj (nh rfl (oW hr) rfl T.dict_ (cK ["_law_place"] [0] (ml (pv 1)) (λ_=>(aO (i:=0) (show(["_law_place","_law_house_here"]:List Vm).Nodup from by decide +kernel) rfl oi oj)) (λ_=>dm) (λ_=>(@bH _ _ _ _ _ (af (pv 0) (af (bq (cn K) rfl T.len_ GI (af (aG (jr T) hr (af (pv 1) (af (pv 0) aa rfl) rfl)) aa rfl)) aa rfl) rfl))))) rfl oi)
   (@av _ _ _ _ _ (@aH _ _ 3 _ _ _ _ nd rfl oj (nh rfl (oW hr) rfl T.dict_ (cK ["_law_place"] [2] (ml (pv 1)) (λ_=>(aO (i:=0) (show(["_law_place","_law_left"]:List Vm).Nodup from by decide +kernel) rfl oi oj)) (λ_=>(dI (aT bG (cz (bo hr) (pv 1) (pv 0) (λ_ _=>rfl)) ae (aR _)))) (λ_=>(@bH _ _ _ _ _ (af (pv 0) (af ae aa rfl) rfl))))) rfl oi)
   (@av _ _ _ _ _ (@aH _ _ 4 _ _ _ _ nd rfl oi (jo (Cv hr) rfl T.list_ IA (af (pv 3) aa rfl)) rfl oi)
   (@av _ _ _ _ _ (@aH _ _ 5 _ _ _ _ nd rfl oi (nh rfl (oW hr) rfl T.dict_ (cK ["_law_place"] [] (ml (pv 1)) (λ_=>(aO (i:=0) (show(["_law_place"]:List Vm).Nodup from by decide +kernel) rfl oi oj)) (λ_=>dm) (λ_=>(@bH _ _ _ _ _ (af (pv 0) (af (@bI _ _ _ _ aa) aa rfl) rfl))))) rfl oi)
   (@av _ _ _ _ _ (bJ F8 rfl (ml (pv 1)) (aO (i:=6) nd rfl oi) (@az _ _ _ (bJ F8 rfl (bP K (aG (jr T) hr (af (pv 0) (af (pv 6) aa rfl) rfl))) (dw (n:=2) K rfl (bF (aO (i:=7) nd rfl oi) (bF (aO (i:=8) nd rfl oi) df))) (@az _ _ _ (bA (bO K Ff Fv Fw bV (cz (bo hr) (pv 5) (pv 8) (λ_ _=>rfl)) (af (pv 6) aa rfl)))))))
   (@av _ _ _ _ _ (fi F8 (aT fF (bq (cn K) rfl T.len_ GI (af (pv 4) aa rfl)) ae (aR _)) (@av _ _ _ _ _ (@aH _ _ 8 _ _ _ _ nd rfl oi (kU K Ff JB JC nI (pv 4)) rfl oi)
   (@az _ _ _ (bJ F8 rfl (bP K (cz (bo hr) (pv 5) (pv 8) (λ_ _=>rfl))) (aO (i:=6) nd rfl oi) (@av _ _ _ _ _ (fg (bo hr) (pv 2) (pv 6) (aJ dR (cz (bo hr) (pv 2) (pv 6) (λ_ _=>rfl)) ae) rfl)
   (@az _ _ _ (cL (aT bG (cz (bo hr) (pv 2) (pv 6) (λ_ _=>rfl)) ae (aR _)) (@av _ _ _ _ _ (fg (bo hr) (pv 3) (pv 6) (aJ bx ae (bq (pB K rfl) rfl T.max_ HN (af (cK ["_law_k","_law_far"] [3] (bP K (aG (jr T) hr (af (pv 0) (af (pv 6) aa rfl) rfl))) (λ_=>(dw (n:=2) K rfl (bF (aO (i:=0) (show(["_law_k","_law_far","_law_found"]:List Vm).Nodup from by decide +kernel) rfl oi oj) (bF (aO (i:=1) (show(["_law_k","_law_far","_law_found"]:List Vm).Nodup from by decide +kernel) rfl oi oj) df)))) (λ_=>dm) (λ_=>(cz (bo hr) (pv 2) (pv 1) (λ_ _=>rfl)))) aa rfl))) rfl)
   (@az _ _ _ (bA (bO K Ff Fv Fw bV (pv 4) (af (pv 6) aa rfl))))) aV)))))))
   (@az _ _ _ (@aK _ _ _ _ (pv 3))))))))),?_⟩
 left;refine⟨f,od,kvs,rfl,hf,λbs B=>?_⟩;have d3:=iW B pk;have ea:=F9 d3;clear B;refine j3 (λi ys H'=>Ext H H'/\∃as,ys=A0 V.ref as/\Paired (gR H') as ((qs.take i).map λz=>(aA z,V.int ((aL ws z).length:Nat)))) (by rw[ea];exact d2) ⟨Ext.rfl' _,[],rfl,.nil⟩ (λi ys H' h=>?_) ?_ ?_
 .obtain⟨e,as,rfl,has⟩:=h;refine⟨e _ _ hf,?_⟩;have:=F9 has;rw[E7,FZ]at this;rw[E7];omega
 .rintro i b ys H1 hb ⟨e1,as,rfl,has⟩;obtain⟨z,G,r⟩:=bU d3 hb;left;right;refine⟨v,m,ws,b,z.1,z.2,rfl,hv.ext e1,ok,e1 _ _ r,λbl H2 cs e2 d4 X a3=>?_⟩;have ft:=F9 (kL ok a3);left;refine dE (ag.of X) ?_;refine aS λc H3 e3 hc _=>?_;refine⟨e1.trans (e2.trans e3),as++[c],by rw[Fq];rfl,?_⟩;rw[GA,G,Fq];refine Gz (Paired.mapP has λ_ _ w=>?_) ⟨b,?_,(e1.trans (e2.trans e3)) _ _ r⟩
  .obtain⟨b',h1,h2⟩:=w;exact⟨b',(e2.trans e3) _ _ h1,(e2.trans e3) _ _ h2⟩
  .rw[E7,ft]at hc;exact hc
 rintro ys H1 p1 ⟨e1,as,rfl,has⟩ eb;rw[ea,FD]at has;have e2:=aY (o:=.lst (A0 V.ref as)) eb;have h1:upd H1 p1 (.lst (A0 V.ref as)) p1=Vn (.lst (A0 V.ref as)):=aF;have a6:Paired (gR (upd H1 p1 (.lst (A0 V.ref as)))) as _:=Paired.mapP has λ_ _ w=>by obtain⟨b',h1,h2⟩:=w;exact⟨b',e2 _ _ h1,e2 _ _ h2⟩
 have bn:=e1.trans e2;generalize upd H1 p1 (.lst (A0 V.ref as))=H2 at bn h1 a6 ⊢;refine⟨p1,as,_,rfl,h1,a6,by rw[ID];exact oB U,λwt d5=>?_⟩;clear has e1 e2 eb H1;have e3:Ext H (upd H2 wt (.dT (qs.map λz=>(aA z,V.int ((aL ws z).length:Nat))))):=bn.trans (aY d5);have fv:H wt=Vo:=bn.none d5;have ab:WD (upd H2 wt (.dT (qs.map λz=>(aA z,V.int ((aL ws z).length:Nat))))) wt qs (λz=>(aL ws z).length):=⟨_,aF,by rw[E7];exact e0,λz G=>vA (g:=λz=>V.int ((aL ws z).length:Nat)) G⟩;generalize upd H2 wt (.dT (qs.map λz=>(aA z,V.int ((aL ws z).length:Nat))))=H3 at e3 ab ⊢;clear bn h1 a6 d5 H2;left;refine⟨f,od,kvs,rfl,e3 _ _ hf,λfw B=>?_⟩;have ar:=iW B pk;have X:=F9 ar;clear B d3;refine j3 (λi ys H'=>Ext H3 H'/\∃as,ys=A0 V.ref as/\Paired (gR H') as (((qs.take i).filter λz=>decide ((aL ws z).length=0)).map λz=>(aA z,V.int 0))) (by rw[X];exact d2) ⟨Ext.rfl' _,[],rfl,.nil⟩ (λi ys H' h=>?_) ?_ ?_
 .obtain⟨e,as,rfl,has⟩:=h;refine⟨(e3.trans e) _ _ hf,?_⟩;have:=F9 has;rw[E7]at this;rw[E7,this];exact FI (GF _ _) (by rw[FZ];omega)
 .rintro i b ys H4 hb ⟨e4,as,rfl,has⟩;obtain⟨z,G,r⟩:=bU ar hb;obtain⟨kw,fx,_,a4⟩:=ab;have d6:(qs.take (i+1)).filter (λz=>decide ((aL ws z).length=0))=(qs.take i).filter (λz=>decide ((aL ws z).length=0))++if decide ((aL ws z).length=0)then[z]else[]:=by rw[GA,G,GL];congr 1;show G7 _ [z]=_;rw[GQ];rfl
  left;refine⟨wt,_,rfl,by have:=bw.t (e4 _ _ fx) (k:=aA z) (e4 _ _ r);rw[a4 z (Fh G)]at this;exact this,?_⟩;left;rw[d6];by_cases e:(aL ws z).length=0
  .rw[F4 (show(((aL ws z).length:Nat):Int)=0 by omega),F4 e];right;refine aS λc H5 e5 hc _=>?_;refine⟨e4.trans e5,as++[c],by rw[Fq];rfl,?_⟩;rw[F6 rfl,Fq];refine Gz (Paired.mapP has λ_ _ w=>?_) ⟨b,hc,(e4.trans e5) _ _ r⟩;obtain⟨b',h1,h2⟩:=w;exact⟨b',e5 _ _ h1,e5 _ _ h2⟩
  .rw[F3 (show ¬(((aL ws z).length:Nat):Int)=0 by omega),F3 e];refine aC ⟨e4,as,rfl,?_⟩;rw[F5 Fp,GJ];exact has
 rintro ys H4 p4 ⟨e4,as,rfl,has⟩ ec;rw[X,FD]at has;have e5:=aY (o:=.lst (A0 V.ref as)) ec;have h5:upd H4 p4 (.lst (A0 V.ref as)) p4=Vn (.lst (A0 V.ref as)):=aF;have au:Paired (gR (upd H4 p4 (.lst (A0 V.ref as)))) as _:=Paired.mapP has λ_ _ w=>by obtain⟨b',h1,h2⟩:=w;exact⟨b',e5 _ _ h1,e5 _ _ h2⟩
 have bu:=e4.trans e5;generalize upd H4 p4 (.lst (A0 V.ref as))=H5 at bu h5 au ⊢;have d7:(qs.filter λz=>decide ((aL ws z).length=0)).Nodup:=JP _ U;refine⟨p4,as,_,rfl,h5,au,by rw[ID];exact oB d7,λkn bv=>?_⟩;clear has e4 e5 ec H4;have e6:=bu.trans (aY (o:=.dT ((qs.filter λz=>decide ((aL ws z).length=0)).map λz=>(aA z,V.int 0))) bv);have cm:H3 kn=Vo:=bu.none bv;have b0:upd H5 kn (.dT ((qs.filter λz=>decide ((aL ws z).length=0)).map λz=>(aA z,V.int 0))) kn=Vn (.dT ((qs.filter λz=>decide ((aL ws z).length=0)).map λz=>(aA z,V.int 0))):=aF;generalize upd H5 kn (.dT ((qs.filter λz=>decide ((aL ws z).length=0)).map λz=>(aA z,V.int 0)))=H6 at e6 b0 ⊢;clear bu h5 au bv H5;generalize ed:(qs.filter λz=>decide ((aL ws z).length=0))=R0 at b0 d7;left;refine⟨kn,_,rfl,b0,λrw ac d8 co=>?_⟩;have eg:Paired (ao H6) ac R0:=iW co (by have:=lb (F:=λ(kv:List Key×V) (z:Bfs.Pl)=>kv.1=aA z) (g:=λz=>(aA z,V.int 0)) (f:=λz=>z) (λ_=>rfl) R0;rwa [Ld]at this);clear co;have e7:=aY (o:=.lst (A0 V.ref ac)) d8;have L:upd H6 rw (.lst (A0 V.ref ac)) rw=Vn (.lst (A0 V.ref ac)):=aF;have ad:=bz (λa x h=>e7 _ _ h) eg;have ai:=e7 _ _ b0;have b1:=e6.trans e7;have N:H3 rw=Vo:=e6.none d8;generalize upd H6 rw (.lst (A0 V.ref ac))=H7 at b1 L ad ai ⊢;have gs:kn≠rw:=bp ai L (by intro z;cases z);clear e7 eg d8 b0 e6 H6;have a5:=e3.trans b1;left;refine⟨f,od,kvs,rfl,a5 _ _ hf,λgt B=>?_⟩;have cp:=iW B pk;have cr:=F9 cp;clear B ar X fw;refine j3 (λi ys H'=>Ext H7 H'/\∃(as:List Vb) (zas:List (Bfs.Pl×Vb)),ys=A0 V.ref as/\zas.map (·.1)=qs.take i/\Paired (gR H') as (zas.map λza=>(aA za.1,V.ref za.2))/\(zas.map (·.2)).Nodup/\∀za∈zas,H7 za.2=Vo/\H' za.2=Vn (.lst [])) (by rw[cr];exact d2) ⟨Ext.rfl' _,[],[],rfl,rfl,.nil,Gq,λza h=>(nomatch h)⟩ (λi ys H' h=>?_) ?_ ?_
 .obtain⟨e,as,zas,rfl,G,has,_⟩:=h;refine⟨(a5.trans e) _ _ hf,?_⟩;have h1:=F9 has;have h2:=congrArg Ju G;rw[E7]at h1 h2;rw[FZ]at h2;rw[E7];omega
 .rintro i b ys H8 hb ⟨e8,as,zas,rfl,I,has,c0,hza⟩;obtain⟨z,G,r⟩:=bU cp hb;left;right;refine aS λa H9 Y ha ei=>?_;left;refine aS λc HA eA hc _=>?_;refine⟨e8.trans (Y.trans eA),as++[c],zas++[(z,a)],by rw[Fq];rfl,by rw[Fq,I,GA,G];rfl,?_,?_,λza h=>?_⟩
  .rw[Fq];refine Gz (Paired.mapP has λ_ _ w=>?_) ⟨b,hc,(e8.trans (Y.trans eA)) _ _ r⟩;obtain⟨b',h1,h2⟩:=w;exact⟨b',(Y.trans eA) _ _ h1,(Y.trans eA) _ _ h2⟩
  .rw[Fq,GD];refine⟨c0,by simp,λc hc d hd e=>?_⟩;obtain⟨za,h1,rfl⟩:=F7.mp hc;have:d=a:=by simpa using hd
   have h2:=(hza za h1).2;rw[e,this,ei]at h2;cases h2
  .rcases Fx.mp h with w|w
   .exact⟨(hza za w).1,(Y.trans eA) _ _ (hza za w).2⟩
   .rw[Fi.mp w];exact⟨e8.none ei,eA _ _ ha⟩
 rintro ys H8 p8 ⟨e8,as,zas,rfl,I,has,c0,hza⟩ b3;rw[cr,FD]at I;have Y:=aY (o:=.lst (A0 V.ref as)) b3;have h9:upd H8 p8 (.lst (A0 V.ref as)) p8=Vn (.lst (A0 V.ref as)):=aF;have b4:Paired (gR (upd H8 p8 (.lst (A0 V.ref as)))) as _:=Paired.mapP has λ_ _ w=>by obtain⟨b',h1,h2⟩:=w;exact⟨b',Y _ _ h1,Y _ _ h2⟩
 have hza9:∀za∈zas,H7 za.2=Vo/\upd H8 p8 (.lst (A0 V.ref as)) za.2=Vn (.lst []):=λza h=>⟨(hza za h).1,Y _ _ (hza za h).2⟩;have c4:=e8.trans Y;generalize upd H8 p8 (.lst (A0 V.ref as))=H9 at c4 h9 b4 hza9 ⊢;clear has e8 Y b3 hza H8;have c5:(zas.map (·.1)).Nodup:=by rw[I];exact U
 refine⟨p8,as,_,rfl,h9,b4,by rw[ID,show ((λx=>x.1)∘λza:Bfs.Pl×Vb=>(aA za.1,V.ref za.2))=aA∘(·.1)from rfl,<-ID];exact oB c5,λg d9=>?_⟩;have eA:=aY (o:=.dT (zas.map λza=>(aA za.1,V.ref za.2))) d9;have ah:AH H7 (upd H9 g (.dT (zas.map λza=>(aA za.1,V.ref za.2)))) g zas (br ws (qs.take 0)):=⟨c4.none d9,⟨_,aF,by have:=lb (F:=wV) (g:=λza:Bfs.Pl×Vb=>(aA za.1,V.ref za.2)) (f:=λz=>z) (λ_=>⟨rfl,rfl⟩) zas;rwa [Ld]at this⟩,c0,λza h=>(hza9 za h).1,λza h=>⟨[],eA _ _ (hza9 za h).2,.nil⟩⟩;have da:=c4.trans eA;generalize upd H9 g (.dT (zas.map λza=>(aA za.1,V.ref za.2)))=HA at da ah ⊢;clear h9 b4 hza9 c4 eA d9 H9 c0;left;refine⟨f,od,kvs,rfl,(a5.trans da) _ _ hf,λgu B=>?_⟩;have ct:=iW B pk;have ej:=F9 ct;clear B;refine kX (λi σ H'=>∃k1 k2 k3,σ=[some v,some (.ref f),some (.ref wt),some (.ref kn),some (.ref rw),some (.ref g),k1,k2,k3]/\Ext H7 H'/\(∀b z,ao HA b z->ao H' b z)/\AH H7 H' g zas (br ws (qs.take i))/\∀y,(br ws (qs.take i) y).length<=100*i) ⟨_,_,_,rfl,da,λ_ _ h=>h,ah,λy=>Fu _⟩ (λi σ H' h=>by obtain⟨_,_,_,_,h,_⟩:=h;exact(a5.trans h) _ _ hf) ?_ ?_
 .rintro i b σ A hb ⟨k1,k2,k3,rfl,eB,kp,ah,hle⟩;obtain⟨z,G,r⟩:=bU ct hb;have db:=Fh G;have gv:=(Fg.mp G).1;have ek:(aL ws z).length<=100:=FI iS cl;have el:=kp _ _ r;left;refine⟨v,m,ws,b,z.1,z.2,rfl,hv.ext (a5.trans eB),ok,el,λbl HC cs eC d4 cu a3=>?_⟩;have aj:=kL ok a3;have ba:=F9 aj;have fy:=ah.ext eC;have em:A bl=Vo:=d4;have nl:∀za∈zas,za.2≠bl:=λza hza e=>by obtain⟨_,h1,_⟩:=ah.it za hza;rw[e,em]at h1;cases h1
  have fz:=eB.trans eC;clear a3;refine bQ (ag.of cu) ?_;refine forL (xs:=A0 V.ref cs) (λj σ H'=>∃k2 k3,σ=[Vn v,Vn (.ref f),Vn (.ref wt),Vn (.ref kn),Vn (.ref rw),Vn (.ref g),Vn (.ref b),k2,k3]/\Ext H7 H'/\(∀b z,ao HC b z->ao H' b z)/\H' bl=Vn (.lst (A0 V.ref cs))/\Paired (dN H') cs (aL ws z)/\AH H7 H' g zas (λy=>br ws (qs.take i) y++FU (ck ((aL ws z).take j) y) z)/\∀y,(br ws (qs.take i) y++FU (ck ((aL ws z).take j) y) z).length<=100*i+j) ⟨_,_,rfl,fz,λ_ _ h=>h,cu,aj,?_,?_⟩ (λj σ H' _ h=>by obtain⟨_,_,_,_,_,h,_⟩:=h;exact ag.of h) ?_ ?_
  .have:(λy=>br ws (qs.take i) y++FU (ck ((aL ws z).take 0) y) z)=br ws (qs.take i):=funext λy=>by show br ws (qs.take i) y++[]=_;rw[GJ]
   rw[this];exact fy
  .intro y;show(br ws (qs.take i) y++[]).length<=_;rw[GJ];exact hle y
  .rintro j u σ HD hu ⟨k2,k3,rfl,eD,kpD,J,bb,ak,Z⟩;rw[E9]at hu;obtain⟨a,ha,rfl⟩:=Fj.mp hu;obtain⟨⟨k,y⟩,S,b2,hab,dc⟩:=bU bb ha;have a0:y∈qs:=hcl z db y (dM.mp ⟨k,Fh S⟩);obtain⟨⟨y',a'⟩,hza,e⟩:=F7.mp (show y∈zas.map (·.1) by rw[I];exact a0);have e:y'=y:=e;subst e;obtain⟨gj,g0,g1⟩:=ak.val c5 hza;obtain⟨gw,c9,a6,en⟩:=ak.push c5 hza (kpD _ _ (eC _ _ el));have hj:=(Fg.mp S).1;have gk:=Z y';refine dD (ay.of hab) rfl ?_;left;refine⟨g,.ref a',rfl,by have:=bw.t g0 (k:=aA y') dc;rw[g1]at this;exact this,?_⟩;refine⟨cg (ag.of c9),?_⟩;left;refine bR c9 (by rw[E7];exact FH (show _<2500000 by omega) (by decide)) ?_;left;have ep:(λu=>if u=y' then(br ws (qs.take i) u++FU (ck ((aL ws z).take j) u) z)++[z]else br ws (qs.take i) u++FU (ck ((aL ws z).take j) u) z)=λu=>br ws (qs.take i) u++FU (ck ((aL ws z).take (j+1)) u) z:=funext λu=>by
    have cs:ck ((aL ws z).take (j+1)) u=ck ((aL ws z).take j) u+if y'=u then 1 else 0:=by
     unfold ck;rw[GA,S,Fq,IQ];congr 1;show LR u [y']=_;rw[Ka,IV];by_cases e:y'=u
     .subst e;simp
     .simp[e]
    rw[cs];by_cases e:u=y'
    .subst e;rw[F6 rfl,F6 rfl,Hq,Gm]
    .rw[F5 e,F5 (λh=>e h.symm),Lb]
   rw[ep]at en;refine⟨_,_,rfl,bM eD (ak.fr _ hza),λc x h=>ao.put c9 dh (kpD _ _ h),by rw[aB (nl _ hza).symm];exact J,Paired.mapP bb λ_ _ s=>s.put c9 dh,en,λu=>?_⟩;have:=Z u;have h2:=congrFun ep u;rw[<-h2];split
   .rw[Fs,GG];omega
   .omega
  .rintro σ HD ⟨k2,k3,rfl,eD,kpD,J,bb,ak,Z⟩;rw[E7,ba,FD]at ak Z;left;have e:(λy=>br ws (qs.take i) y++FU (ck (aL ws z) y) z)=br ws (qs.take (i+1)):=funext λy=>by rw[GA,G];exact(yj ws (qs.take i) z y).symm
   refine⟨_,_,_,rfl,eD,λc x h=>kpD _ _ (eC _ _ (kp _ _ h)),e ▸ ak,λy=>?_⟩;have:=Z y;rw[<-congrFun e y];omega
 rintro σ A ⟨k1,k2,k3,rfl,eB,kp,ah,hle⟩;rw[ej,FD]at ah;clear hle kp;obtain⟨kw,O,eq,a4⟩:WD A wt qs (λz=>(aL ws z).length):=by obtain⟨kw,h1,h2⟩:=ab;exact⟨kw,(b1.trans eB) _ _ h1,h2⟩
 have dd:=eB _ _ ai;have dg:=eB _ _ L;have a1:=bz (λa x h=>eB _ _ h) ad;have g2:wt≠kn:=λe=>by obtain⟨_,h1,_⟩:=ab;rw[e,cm]at h1;cases h1
 obtain⟨kg,er,g3⟩:=id ah.d;have nF:∀x o,H x=Vn o->dU A wt kn rw x=Vn o:=λx o h=>mD ((a5.trans eB) _ _ h) (λe=>by rw[e,fv]at h;cases h) (λe=>by rw[e,e3.none cm]at h;cases h) (λe=>by rw[e,e3.none N]at h;cases h);have tB:∀x xs,A x=Vn (.tup xs)->dU A wt kn rw x=Vn (.tup xs):=λx xs h=>mD h (bp h O (by intro z;cases z)) (bp h dd (by intro z;cases z)) (bp h dg (by intro z;cases z));have g7:H7 g=Vo:=ah.gn;have cv:∃kw,H7 wt=Vn (.dT kw):=by obtain⟨kw,h1,_⟩:=ab;exact⟨kw,b1 _ _ h1⟩
 have n7:∀x,H7 x=none->∀o,A x=some o->dU A wt kn rw x=some o:=λx h7 o h=>mD h (λe=>by obtain⟨_,h⟩:=cv;rw[<-e,h7]at h;cases h) (λe=>by rw[<-e,h7]at ai;cases ai) (λe=>by rw[<-e,h7]at L;cases L);have es:=n7 g g7 _ er;have d0:∀za∈zas,∃as,dU A wt kn rw za.2=some (.lst (A0 V.ref as))/\Paired (ao (dU A wt kn rw)) as (br ws qs za.1):=λza hza=>by obtain⟨as,h1,h2⟩:=ah.it za hza;exact⟨as,n7 _ (ah.fr za hza) _ h1,bz (λa x h=>tB _ _ h) h2⟩
 have ev:bt (dU A wt kn rw) v m ws:=hv.ext nF;have ew:=nF _ _ hf;have eC:=BQ A wt kn rw;have dk:dU A wt kn rw wt=Vo:=oy (.inl rfl);have dl:dU A wt kn rw kn=Vo:=oy (.inr (.inl rfl));have bc:dU A wt kn rw rw=Vo:=oy (.inr (.inr rfl));have nHC:∀H',Ext (dU A wt kn rw) H'->Ext H H':=λH' e x o h=>e _ _ (nF x o h);generalize dU A wt kn rw=C at nF tB n7 es d0 ev ew eC dk dl bc nHC;clear tB n7 nF g7 cv er eB ai L b1 a5 ab ad ev;have dn:=KhS.start (ws:=ws) U (W:=λz=>(aL ws z).length) λz _=>rfl;rw[ed]at dn;have g4:∀{H'},Ext C H'->Kx f C H':=λe b o _ h=>e b o h;have ex:KH kvs qs C A f wt kn (λz=>(aL ws z).length) (R0.map λz=>(z,0)):=⟨g4 eC,⟨od,eC _ _ ew⟩,dk,dl,⟨kw,O,eq,a4⟩,⟨_,dd,lb (F:=ua) (g:=λz=>(aA z,V.int 0)) (f:=λz=>(z,0)) (λ_=>⟨rfl,rfl⟩) R0⟩,g2⟩;have ey:FnS ws [] (R0.map λz=>(z,0)) R0:=by
  have e1:(R0.map λz=>((z,0):Bfs.Pl×Nat)).map (·.1)=R0:=by rw[ID];exact Ld R0
  refine⟨by rw[e1];exact d7,λz=>by rw[e1];rfl,λe he=>?_⟩;obtain⟨z,G,rfl⟩:=F7.mp he;rw[<-ed]at G;have h0:=of_decide_eq_true (GC.mp G).2;have no:∀y,¬aZ ws z y:=λy S=>by obtain⟨k,hk⟩:=dM.mpr S;rw[KA.mp h0]at hk;cases hk
  exact Bfs.o6 (f:=λ_=>0) (λy S=>absurd S (no y)) (λ_=>rfl) (λy S=>absurd S (no y)) λ⟨y,S⟩=>absurd S (no y)
 clear O dd a4 eq;left;refine eV (λM σ H'=>∃Kn Fn R W k1 k2 k3,Ext C H'/\KH kvs qs C H' f wt kn W Fn/\KhS ws qs Kn R W/\FnS ws Kn Fn R/\(∃as,H' rw=Vn (.lst (A0 V.ref as))/\Paired (ao H') as R)/\M=24013-Kn.length/\σ=[Vn v,Vn (.ref f),Vn (.ref wt),Vn (.ref kn),Vn (.ref rw),Vn (.ref g),k1,k2,k3]) (λσ H'=>∃Kn Fn W k1 k2 k3,Ext C H'/\KH kvs qs C H' f wt kn W Fn/\KhS ws qs Kn [] W/\FnS ws Kn Fn []/\σ=[Vn v,Vn (.ref f),Vn (.ref wt),Vn (.ref kn),Vn (.ref rw),Vn (.ref g),k1,k2,k3]) _ ⟨[],_,_,_,_,_,_,eC,ex,dn,ey,⟨ac,dg,a1⟩,rfl,rfl⟩ ?_ ?_
 .clear ex dn ey eC dg a1;rintro M σ H6 ⟨Kn,Fn,R,W,c1,c2,c3,e6,kh,ks,fs,⟨as,N,pr⟩,rfl,rfl⟩;have hal:=cA pr;have g5:(Kn.map (·.1)).Nodup:=(GD.mp ks.nd).1;have bv:Kn.length<=24012:=by have:=sub_len g5 λz G=>ks.inq z (FT _ G);rw[E7]at this;omega
  left;refine dE (ag.of N) ?_;left;rw[E7,hal];by_cases hR:R=[]
  .subst hR;rw[F3 (show ¬(0:Int)<(([]:List Bfs.Pl).length:Nat) by simp)];refine aC ?_;exact⟨Kn,Fn,W,_,_,_,e6,kh,ks,fs,rfl⟩
  rw[F4 (show(0:Int)<((R.length:Nat):Int) by have:=K6.mpr hR;omega)];obtain⟨R',z,rfl⟩:∃R' z,R=R'++[z]:=⟨R.dropLast,R.getLast hR,(IH hR).symm⟩;obtain⟨p,b,rfl,ez,r⟩:∃p b,as=p++[b]/\Paired (ao H6) p R'/\ao H6 b z:=mV pr;have db:z∈qs:=ks.inq z (by simp);have f0:z∉Kn.map (·.1):=λh=>by have:=ks.nd;rw[GD]at this;exact this.2.2 z h z (by simp) rfl
  have g6:z∈Fn.map (·.1):=(fs.al z).mpr (by simp);have ga:=fs.lw _ (iO g6);refine aI ?_;refine⟨λf1 H'=>∃m',m'<24013-Kn.length/\∃Kn Fn R W k1 k2 k3,Ext C H'/\KH kvs qs C H' f wt kn W Fn/\KhS ws qs Kn R W/\FnS ws Kn Fn R/\(∃as,H' rw=Vn (.lst (A0 V.ref as))/\Paired (ao H') as R)/\m'=24013-Kn.length/\f1=[Vn v,Vn (.ref f),Vn (.ref wt),Vn (.ref kn),Vn (.ref rw),Vn (.ref g),k1,k2,k3],λf1 H' h=>h,?_⟩;left;refine⟨cg (ag.of N),?_⟩;left;refine⟨rw,_,.ref b,rfl,rfl,N,by rw[Fq,Fs,Jp,GG,Ik,Fy (Fu _),Jd];rfl,?_⟩;rw[show (A0 V.ref (p++[b])).dropLast=A0 V.ref p by rw[Fq];exact JR];have f2:=kh.put (u':=.lst (A0 V.ref p)) N bc;have f3:ao (upd H6 rw (.lst (A0 V.ref p))) b z:=ao.put N dh r;have L:upd H6 rw (.lst (A0 V.ref p)) rw=Vn (.lst (A0 V.ref p)):=aF;have ad:=bz (λa x h=>ao.put (o':=.lst (A0 V.ref p)) N dh h) ez;have e7:Ext C (upd H6 rw (.lst (A0 V.ref p))):=bM e6 bc;generalize upd H6 rw (.lst (A0 V.ref p))=H7 at f2 f3 L ad e7;clear kh N pr ez r hal e6;obtain⟨⟨z',a'⟩,hza,e⟩:=F7.mp (show z∈zas.map (·.1) by rw[I];exact db);have e:z'=z:=e;subst e;obtain⟨vg,f4,gx,gb⟩:=ef (key:=λza:Bfs.Pl×Vb=>za.1) (λ_ _ z=>z.1) g3 c5 hza;obtain rfl:vg=.ref a':=gb;obtain⟨la,d1,f5⟩:=d0 _ hza;have f8:=cA f5;left;refine⟨g,.ref a',rfl,by have:=bw.t (e7 _ _ es) (k:=aA z') f3;rw[f4]at this;exact this,?_⟩;refine bQ (ag.of (e7 _ _ d1)) ?_;refine forL (xs:=A0 V.ref la) (λj σ H'=>∃W' l new k1 k2 k3,Ext C H'/\KH kvs qs C H' f wt kn W' l/\KhI qs (br ws qs z') W W' new j/\FnS ws (Kn++[(z',cV Fn z')]) l (R'++new)/\(∃as,H' rw=Vn (.lst (A0 V.ref as))/\Paired (ao H') as (R'++new))/\σ=[Vn v,Vn (.ref f),Vn (.ref wt),Vn (.ref kn),Vn (.ref rw),Vn (.ref g),k1,k2,k3]) ⟨W,Fn,[],_,_,_,e7,f2,⟨λu _=>by rw[List.take_zero,IV];rfl,λu=>by simp,Gq⟩,⟨fs.nd,λu=>by
   rw[fs.al u,GJ];simp only[Fq,GY,Lc,Fx,Fi];constructor
   .rintro(a|a|a)
    .exact .inl (.inl a)
    .exact .inr a
    .exact .inl (.inr a)
   .rintro((a|a)|a)
    .exact .inl a
    .exact .inr (.inr a)
    .exact .inr (.inl a),fs.lw⟩,⟨p,L,by rw[GJ];exact ad⟩,rfl⟩ (λj σ H' _ h=>by obtain⟨_,_,_,_,_,_,e,_⟩:=h;exact ag.of (e _ _ d1)) ?_ ?_
  .rintro j u σ A hu ⟨W',l,new,k1,k2,k3,eB,ca,ki,fs',⟨am,a2,a1⟩,rfl⟩;rw[E9]at hu;obtain⟨c,hc,rfl⟩:=Fj.mp hu;obtain⟨y,S,a9⟩:=bU f5 hc;have dp:ao A c y:=eB _ _ a9;have a0:=gB (Fh S);have fa:=KhI.pos (R':=[]) U ks f0 ki S;have be:=ki.step S fa;obtain⟨kw,O,gl,a4,an⟩:=ca.wput a0;have an:=an (W' y-1);have go:=cA a1;left;refine⟨wt,_,rfl,by have:=bw.t O (k:=aA y) dp;rw[a4]at this;exact this,?_⟩;left;rw[show ((W' y:Nat):Int)-1=((W' y-1:Nat):Int) by omega];refine⟨wt,_,rfl,cX.t O (k:=aA y) dp (cj (by omega)),?_⟩;have bg:Ext C (upd A wt (.dT (putK kw (aA y) (.int ((W' y-1:Nat):Int))))):=bM eB dk;have dr:upd A wt (.dT (putK kw (aA y) (.int ((W' y-1:Nat):Int)))) wt=Vn (.dT (putK kw (aA y) (.int ((W' y-1:Nat):Int)))):=aF;have cc:upd A wt (.dT (putK kw (aA y) (.int ((W' y-1:Nat):Int)))) rw=Vn (.lst (A0 V.ref am)):=by rw[aB (bp a2 O (by intro z;cases z))];exact a2
   have cd:=bz (λa x h=>ao.put (o':=.dT (putK kw (aA y) (.int ((W' y-1:Nat):Int)))) O dF h) a1;generalize upd A wt (.dT (putK kw (aA y) (.int ((W' y-1:Nat):Int))))=HC at an bg dr cc cd ⊢;have bi:ao HC c y:=bg _ _ a9;clear dp O a4 a2 a1 ca eB;left;refine cC ?_;left;refine⟨wt,_,rfl,by have:=bw.t dr (k:=aA y) bi;rw[fX,F6 rfl]at this;exact this,?_⟩;left;by_cases h0:W' y-1=0
   .rw[F4 (show((W' y-1:Nat):Int)=0 by omega)];refine aI ?_;rw[F6 h0]at be;have ce:=be.known U ks f0 a0 (by rw[F6 rfl];exact h0);have hkF:∀u,aZ ws y u->u∈l.map (·.1):=λu hu=>(fs'.al u).mpr (FT _ (by rw[Fq];exact ce u hu));have fc:y∉l.map (·.1):=λh=>by
     have h1:y∈Kn.map (·.1)++[z']++(R'++new):=by have:=(fs'.al y).mp h;rwa [Fq]at this
     have gc:W' y≠0:=by omega
     have h2:=ki.w y a0;have h3:W y≠0:=by omega
     rcases Fx.mp h1 with a|a
     .refine h3 ((ks.z0 y a0).mpr ?_);rcases Fx.mp a with a|a
      .exact FT _ a
      .exact FR _ (FR _ a)
     .rcases Fx.mp a with a|a
      .exact h3 ((ks.z0 y a0).mpr (FR _ (FT _ a)))
      .exact gc ((ki.nw y).mp a).2
    have gz:l.length<=24012:=by
     have:=sub_len fs'.nd (m:=qs) λu hu=>by
      have h1:u∈Kn.map (·.1)++[z']++(R'++new):=by have:=(fs'.al u).mp hu;rwa [Fq]at this
      rcases Fx.mp h1 with a|a
      .rcases Fx.mp a with a|a
       .exact ks.inq u (FT _ a)
       .exact ks.inq u (FR _ (FR _ a))
      .rcases Fx.mp a with a|a
       .exact ks.inq u (FR _ (FT _ a))
       .exact gB (Gs ((ki.nw u).mp a).1)
     rw[E7]at this;omega
    have h6:(R'++new).length<=24012:=by
     have h1:(R'++new).Nodup:=by rw[GD];refine⟨((GD.mp (GD.mp ks.nd).2.1).1),ki.nd,λa ha c hc e=>?_⟩;subst e;obtain⟨h1,h2⟩:=(ki.nw a).mp hc;have aq:=gB (Gs h1);have h3:=ki.w a aq;have h4:=IE.mpr h1;have:=(ks.z0 a aq).mpr (FR _ (FT _ ha));omega
     have:=sub_len h1 (m:=qs) λa ha=>by
      rcases Fx.mp ha with w|w
      .exact ks.inq a (FR _ (FT _ w))
      .exact gB (Gs ((ki.nw a).mp w).1)
     omega
    left;refine⟨v,m,ws,c,y.1,y.2,rfl,hv.ext (nHC _ bg),ok,bi,λbl HD cs eD d4 J a3=>?_⟩;have aj:=kL ok a3;have ba:=F9 aj;have ek:(aL ws y).length<=100:=FI iS cl;have ds:=an.ext eD;have fd:=bg.trans eD;have fe:=eD _ _ cc;have ff:=bz (λa x h=>eD _ _ h) cd;clear a3 an cd cc dr;refine bQ (ag.of J) ?_;refine dJ (xs:=A0 V.ref cs) (λi ys H'=>H'=HD/\ys=(((aL ws y).take i).map λe=>((cV l e.2:Nat):Int)).map V.int) (b7 (by rw[E7];omega)) ⟨rfl,rfl⟩ (λi ys H' _ h=>by obtain⟨rfl,rfl⟩:=h;refine⟨ag.of J,?_⟩;rw[E7,E7,FZ];omega) ?_ ?_
    .rintro i u ys H8 hu ⟨rfl,rfl⟩;rw[E9]at hu;obtain⟨a,ha,rfl⟩:=Fj.mp hu;obtain⟨⟨k,y2⟩,fl,b2,hab,dc⟩:=bU aj ha;obtain⟨kk,ge,gf⟩:=ds.kd.val fs'.nd (iO (hkF y2 (dM.mp ⟨k,Fh fl⟩)));refine dD (ay.of hab) rfl ?_;left;right;refine⟨kn,_,rfl,by have:=bw.t ge (k:=aA y2) dc;rw[gf]at this;exact this,?_⟩;refine⟨rfl,?_⟩;rw[GA,fl,Fq,Fq];rfl
    rintro ys H8 p8 ⟨rfl,rfl⟩ b3;rw[E7,ba,FD];have Y:=aY (o:=.lst (((aL ws y).map λe=>((cV l e.2:Nat):Int)).map V.int)) b3;have dt:upd H8 p8 (.lst (((aL ws y).map λe=>((cV l e.2:Nat):Int)).map V.int)) p8=some (.lst (((aL ws y).map λe=>((cV l e.2:Nat):Int)).map V.int)):=aF;have du:=ds.ext Y;have dx:=fd.trans Y;have cf:=Y _ _ fe;have dy:=bz (λa x h=>Y _ _ h) ff;generalize upd H8 p8 (.lst (((aL ws y).map λe=>((cV l e.2:Nat):Int)).map V.int))=H9 at dt du dx cf dy ⊢;clear Y b3 ds fd fe ff J aj;have hys:aZ ws y z':=by have h1:=kz (ws:=ws) (y:=z') (z:=y) U;rw[F6 a0]at h1;have h2:=IE.mpr (Fh S);rw[h1]at h2;obtain⟨e,he,e2⟩:=F7.mp (IE.mp h2);exact dM.mp ⟨e.1,by rw[<-e2];exact he⟩
    left;refine⟨p8,_,rfl,ag.of dt,?_,λM hM bm=>?_⟩
    .obtain⟨k,hk⟩:=dM.mpr hys;rw[E7];exact He hk
    obtain⟨n,hn,hl⟩:=DC hkF fs'.lw hM bm;obtain⟨kk,ch,h8,ci⟩:=du.kput fc;have ci:=ci n;left;rw[hn];have fp:ao H9 c y:=dx _ _ a9;refine⟨kn,_,rfl,cX.t ch (k:=aA y) fp (cj (by omega)),?_⟩;have eCA:Ext C (upd H9 kn (.dT (putK kk (aA y) (.int (n:Nat))))):=bM dx dl;have ap:upd H9 kn (.dT (putK kk (aA y) (.int (n:Nat)))) rw=Vn (.lst (A0 V.ref am)):=by rw[aB (bp cf ch (by intro z;cases z))];exact cf
    have fq:=bz (λa x h=>ao.put (o':=.dT (putK kk (aA y) (.int (n:Nat)))) ch dF h) dy;generalize upd H9 kn (.dT (putK kk (aA y) (.int (n:Nat))))=HA at ci eCA ap fq ⊢;clear du cf dy dt ch hM bm hn;left;refine⟨cg (ag.of ap),?_⟩;left;refine bR ap (cj (by rw[E7];omega)) ?_;left;refine⟨_,l++[(y,n)],_,_,_,_,bM eCA bc,ci.put ap bc,be,⟨?_,λu=>?_,λe he=>?_⟩,⟨am++[c],by rw[aF,Fq];rfl,?_⟩,rfl⟩
    .rw[Fq,GD];refine⟨fs'.nd,by simp,λa ha c hc e=>?_⟩;have:c=y:=by simpa using hc
     exact fc (by rw[<-this,<-e];exact ha)
    .rw[Fq,Fx,fs'.al u];simp only[Fx,or_assoc];exact Iff.rfl
    .rcases Fx.mp he with w|w
     .exact fs'.lw e w
     .rw[Fi.mp w];exact hl
    .rw[<-Gm];exact gr (bz (λa x h=>ao.put ap dh h) fq) (ao.put ap dh (eCA _ _ a9))
   .rw[F3 (show ¬((W' y-1:Nat):Int)=0 by omega)];refine aC ?_;rw[F5 h0]at be;left;exact⟨_,l,_,_,_,_,bg,an,be,fs',⟨am,cc,cd⟩,rfl⟩
  .rintro σ A ⟨W',l,new,k1,k2,k3,eB,ca,ki,fs',⟨am,a2,a1⟩,rfl⟩;rw[E7,f8]at ki;left;exact⟨_,by rw[Fs,GG];omega,_,_,_,_,_,_,_,eB,ca,ks.done U ga ki,fs',⟨am,a2,a1⟩,rfl,rfl⟩
 .rintro σ H' ⟨Kn,Fn,W,k1,k2,k3,gi,kh,ks,fs,rfl⟩;left;have al:∀z,z∈Fn.map (·.1)↔z∈Kn.map (·.1):=λz=>by rw[fs.al z,GJ]
  refine q kn Fn H' (nHC _ gi) kh.kd fs.nd (λe he=>⟨?_,fs.lw e he⟩) λz G h=>(al z).mpr (ks.all G λy S=>(al y).mp (h y S));exact ks.inq _ (FT _ ((al _).mp (F7.mpr ⟨e,he,rfl⟩)))
inductive sf(K:E3)(vs:List V)(H:Hp)(Q:VK)(E:XK):Prop|mk:∀v m ws a x b c as bs y U,vs=[v,.ref a,.ref b,.ref c]->bt H v m ws->HOuse m ws->ao H a x->H b=Vn (.lst (aW as))->H c=Vn (.lst (aW bs))->Bfs.gone (nx:=aN ws U) x as=Vn y->Bfs.gone (nx:=aN ws U) y bs=Vn y->0<bs.length->as.length+bs.length<=20000->(∀H',Ext H H'->Q (.bl true) H')->sf K vs H Q E
theorem xr(T:Bu w mg base):Cal P w K mg base "_law_coming_back" 3 ["_law_house_here","_law_place","_law_walk_here","_law_ring"] (sf K):=by
 refine(lT T.d__law_coming_back).oS ["_law_house_here","_law_place","_law_walk_here","_law_ring","_law_led","_law_gone_here"] λf nd H vs Q E h=>?_;obtain⟨v,m,ws,A,x,o,p,as,bs,y,U,rfl,r,ok,j,g,d,B,C,s,J,q⟩:=h;refine⟨_,(@av _ _ _ _ _ (@bB _ _ _ _ _ _ _ _ (PW.pt (cY (cI (bT (aG (l3 T) f (af (pv 2) (af ae aa rfl) rfl)))) (cY (cI (bT (aG (l3 T) f (af (pv 3) (af ae aa rfl) rfl)))) (eL (aT bG (bq (cn K) rfl T.len_ GI (af (pv 3) aa rfl)) ae (aR _)))))) (@az _ _ _ (@aK _ _ _ _ b8)) aV)
   (@av _ _ _ _ _ (@aH _ _ 4 _ _ _ _ nd rfl oi (aG (lO T) f (af (pv 0) (af (pv 1) (af (pv 2) aa rfl) rfl) rfl)) rfl oi)
   (@av _ _ _ _ _ (@bB _ _ _ _ _ _ _ _ (aT nZ (pv 4) ib (aR _)) (@az _ _ _ (@aK _ _ _ _ b8)) aV)
   (@av _ _ _ _ _ (@aH _ _ 5 _ _ _ _ nd rfl oi (aG (lO T) f (af (pv 0) (af (@ax _ _ _ _ _ _ _ (aQ K) (pv 4) (dQ dH ae) (λ_ _=>rfl)) (af (pv 3) aa rfl) rfl) rfl)) rfl oi)
   (@az _ _ _ (@aK _ _ _ _ (cR (c6 ur (pv 5) ib (aR _)) (dG (c6 (Af f) (@ax _ _ _ _ _ _ _ (aQ K) (pv 5) (dQ dH ae) (λ_ _=>rfl)) (@ax _ _ _ _ _ _ _ (aQ K) (pv 4) (dQ dH ae) (λ_ _=>rfl)) (aR _)))))))))),?_⟩
 left;refine⟨o,20000,as,rfl,g,by lia,by lia,λH1 u=>?_⟩;left;nofun;refine⟨p,20000,bs,rfl,u _ _ d,by lia,by lia,λH2 F=>?_⟩;left;nofun;have c:=u.trans F;refine dE (ag.of (c _ _ d)) ?_;left;rw[E7,F3 (show ¬((bs.length:Nat):Int)=0 by lia)];nofun;refine⟨v,m,ws,A,o,U,x,y,as,rfl,r.ext c,ok,c _ _ j,c _ _ g,by lia,B,λr1 L cs a G i _ ha=>?_⟩;have e:=c.trans G;left;refine⟨rfl,?_⟩;rw[F3 (show ¬(V.ref r1=V.non) by intro z;cases z)];symm;left;refine aP (ag.of i) (v:=.ref a) (by rw[Fq];exact fC _ _) ?_;left;refine⟨v,m,ws,a,p,U,y,y,bs,rfl,r.ext e,ok,ha,e _ _ d,by lia,C,λI M ds b l n _ hb=>?_⟩;left;refine⟨rfl,?_⟩;rw[F3 (show ¬(V.ref I=V.non) by intro z;cases z)];exfalso;left;refine aP (ag.of n) (v:=.ref b) (by rw[Fq];exact fC _ _) ?_;left;refine aP (ag.of (l _ _ i)) (v:=.ref a) (by rw[Fq];exact fC _ _) ?_;refine⟨1,1,_,_,xK hb,xK (l _ _ ha),by decide,?_⟩;rw[Cm];exact q _ (e.trans l)
def w6(H:Hp)(t:Vb)(m:Int)(ws:List Way)(x:Bfs.Pl):Prop:=
  ((∃r:Int,aX ws x (r,x.2+m))/\∃a b as bs,H t=Vn (.tup [.str "rises",.ref a,.ref b])/\H a=Vn (.lst (aW as))/\H b=Vn (.lst (aW bs))/\iU m ws x as bs) ∨
  ((∀r:Int,0<=r->r<m->¬aX ws x (r,x.2+m))/\((∃n:Nat,Bfs.Lw (aZ ws) x n/\H t=Vn (.tup [.str "ends",.int (n:Nat)])) ∨
    ((∀n:Nat,¬Bfs.Lw (aZ ws) x n)/\∃a b as bs y U,H t=Vn (.tup [.str "same",.ref a,.ref b])/\H a=Vn (.lst (aW as))/\H b=Vn (.lst (aW bs))/\Bfs.gone (nx:=aN ws U) x as=Vn y/\Bfs.gone (nx:=aN ws U) y bs=Vn y/\0<bs.length/\((as.length+bs.length:Nat):Int)<=m*(x.2+m+m*m+1))))
def wA{K:E3}(j:bt H v m ws)(ok:HOuse m ws)(d:ao H c x)(l:cF m x)(f:fO K)(tb:Tbs K H)(k:∀t H',Et H H'->Tbs K H'->w6 H' t m ws x->Q (.ref t) H'):nT K [v,.ref c] H Q xe:=
 ⟨v,m,ws,c,x,rfl,j,ok,d,l,f,tb,λhex t g h as bs H' e a b h1 h2 o=>k t H' e a (.inl ⟨hex,g,h,as,bs,b,h1,h2,o⟩),λhno=>⟨λn i t H' e a b=>k t H' e a (.inr ⟨hno,.inl ⟨n,i,b⟩⟩),λi t g h as bs y U H' e a b h1 h2 p q r s=>k t H' e a (.inr ⟨hno,.inr ⟨i,g,h,as,bs,y,U,b,h1,h2,p,q,r,s⟩⟩)⟩⟩
theorem oC{k:Nat}{c:Int}(h:(k:Int)<=c)(a:c<=20000):k<=20000:=by lia
inductive tN(K:E3)(vs:List V)(H:Hp)(Q:VK)(E:XK):Prop|mk:∀v m ws a x t,vs=[v,.ref a,.ref t]->bt H v m ws->HOuse m ws->ao H a x->cF m x->m*(x.2+m+m*m+1)<=20000->w6 H t m ws x->(∀H',Ext H H'->Q (.bl true) H')->tN K vs H Q E
theorem xA(T:Bu w mg base):Cal P w K mg base "_law_right" 4 ["_law_house_here","_law_place","_law_found"] (tN K):=by
 refine(dX T.d__law_right).oS ["_law_house_here","_law_place","_law_found","_law_places","_law_longest_here"] λp nd H vs Q E h=>?_;obtain⟨v,m,ws,pa,x,t,rfl,hv,ok,s,ix,G,ft,q⟩:=h;have m2:=ok.m12;obtain⟨x0,x1,x2,x3⟩:=id ix;obtain⟨hh,t1,rfl,k1,k2⟩:=id hv;obtain⟨xs,j,ad⟩:∃xs,H t=Vn (.tup xs)/\2<=xs.length:=by
  rcases ft with⟨_,O,R,as,bs,j,_⟩|⟨_,⟨n,_,j⟩|⟨_,O,R,as,bs,y,U,j,_⟩⟩
  .exact⟨_,j,by simp⟩
  .exact⟨_,j,by simp⟩
  .exact⟨_,j,by simp⟩
 refine⟨_,(@av _ _ _ _ _ (@bB _ _ _ _ _ _ _ _ (PW.pt (cY (cI (bT (bq eM rfl T.isinstance_ GH (af (pv 2) (af (eO (v:=.ty "tuple") rfl T.tuple_ Ga rfl) aa rfl) rfl)))) (eL (aT fm (bq (cn K) rfl T.len_ GI (af (pv 2) aa rfl)) ae (aR _))))) (@az _ _ _ (@aK _ _ _ _ b8)) aV)
   (@av _ _ _ _ _ (@aH _ _ 3 _ _ _ _ nd rfl oi (aG (Ax T) p (af (pv 0) (af (pv 1) (af (aJ bx (@ax _ _ _ _ _ _ _ (aD K) (pv 1) ae (λ_ _=>rfl)) (@ax _ _ _ _ _ _ _ (aD K) (pv 0) ae (λ_ _=>rfl))) aa rfl) rfl) rfl)) rfl oi)
   (@av _ _ _ _ _ (@bB _ _ _ _ _ _ _ _ (aT j6 (bq (pB K rfl) rfl T.max_ HN (af (cK ["_law_there"] [] (kr (pv 3)) (λ_=>(aO (i:=0) (show(["_law_there"]:List Vm).Nodup from by decide +kernel) rfl oi oj)) (λ_=>dm) (λ_=>(@ax _ _ _ _ _ _ _ (aD K) (pv 0) ae (λ_ _=>rfl)))) aa rfl)) (aJ bx (@ax _ _ _ _ _ _ _ (aD K) (pv 1) ae (λ_ _=>rfl)) (@ax _ _ _ _ _ _ _ (aD K) (pv 0) ae (λ_ _=>rfl))) (aR _)) (@av _ _ _ _ _ (@bB _ _ _ _ _ _ _ _ (aT iR (bq (cn K) rfl T.len_ GI (af (pv 2) aa rfl)) ae (aR _)) (@az _ _ _ (@aK _ _ _ _ b8)) aV)
   (@av _ _ _ _ _ (@bB _ _ _ _ _ _ _ _ (aT bG (@ax _ _ _ _ _ _ _ (aD K) (pv 2) ae (λ_ _=>rfl)) a8 (aR _)) (@az _ _ _ (@aK _ _ _ _ (aG (A1 T) p (af (pv 0) (af (pv 1) (af (@ax _ _ _ _ _ _ _ (aD K) (pv 2) ae (λ_ _=>rfl)) (af (@ax _ _ _ _ _ _ _ (aD K) (pv 2) ae (λ_ _=>rfl)) aa rfl) rfl) rfl) rfl)))) aV)
   (@az _ _ _ (@aK _ _ _ _ (cR (c6 bG (@ax _ _ _ _ _ _ _ (aD K) (pv 2) ae (λ_ _=>rfl)) a8 (aR _)) (dG (aG (xr T) p (af (pv 0) (af (pv 1) (af (@ax _ _ _ _ _ _ _ (aD K) (pv 2) ae (λ_ _=>rfl)) (af (@ax _ _ _ _ _ _ _ (aD K) (pv 2) ae (λ_ _=>rfl)) aa rfl) rfl) rfl) rfl)))))))) aV)
   (@av _ _ _ _ _ (@aH _ _ 4 _ _ _ _ nd rfl oi (aG (DA T) p (af (pv 0) (af (pv 3) aa rfl) rfl)) rfl oi)
   (@av _ _ _ _ _ (@bB _ _ _ _ _ _ _ _ (fY (xN (bo p) (pv 1) (pv 4)) (by with_unfolding_all rfl)) (@az _ _ _ (@aK _ _ _ _ (cR (c6 bG (bq (cn K) rfl T.len_ GI (af (pv 2) aa rfl)) ae (aR _)) (cR (c6 bG (@ax _ _ _ _ _ _ _ (aD K) (pv 2) ae (λ_ _=>rfl)) a8 (aR _)) (dG (aG (CQ T) p (af (@ax _ _ _ _ _ _ _ (aD K) (pv 2) ae (λ_ _=>rfl)) (af (cz (bo p) (pv 4) (pv 1) (λ_ _=>rfl)) aa rfl) rfl))))))) aV)
   (@az _ _ _ (@aK _ _ _ _ (cR (c6 bG (bq (cn K) rfl T.len_ GI (af (pv 2) aa rfl)) ae (aR _)) (cR (c6 bG (@ax _ _ _ _ _ _ _ (aD K) (pv 2) ae (λ_ _=>rfl)) a8 (aR _)) (dG (aG (xr T) p (af (pv 0) (af (pv 1) (af (@ax _ _ _ _ _ _ _ (aD K) (pv 2) ae (λ_ _=>rfl)) (af (@ax _ _ _ _ _ _ _ (aD K) (pv 2) ae (λ_ _=>rfl)) aa rfl) rfl) rfl) rfl)))))))))))),?_⟩
 left;refine eJ (n:="tuple") (.inr ⟨rfl,_,j⟩) (b:=true) rfl ?_;left;nofun;refine f9 (ay.of j) ?_;left;rw[F3 (show ¬((xs.length:Nat):Int)<2 by lia)];refine aC ?_;clear j ad xs;left;refine aE (ay.of s) (v:=.int x.2) rfl ?_;left;refine aE (ay.of k1) (v:=.int m) rfl ?_;left;refine⟨_,m,ws,pa,x,_,rfl,hv,ok,s,⟨x0,x1,x2,by lia⟩,by lia,λf H1 kvs fl e1 hfn hf pk a4 hds hal=>?_⟩;left;refine⟨f,kvs,rfl,.inl hf,λod bs a5=>?_⟩;have e2:Ext H (upd H1 f (.frz od (.dT kvs))):=bM e1 hfn;have A:(upd H1 f (.frz od (.dT kvs))) f=Vn (.frz od (.dT kvs)):=aF;have a6:Paired (λ(kv:List Key×V) (z:Bfs.Pl)=>kv.1=aA z) kvs (fl.map (·.1)):=EX (λa c h=>h.1) pk;have l:Paired (ao (upd H1 f (.frz od (.dT kvs)))) bs (fl.map (·.1)):=bz (λa y h=>ao.put hf dF h) (iW a5 a6);have a9:=F9 l;rw[E7]at a9;clear a5;generalize upd H1 f (.frz od (.dT kvs))=H2 at e2 A l ⊢;have S:fl.length<=24012:=oF (m:=m) (U:=x.2+m) m2 (by lia) a4 λe W=>pw ok ⟨x0,x1,x2,by lia⟩ (hds e W).1;refine j3 (λi ys H'=>H'=H2/\ys=(fl.take i).map λe=>V.int e.1.2) (HE (cj (by lia))) ⟨rfl,rfl⟩ (λi ys H' h=>⟨by rw[h.1];exact A,by rw[h.2,E7,FZ];lia⟩) ?_ ?_
 .rintro i b ys H' hb ⟨rfl,rfl⟩;obtain⟨z,hz,ah⟩:=bU l hb;rw[E9]at hz;obtain⟨e,W,rfl⟩:=Fj.mp hz;left;right;refine aE (ay.of ah) (v:=.int e.1.2) rfl ?_;refine⟨rfl,?_⟩;rw[GA,W,Fq];rfl
 rintro ys H' p9 ⟨rfl,rfl⟩ X;rw[a9,FD,show (fl.map λe=>V.int e.1.2)=(fl.map λe=>e.1.2).map V.int by rw[ID];rfl];have I:x∈fl.map (·.1):=hal 0 x .zero;obtain⟨ex,hex,aq⟩:=F7.mp I;have u:=e2.trans (aY (o:=.lst ((fl.map λe=>e.1.2).map V.int)) X);have ab:=(aY (o:=.lst ((fl.map λe=>e.1.2).map V.int)) X) _ _ A;have h9:upd H' p9 (.lst ((fl.map λe=>e.1.2).map V.int)) p9=Vn (.lst ((fl.map λe=>e.1.2).map V.int)):=aF;generalize upd H' p9 (.lst ((fl.map λe=>e.1.2).map V.int))=H3 at u ab h9 ⊢;clear l A e2 X H' hf hfn e1 H1 pk;left;refine⟨p9,fl.map λe=>e.1.2,rfl,ag.of h9,by rw[E7];exact He hex,λN hN Y=>?_⟩;left;refine aE (ay.of (u _ _ s)) (v:=.int x.2) rfl ?_;left;refine aE (ay.of (u _ _ k1)) (v:=.int m) rfl ?_;left;have hfirst:∀r:Int,aX ws x (r,x.2+m)->x.2+m<=N:=λr p=>by obtain⟨n,hw⟩:=CG ok ix p;obtain⟨e',ai,aj⟩:=F7.mp (hal n _ hw.choose_spec);have:=Y e'.1.2 (F7.mpr ⟨e',ai,rfl⟩);rw[aj]at this;exact this
 have hwk:∀y,y∈fl.map (·.1)->aX ws x y:=λy hy=>by obtain⟨e,W,rfl⟩:=F7.mp hy;exact⟨e.2,(hds e W).1.rw.imp λa c h=>wb ok.ok h.choose_spec⟩
 rcases ft with⟨hex,O,R,as,B,j,h1,h2,J⟩|⟨hno,ak⟩
 .obtain⟨r,p⟩:=hex;rw[F4 (hfirst r p)];refine aI ?_;have F:=u _ _ j;left;refine f9 (ay.of F) ?_;left;nofun;refine aE (ay.of F) (v:=.str "rises") rfl ?_;left;refine cD ?_;rw[fh];exfalso;left;refine aE (ay.of F) (v:=.ref O) rfl ?_;left;refine aE (ay.of F) (v:=.ref R) rfl ?_;have hlen:as.length+B.length<=20000:=by obtain⟨_,_,_,_,_,_,_,_,_,_,h⟩:=id J;exact oC h G
  exact⟨_,m,ws,pa,x,O,R,as,B,rfl,hv.ext u,ok,u _ _ s,u _ _ h1,u _ _ h2,J,hlen,λH4 e4=>q _ (u.trans e4)⟩
 .have hlt:N<x.2+m:=by obtain⟨e,W,rfl⟩:=F7.mp hN;obtain⟨n,L⟩:=hwk e.1 (F7.mpr ⟨e,W,rfl⟩);exact(kB ok ix hno n _ L).2
  rw[F3 (show ¬x.2+m<=N by lia)];refine aC ?_;have hall:∀y,aX ws x y->y∈fl.map (·.1):=λy ⟨n,L⟩=>by obtain⟨_,_,hw⟩:=CL ok ix hno n y L;exact hal n _ hw
  have hcl:∀z∈fl.map (·.1),∀y,aZ ws z y->y∈fl.map (·.1):=λz hz y hy=>hall y ((hwk z hz).trans (.one hy));left;refine⟨_,m,ws,f,od,kvs,fl.map (·.1),rfl,hv.ext u,ok,ab,a6,a4,by rw[E7];exact S,hcl,λkn Kn H4 e4 kd am hKn Z=>?_⟩;have d:=u.trans e4;have a0:ao H4 pa x:=d _ _ s;obtain⟨kk,a1,an⟩:=id kd;left;refine⟨kn,_,rfl,bw.t a1 (k:=aA x) a0,?_⟩;rcases ak with⟨n,L,j⟩|⟨L,O,R,as,B,y,U,j,h1,h2,g1,g2,ap,ac⟩
  .have a2:x∈Kn.map (·.1):=Bfs.qQ (C:=λz=>z∈fl.map (·.1)) (Kn:=λz=>z∈Kn.map (·.1)) (λa c ha hs=>hcl a ha c hs) (λz hz h=>Z z hz h) n x I L;have hmem:=iO a2;obtain⟨ar,M,a3⟩:=kd.val am hmem;rw[a1]at M;cases M;rw[show cV Kn x=n from(hKn _ hmem).2.uniq L]at a3;rw[a3];exfalso;have g:=d _ _ j;left;refine f9 (ay.of g) ?_;left;right;refine aE (ay.of g) (v:=.str "ends") rfl ?_;left;refine cD ?_;rw[fh];exfalso;left;refine aE (ay.of g) (v:=.int (n:Nat)) rfl ?_;left;refine⟨kn,_,rfl,by have:=bw.t a1 (k:=aA x) a0;rw[a3]at this;exact this,?_⟩;exact⟨_,rfl,q _ d⟩
  .have a2:x∉Kn.map (·.1):=λh=>L _ (hKn _ (iO h)).2;rw[eR (key:=λe:Bfs.Pl×Nat=>e.1) (λ_ _ z=>z.1) an a2];symm;have g:=d _ _ j;left;refine f9 (ay.of g) ?_;left;right;refine aE (ay.of g) (v:=.str "same") rfl ?_;left;refine cD ?_;rw[fh];exfalso;left;refine aE (ay.of g) (v:=.ref O) rfl ?_;left;refine aE (ay.of g) (v:=.ref R) rfl ?_;exact⟨_,m,ws,pa,x,O,R,as,B,y,U,rfl,hv.ext d,ok,a0,d _ _ h1,d _ _ h2,g1,g2,ap,oC ac G,λH5 e5=>q _ (d.trans e5)⟩
def Tk(H H':Hp):Prop:=∀b xs,H b=Vn (.tup xs)->H' b=Vn (.tup xs)
def Tk.put(e:Tk H H')(a:H' f=Vn (.lst xs)):Tk H (upd H' f (.lst ys)):=λb zs h=>by rw[aB (bp (e b zs h) a (by intro z;cases z))];exact e b zs h
def bt.tk(e:Tk H H')(h:bt H v m ws):bt H' v m ws:=by obtain⟨p,q,rfl,h1,bs,h2,a,c⟩:=h;exact⟨p,q,rfl,e _ _ h1,bs,e _ _ h2,a,λj b k d f=>e _ _ (c j b k d f)⟩
def gL(H:Hp)(n:Nat)(u:V):Prop:=(∃i,u=.int i)\/∃l xs,u=.ref l/\H l=Vn (.lst xs)/\xs.length<=n
theorem gL.put{u:V}{l:Vb}(h:gL H n u)(b:n<=k)(a:ys.length<=k):gL (upd H l (.lst ys)) k u:=by
 rcases h with h|⟨c,xs,h1,h2,d⟩
 .exact .inl h
 .refine .inr ?_;by_cases e:c=l
  .exact⟨c,ys,h1,by rw[e,aF],a⟩
  .exact⟨c,xs,h1,by rw[aB e];exact h2,by lia⟩
def C7{a b:Option Int}{u:V}(h:u∈bY xs a b):u∈xs:=by exact Kt (Gs h)
theorem B8{a b:Option Int}:(bY xs a b).length<=xs.length:=by unfold bY;rw[FZ,HP];lia
inductive jZ(K:E3)(vs:List V)(H:Hp)(Q:VK)(E:XK):Prop|mk:∀(a:Vb) (ns:List Int),vs=[.ref a]->ag K H a (ns.map V.int)->ns.length<=63->(∀y∈(["kept","low_levels","risen"]:List Vm),∀c T,Gr K y=Vn (c,T)->H T=Vn (.tbl #[]))->fO K->(∀H',Q (.bl true) H')->jZ K vs H Q E
abbrev gG:Stmt:=stq 97
def uK:FnScope ["_law_script","_law_house_here","_law_place","_law_found","_law_told","_law_near","_law_there"] ["_law_script"] (cM gG):=⟨rfl,rfl,rfl,by decide +kernel,rfl,by decide +kernel,by decide +kernel⟩
theorem ED(F:Fun K "law" "law" gG f fd)(T:Bu w mg base):FnOk P w K mg base dP 13 f fd ["_law_script"] (jZ K):=by
 have nd:=(uK).nd;refine F.ok uK (λvs H Q E h=>?_) (λcdv A outer s H vs Q E L h=>?_)
 .obtain⟨a,ns,rfl,_⟩:=h;rfl
 .obtain⟨a,ns,rfl,ha,hl,hT,ak,q⟩:=h;have M:Tbs K H:=⟨λc T e=>.inl (hT _ (by simp) c T e),λc T e=>.inl (hT _ (by simp) c T e),λc T e=>.inl (hT _ (by simp) c T e)⟩;clear hT;refine⟨_,(@av _ _ _ _ _ (@iJ _ _ _ _ _ _ (aG (Ap T) L (af (pv 0) aa rfl)) (dw (n:=2) K rfl (bF (aO (i:=1) nd rfl oi) (bF (aO (i:=2) nd rfl oi) df))) rfl rfl rfl)
    (@av _ _ _ _ _ (@aH _ _ 3 _ _ _ _ nd rfl oi (aG (sP T) L (af (pv 1) (af (pv 2) aa rfl) rfl)) rfl oi)
    (@av _ _ _ _ _ (@bB _ _ _ _ _ _ _ _ (cI (bT (aG (xA T) L (af (pv 1) (af (pv 2) (af (pv 3) aa rfl) rfl) rfl)))) (@az _ _ _ (@aK _ _ _ _ b8)) aV)
    (@av _ _ _ _ _ (bJ F8 rfl (jF K (fM Ct (pv 3) (eS ae) gJ)) (aO (i:=4) nd rfl oi) (@az _ _ _ (cL (bT (bq eM rfl T.isinstance_ GH (af (pv 4) (af (eO (v:=.ty "list") rfl T.list_ IA rfl) aa rfl) rfl))) (@av _ _ _ _ _ (bA (bO K Ff Fv Fw bV (pv 4) (af (dQ dH ae) aa rfl)))
    (@az _ _ _ (bA (kU K Ff PySem.F.slot_list_reverse PySem.F.type_list_reverse Cn (pv 4))))) aV)))
    (@av _ _ _ _ _ (fE (i:=5) ["_law_k","_law_there"] [] nd rfl oi (bP K (aG (jr T) L (af (pv 1) (af (pv 2) aa rfl) rfl))) (λ_=>(dw (n:=2) K rfl (bF (aO (i:=0) (show(["_law_k","_law_there"]:List Vm).Nodup from by decide +kernel) rfl oi oj) (bF (aO (i:=1) (show(["_law_k","_law_there"]:List Vm).Nodup from by decide +kernel) rfl oi oj) df)))) (λ_=>(dI (aT g8 (@ax _ _ _ _ _ _ _ (aD K) (pv 1) ae (λ_ _=>rfl)) ae (aR _)))) (λ_=>(pv 1)))
    (@av _ _ _ _ _ (bJ F8 rfl (bP K (aJ lE (fM (f7 K) (pv 5) gJ (eS ae)) (@bI _ _ _ _ (af (pv 2) aa rfl)))) (aO (i:=6) nd rfl oi) (@az _ _ _ (@bB _ _ _ _ _ _ _ _ (cI (bT (aG (xA T) L (af (pv 1) (af (pv 6) (af (aG (sP T) L (af (pv 1) (af (pv 6) aa rfl) rfl)) aa rfl) rfl) rfl)))) (@az _ _ _ (@aK _ _ _ _ b8)) aV)))
    (@az _ _ _ (@aK _ _ _ _ b8)))))))),?_⟩
  left;refine⟨a,ns,rfl,ha,hl,λc v m ws j x H1 e1 ⟨hc,hv,ok,X,ix,am⟩=>?_⟩;have m1:=ok.m1;have m2:=ok.m12;have co:=ok.few;obtain⟨x0,x1,x2,x3⟩:=id ix;have N:=uW m1 m2 x2 (by rcases am with h|⟨h1,h2⟩;exact .inl (by lia);exact .inr ⟨h1,by lia⟩);have an:=M.ext e1;clear M e1 ha;left;refine dD (ay.of hc) rfl ?_;left;refine wA hv ok X ix ak an λt H2 e2 ap ft=>?_;have Y:=hv.et e2;have Z:ao H2 j x:=ao.et e2 X;clear hv X an hc e2;left;refine⟨v,m,ws,j,x,t,rfl,Y,ok,Z,ix,N,ft,λH3 e3=>?_⟩;obtain⟨s,us,O,cp,aq⟩:∃s us,H2 t=Vn (.tup (.str s::us))/\us.length<=2/\∀u∈us,gL H2 20000 u:=by
   have two:∀{l1 l2:Vb} {as bs:List Nat} {u:V},H2 l1=Vn (.lst (aW as))->H2 l2=Vn (.lst (aW bs))->((as.length+bs.length:Nat):Int)<=m*(x.2+m+m*m+1)->u∈[V.ref l1,V.ref l2]->gL H2 20000 u:=λh1 h2 C g=>by
    have:=oC C N;rcases Fo.mp g with h|h
    .exact .inr ⟨_,_,h,h1,by rw[E7];lia⟩
    .exact .inr ⟨_,_,Fi.mp h,h2,by rw[E7];lia⟩
   rcases ft with⟨_,l1,l2,as,bs,O,h1,h2,L⟩|⟨_,⟨n,_,O⟩|⟨_,l1,l2,as,bs,y,U,O,h1,h2,_,_,_,hl⟩⟩
   .obtain⟨_,_,_,_,_,_,_,_,_,_,hl⟩:=id L;exact⟨_,_,O,by simp,λu g=>two h1 h2 hl g⟩
   .exact⟨_,_,O,by simp,λu g=>.inl ⟨_,Fi.mp g⟩⟩
   .exact⟨_,_,O,by simp,λu g=>two h1 h2 hl g⟩
  have R:∀u∈us,gL H3 20000 u:=λu g=>by
   rcases aq u g with h|⟨l,xs,h1,h2,C⟩
   .exact .inl h
   .exact .inr ⟨l,xs,h1,e3 _ _ h2,C⟩
  have ar:=e3 _ _ O;have au:=ap.ext e3;have b0:=Y.ext e3;have b1:ao H3 j x:=e3 _ _ Z;clear ft aq O ap Y Z e3 H2;left;nofun;refine Cb ar λtp H4 e4 G=>?_;rw[show bY (V.str s::us) (Vn 1) Vo=us from vU (xs:=V.str s::us) (n:=1) (by simp)]at G;have S:∀u∈us,gL H4 20000 u:=λu g=>by
   rcases R u g with h|⟨l,xs,h1,h2,C⟩
   .exact .inl h
   .exact .inr ⟨l,xs,h1,e4 _ _ h2,C⟩
  have b3:=au.ext e4;have b4:=b0.ext e4;have ba:ao H4 j x:=e4 _ _ b1;clear R ar au b0 b1 e4 H3;refine jU (ay.of G) ?_;refine mP (xs:=us) (λi σ H'=>∃k4,σ=[Vn (.ref a),Vn v,Vn (.ref j),Vn (.ref t),k4,Vo,Vo]/\Tk H4 H'/\Tbs K H'/\∀u∈us,gL H' (20000+i) u) ⟨_,rfl,λ_ _ h=>h,b3,S⟩ (λi σ H' _ h=>by obtain⟨_,_,h,_⟩:=h;exact ay.of (h _ _ G)) ?_ ?_
  .rintro i u σ H5 g ⟨k4,rfl,tk,tb,hfu⟩;have c3:=Fh g;have cr:=(Fg.mp g).1;left;refine iE (λσ H'=>σ=[Vn (.ref a),Vn v,Vn (.ref j),Vn (.ref t),Vn u,Vo,Vo]/\Tk H4 H'/\Tbs K H'/\∀u∈us,gL H' (20000+(i+1)) u) ?_ ?_
   .rcases hfu u c3 with⟨n,rfl⟩|⟨l,xs,rfl,p,ct⟩
    .left;refine eJ (n:="int") rfl (b:=false) rfl ?_;left;nofun;refine⟨rfl,tk,tb,λu g=>?_⟩;rcases hfu u g with h|⟨l,xs,h1,h2,C⟩
     .exact .inl h
     .exact .inr ⟨l,xs,h1,h2,by lia⟩
    .left;refine eJ (qW p) (b:=true) rfl ?_;left;right;refine⟨cg (ag.of p),?_⟩;left;refine bR p (cj (by lia)) ?_;left;refine⟨cg (ag.of aF),?_⟩;left;refine⟨l,_,rfl,rfl,aF,?_⟩;left;have bb:upd H5 l (.lst (xs++[V.int (-1)])) l=Vn (.lst (xs++[V.int (-1)])):=aF;exact⟨rfl,(tk.put p).put bb,(tb.put p).put bb,λu g=>((hfu u g).put (k:=20000+(i+1)) (by lia) (by rw[Fs,GG];lia)).put (Fu _) (by rw[Gh,Fs,GG];lia)⟩
   .rintro σ H6 ⟨rfl,c4,c5,bc⟩;left;exact⟨_,rfl,c4,c5,bc⟩
  rintro σ H5 ⟨k4,rfl,a4,be,_⟩;have a5:=b4.tk a4;have a6:ao H5 j x:=a4 _ _ ba;clear a4 S b3 b4 ba G H4;left;refine⟨v,m,ws,j,x.1,x.2,rfl,a5,ok,a6,λbl H6 cs e6 c9 a9 bg=>?_⟩;have ab:=kL ok bg;have bi:=F9 ab;have cm:(aL ws x).length<=ws.length:=iS;have hy:∀k y,(k,y)∈aL ws x->cF m y/\y.2<=x.2+1:=λk y h=>by obtain⟨a0,a1,a2,a3,_⟩:=fj ok.ok (dM.mp ⟨k,h⟩) x2;exact⟨⟨a0,a1,a2,by lia⟩,a3⟩
  clear bg;refine bQ (ag.of a9) ?_;refine dJ (xs:=A0 V.ref cs) (λi ys H'=>H'=H6/\ys.length<=i/\∀u∈ys,∃d y,u=V.ref d/\ao H6 d y/\cF m y/\y.2<=x.2+1) (b7 (by rw[E7];lia)) ⟨rfl,Fu _,λu h=>(nomatch h)⟩ (λi ys H' _ h=>by obtain⟨rfl,h,_⟩:=h;exact⟨ag.of a9,h⟩) ?_ ?_
  .rintro i u ys H' g ⟨rfl,bm,I⟩;rw[E9]at g;obtain⟨b,hb,rfl⟩:=Fj.mp g;obtain⟨⟨k,y⟩,ca,b2,hab,J⟩:=bU ab hb;have J:ao H' b2 y:=J;obtain⟨bn,cc⟩:=hy k y (Fh ca);refine dD (ay.of hab) rfl ?_;left;refine aE (ay.of J) (v:=.int y.2) rfl ?_;left;rw[F4 (show y.2<=1000 from bn.2.2.2)];right;refine⟨rfl,by rw[Fs,GG];lia,λu g=>?_⟩;rcases Fx.mp g with h|h
   .exact I u h
   .exact⟨b2,y,Fi.mp h,J,bn,cc⟩
  rintro ys H' p7 ⟨rfl,bm,I⟩ bu;rw[E7,bi]at bm;have e7:=aY (o:=.lst ys) bu;have ac:upd H' p7 (.lst ys) p7=Vn (.lst ys):=aF;have r:∀u∈ys,∃d y,u=V.ref d/\ao (upd H' p7 (.lst ys)) d y/\cF m y/\y.2<=x.2+1:=λu g=>by obtain⟨d,y,h1,h2,C⟩:=I u g;exact⟨d,y,h1,e7 _ _ h2,C⟩
  have ad:ao (upd H' p7 (.lst ys)) j x:=e7 _ _ (e6 _ _ a6);have ah:=a5.ext (e6.trans e7);have ai:=be.ext (e6.trans e7);generalize upd H' p7 (.lst ys)=H7 at ac r ad ah ai ⊢;clear I ab a9 c9 e7 e6 be a5 a6 bu;left;refine gh (ag.of ac) (cE λl8 H8 e8 bv _=>?_);left;refine aS λl9 H9 e9 c0 _=>?_;have hcl:(bY ys Vo (Vn 3)).length<=ys.length:=B8;refine l4 (e9 _ _ bv) c0 (HE (cj (by simp;lia))) (cE λlA HA eA aj _=>?_);have B:=e8.trans (e9.trans eA);have W:∀u∈bY ys Vo (Vn 3)++[V.ref j],∃d y,u=V.ref d/\ao HA d y/\cF m y/\y.2<=x.2+1:=λu g=>by
   rcases Fx.mp g with h|h
   .obtain⟨d,y,h1,h2,C⟩:=r u (C7 h);exact⟨d,y,h1,B _ _ h2,C⟩
   .exact⟨j,x,Fi.mp h,B _ _ ad,ix,by lia⟩
  have cd:=ah.ext B;have ce:=ai.ext B;generalize bY ys Vo (Vn 3)++[V.ref j]=zs at aj W;clear r ac bv c0 e8 e9 eA B ad ah ai hcl;refine bQ (ag.of aj) ?_;refine forL (xs:=zs) (λi σ H'=>∃k6,σ=[Vn (.ref a),Vn v,Vn (.ref j),Vn (.ref t),k4,Vn (.ref p7),k6]/\Et HA H'/\Tbs K H') ⟨_,rfl,Et.rfl' _,ce⟩ (λi σ H' _ h=>by obtain⟨_,_,h,_⟩:=h;exact ag.of (h _ _ aj (λps z=>by cases z))) ?_ ?_
  .rintro i u σ HB g ⟨k6,rfl,eB,cf⟩;obtain⟨d,y,rfl,ch,iy,cu⟩:=W u (Fh g);have ci:=uW m1 m2 iy.2.2.1 (by rcases am with h|⟨h1,h2⟩;exact .inl (by lia);exact .inr ⟨h1,by lia⟩);have c1:=cd.et eB;have c2:ao HB d y:=ao.et eB ch;left;refine wA c1 ok c2 iy ak cf λt2 HC eC cl ft=>?_;left;refine⟨v,m,ws,d,y,t2,rfl,c1.et eC,ok,ao.et eC c2,iy,ci,ft,λHD eD=>?_⟩;left;nofun;exact⟨_,rfl,(eB.trans eC).trans eD.et,cl.ext eD⟩
  .rintro σ HB _;left;exact q _
def dq{K}{h}{mg}(X:K.In h)(G:h.Ns Vj mg){x}{st}{f}{od an}{sl}{oc kV b pm cd ct}(a:GP K Vj x=Vn (Vn (.ref f)))(l:K.lookup f=Vn ⟨oc,od,.func (Hc x x (ip st) (eW st) (cM st) .none kV b pm an cd ct),sl⟩)(c:Io K cd x=true)(k:IS K (.ref f)=true):Dq K mg x st:=⟨f,_,HS X G a,v7 l c k⟩
def all_mk{l:PySem.W.OpenLaw}{K:E3}{h:Vh}(eK:K=_root_.My.K)(X:K.In h)(G:h.Ns Vj mg)(N:mg "law" = Vn (.ref fa))
  (d0:Dq K mg "_law_behind" (stq 86))
  (d1:Dq K mg "_law_gone" (stq 88))
  (d2:Dq K mg "_law_whole" (stq 89))
  (d3:Dq K mg "_law_walk" (stq 91))
  (d4:Dq K mg "_law_coming_back" (stq 94))
  (d5:Dq K mg "_law_is" (stq 90))
  (d6:Dq K mg "_law_longest" (stq 95))
  (d7:Dq K mg "_law_rising" (stq 93))
  (d8:Dq K mg "_law_come" (stq 87))
  (d9:Dq K mg "_law_right" (stq 96))
  (O:Dq K mg "staying_part" (stq 72))
  (P:Dq K mg "places_ahead" (stq 70))
  (Q:Dq K mg "known_ranks" (stq 71))
  (R:Dq K mg "raised_by" (stq 34))
  (S:Dq K mg "led_to" (stq 35))
  (U:Dq K mg "is_open" (stq 33))
  (Y:Dq K mg "counts_by_room" (stq 58))
  (Z:Dq K mg "steps_by_place" (stq 69))
  (a0:Dq K mg "walk_back" (stq 61))
  (a1:Dq K mg "greatest_met" (stq 59))
  (a2:Dq K mg "found_from" (stq 60))
  (a3:Dq K mg "sought_walk" (stq 62))
  (a4:Dq K mg "last_met" (stq 64))
  (a5:Dq K mg "can_go" (stq 56))
  (a6:Dq K mg "places_gone" (stq 57))
  (a9:Dq K mg "rising_part" (stq 65))
  (ab:Dq K mg "refuse_great_stair" (stq 14))
  (ac:Dq K mg "is_whole" (stq 9))
  (ad:Dq K mg "is_rising_row" (stq 10))
  (ah:Dq K mg "are_stair_places" (stq 11))
  (ai:Dq K mg "is_stair" (stq 12))
  (aj:Dq K mg "refuse_no_stair" (stq 13))
  (ak:Dq K mg "refuse_bad_stair" (stq 15))
  (am:Dq K mg "holds" (stq 18))
  (an:Dq K mg "unbounded_goals" (stq 66))
  (ap:Dq K mg "least_step" (stq 16))
  (aq:Dq K mg "stair_of_marks" (stq 17))
  (ar:Dq K mg "stair_of_room" (stq 53))
  (as:Dq K mg "next_level" (stq 51))
  (au:Dq K mg "reached" (stq 48))
  (b0:Dq K mg "told_pairs" (stq 39))
  (b1:Dq K mg "add_arches" (stq 42))
  (b2:Dq K mg "join_walks" (stq 41))
  (b3:Dq K mg "ways_of_deed" (stq 38))
  (b4:Dq K mg "beginning_table" (stq 40))
  (ba:Dq K mg "kept_table" (stq 43))
  (bb:Dq K mg "is_sign" (stq 27))
  (bc:Dq K mg "is_deed" (stq 26))
  (be:Dq K mg "is_room" (stq 25))
  (bg:Dq K mg "is_way" (stq 28))
  (bi:Dq K mg "are_ways" (stq 29))
  (bl:Dq K mg "is_house" (stq 30))
  (bm:Dq K mg "refuse_no_house" (stq 31))
  (bn:Dq K mg "kept" (stq 44))
  (bu:Dq K mg "ways_by_room" (stq 47))
  (bv:Dq K mg "led_to_from" (stq 36))
  (c0:Dq K mg "low_beside" (stq 49))
  (c1:Dq K mg "low_levels" (stq 50))
  (c2:Dq K mg "risen" (stq 45))
  (c3:Dq K mg "all_levels" (stq 52))
  (c4:Dq K mg "refuse_bad_places" (stq 32))
  (c5:Dq K mg "forward" (stq 54))
  (c9:Dq K mg "greatest" (stq 67))
  (ca:Dq K mg "fate" (stq 73))
  (cc:Dq K mg "_law_mixed" (stq 76))
  (cd:Dq K mg "_law_draws" (stq 77))
  (ce:Dq K mg "_law_cell" (stq 75))
  (cf:Dq K mg "_law_number" (stq 84))
  (ch:Dq K mg "_law_small" (stq 85))
  (ci:Dq K mg "_law_unlike" (stq 79))
  (cl:Dq K mg "_law_drawn_house" (stq 80))
  (cm:Dq K mg "_law_gate_house" (stq 82))
  (co:Dq K mg "_law_ring_house" (stq 81))
  (cp:Dq K mg "_law_spare" (stq 78))
  (cr:Dq K mg "_law_house" (stq 83))
  (cs:Dq K mg "_law_case" (stq 92))
   {m b:Option Vb} {n:Array (Option Va)} {o d f g a i:Va} (ct:GP K Vj "law" = Vn (Vn (.ref j))) (cu:K.lookup j=Vn ⟨o,m,.func (Hc "law" "law" (ip gG) (eW gG) (cM gG) .none d f g b a i),n⟩) (cv:Io K a "law" = true) (da:IS K (.ref j)=true)
  (z0:GP K Vj "len" = Vn Vo)
  (z1:GP K Vj "isinstance" = Vn Vo)
  (z2:GP K Vj "tuple" = Vn Vo)
  (z3:GP K Vj "list" = Vn Vo)
  (z4:GP K Vj "int" = Vn Vo)
  (z5:GP K Vj "bool" = Vn Vo)
  (z6:GP K Vj "range" = Vn Vo)
  (z7:GP K Vj "zip" = Vn Vo)
  (z8:GP K Vj "max" = Vn Vo)
  (z9:GP K Vj "min" = Vn Vo)
  (db:GP K Vj "abs" = Vn Vo)
  (dc:GP K Vj "all" = Vn Vo)
  (dd:GP K Vj "enumerate" = Vn Vo)
  (dg:GP K Vj "set" = Vn Vo)
  (dk:GP K Vj "str" = Vn Vo)
  (dl:GP K Vj "reversed" = Vn Vo)
  (dn:GP K Vj "any" = Vn Vo)
  (dp:GP K Vj "dict" = Vn Vo)
   (v0:GP K Vj "GREATEST_STEP" = Vn (Vn (.int 840 t0)))
   (v1:GP K Vj "GREATEST_BASE" = Vn (Vn (.int 3000 t1)))
   (v2:GP K Vj "GREATEST_WAYS" = Vn (Vn (.int 100 t2)))
   (v3:GP K Vj "GREATEST_MANY" = Vn (Vn (.int 12 t3)))
   (v4:GP K Vj "GREATEST_NUMBER" = Vn (Vn (.int 1000 t4)))
   {p q r u x z A B:Tok}  (x0:GP K Vj "RAISED" = Vn (Vn (.ref e0))) (y0:K.lookup e0=Vn (jc w [("up",p,.int (1) q),("down",r,.int (-1) u),("stay",x,.int (0) z),("zero",A,.int (0) B)] dr)) (w0:(e0 == sysModules)=false)
   {C E F H I J L M:Tok}  (x1:GP K Vj "TURNED" = Vn (Vn (.ref e1))) (y1:K.lookup e1=Vn (jc w [("up",C,.str "down" E),("down",F,.str "up" H),("stay",I,.str "stay" J),("zero",L,.str "zero" M)] ds)) (w1:(e1 == sysModules)=false)
  : ∃fd,(∀s v,BindsTo s fd ⟨[v],[]⟩ [("_law_script",v)])/\∀base,K.In base->base.Ns Vj mg->(∀y∈(["kept","low_levels","risen"]:List Vm),∃c T,Tab K mg base y c T)->FnOk l.prog w K mg base dP 13 fa fd ["_law_script"] (jZ K):=by
 subst eK;have e:=N.symm.trans (HS X G ct);cases e;have T:Blt mg:=⟨GN X G z0,GN X G z1,GN X G z2,GN X G z3,GN X G z4,GN X G z5,GN X G z6,GN X G z7,GN X G z8,GN X G z9,GN X G db,GN X G dc,GN X G dd,GN X G dg,GN X G dk,GN X G dl,GN X G dn,GN X G dp⟩;refine⟨Hc "law" "law" (ip gG) (eW gG) (cM gG) .none d f g b a i,λs v=>.of_eq rfl,λbase KB GB HB=>?_⟩;exact ED (v7 cu cv da) ⟨T,d0,d1,d2,d3,d4,d5,d6,d7,d8,d9,O,P,Q,R,S,U,Y,Z,a0,a1,a2,a3,a4,a5,a6,a9,ab,ac,ad,ah,ai,aj,ak,am,an,ap,aq,ar,as,au,b0,b1,b2,b3,b4,ba,bb,bc,be,bg,bi,bl,bm,bn,bu,bv,c0,c1,c2,c3,c4,c5,c9,ca,cc,cd,ce,cf,ch,ci,cl,cm,co,cp,cr,cs,⟨_,HS X G v0⟩,⟨_,HS X G v1⟩,⟨_,HS X G v2⟩,⟨_,HS X G v3⟩,⟨_,HS X G v4⟩,⟨_,HS X G x0,yV y0 w0⟩,⟨_,HS X G x1,CW y1 w1⟩,HB "kept" (by simp),HB "low_levels" (by simp),HB "risen" (by simp)⟩
def walk{l:PySem.W.OpenLaw}{q:Vd}{m:(Vm->Option Va)->Vh->Prop}{g:Ve->Vh->Prop}{d:DefRec}{K:Params->E3}(o:l.most=Vn 63)(i:d.params.defaults=[])
  (p:∀w h,g w h->(K w.params).In h) (r:∀w:Ve,Kr (K w.params)=true) (hrec:∀y∈(["kept","low_levels","risen"]:List Vm),((PyProof.Rows.recsOf q).find? (λe=>e.name == y)).isSome=true) (htab:∀(w:Ve),∀y∈(["kept","low_levels","risen"]:List Vm),(Gr (K w.params) y).isSome=true) (b:∀w:Ve,fO (K w.params))
  (F:∀w mg j h,g w h->(K w.params).In h->h.Ns Vj mg->mg d.name=Vn (.ref j) ->
   ∃fd,(∀s u,BindsTo s fd ⟨[u],[]⟩ [("_law_script",u)])/\∀base,(K w.params).In base->base.Ns Vj mg->(∀y∈(["kept","low_levels","risen"]:List Vm),∃c T,Tab (K w.params) mg base y c T)->FnOk l.prog w (K w.params) mg base dP 13 j fd ["_law_script"] (jZ (K w.params))) :
  II q loose m g l.row.toRowW d [] (λf vs=>Lk f vs):=
 L2.yA ["kept","low_levels","risen"] o (by decide) i ⟨rfl,by decide,by decide⟩ p r hrec htab F λw H a ns v z A=>⟨a,ns,rfl,A,v,z,b w,λ_=>rfl⟩
end My
end
open PySem PySem.W PyProof.Rows
set_option maxRecDepth 100000 in
set_option maxHeartbeats 0 in
theorem PySem.Challenge.cw_stairrooms_k47_whole_fate_holds : PySem.Challenge.rw_stairrooms_k47_whole_fate.Holds := by
 refine My.top ?_
 k_fill
 refine L2.A6 My.top.heap_39 My.top ?_;refine My.walk (l := PySem.Challenge.rw_stairrooms_k47_whole_fate) rfl rfl (λw h Y => PySem.W.km_in_of Y.1) (λw => by kernel_rfl) ?R (λw => ?Tb) (λw => My.Bi (by kernel_rfl)) ?F
 case R => intro y hy; simp only [List.mem_cons, List.not_mem_nil, or_false] at hy; rcases hy with rfl|rfl|rfl <;> kernel_rfl
 case Tb => intro y hy; simp only [List.mem_cons, List.not_mem_nil, or_false] at hy; rcases hy with rfl|rfl|rfl <;> kernel_rfl
 case F =>
  intro w mg fa h Y KX G hmg;have q := @My.dq _ _ _ KX G
  refine' My.all_mk (by with_unfolding_all exact Y.2) KX G hmg (q ?_ ?_ ?_ ?_) (q ?_ ?_ ?_ ?_) (q ?_ ?_ ?_ ?_) (q ?_ ?_ ?_ ?_) (q ?_ ?_ ?_ ?_) (q ?_ ?_ ?_ ?_) (q ?_ ?_ ?_ ?_) (q ?_ ?_ ?_ ?_) (q ?_ ?_ ?_ ?_) (q ?_ ?_ ?_ ?_) (q ?_ ?_ ?_ ?_) (q ?_ ?_ ?_ ?_) (q ?_ ?_ ?_ ?_) (q ?_ ?_ ?_ ?_) (q ?_ ?_ ?_ ?_) (q ?_ ?_ ?_ ?_) (q ?_ ?_ ?_ ?_) (q ?_ ?_ ?_ ?_) (q ?_ ?_ ?_ ?_) (q ?_ ?_ ?_ ?_) (q ?_ ?_ ?_ ?_) (q ?_ ?_ ?_ ?_) (q ?_ ?_ ?_ ?_) (q ?_ ?_ ?_ ?_) (q ?_ ?_ ?_ ?_) (q ?_ ?_ ?_ ?_) (q ?_ ?_ ?_ ?_) (q ?_ ?_ ?_ ?_) (q ?_ ?_ ?_ ?_) (q ?_ ?_ ?_ ?_) (q ?_ ?_ ?_ ?_) (q ?_ ?_ ?_ ?_) (q ?_ ?_ ?_ ?_) (q ?_ ?_ ?_ ?_) (q ?_ ?_ ?_ ?_) (q ?_ ?_ ?_ ?_) (q ?_ ?_ ?_ ?_) (q ?_ ?_ ?_ ?_) (q ?_ ?_ ?_ ?_) (q ?_ ?_ ?_ ?_) (q ?_ ?_ ?_ ?_) (q ?_ ?_ ?_ ?_) (q ?_ ?_ ?_ ?_) (q ?_ ?_ ?_ ?_) (q ?_ ?_ ?_ ?_) (q ?_ ?_ ?_ ?_) (q ?_ ?_ ?_ ?_) (q ?_ ?_ ?_ ?_) (q ?_ ?_ ?_ ?_) (q ?_ ?_ ?_ ?_) (q ?_ ?_ ?_ ?_) (q ?_ ?_ ?_ ?_) (q ?_ ?_ ?_ ?_) (q ?_ ?_ ?_ ?_) (q ?_ ?_ ?_ ?_) (q ?_ ?_ ?_ ?_) (q ?_ ?_ ?_ ?_) (q ?_ ?_ ?_ ?_) (q ?_ ?_ ?_ ?_) (q ?_ ?_ ?_ ?_) (q ?_ ?_ ?_ ?_) (q ?_ ?_ ?_ ?_) (q ?_ ?_ ?_ ?_) (q ?_ ?_ ?_ ?_) (q ?_ ?_ ?_ ?_) (q ?_ ?_ ?_ ?_) (q ?_ ?_ ?_ ?_) (q ?_ ?_ ?_ ?_) (q ?_ ?_ ?_ ?_) (q ?_ ?_ ?_ ?_) (q ?_ ?_ ?_ ?_) (q ?_ ?_ ?_ ?_) (q ?_ ?_ ?_ ?_) (q ?_ ?_ ?_ ?_) (q ?_ ?_ ?_ ?_) (q ?_ ?_ ?_ ?_) ?_ ?_ ?_ ?_ ?_ ?_ ?_ ?_ ?_ ?_ ?_ ?_ ?_ ?_ ?_ ?_ ?_ ?_ ?_ ?_ ?_ ?_ ?_ ?_ ?_ ?_ ?_ ?_ ?_ ?_ ?_ ?_ ?_
  all_goals try first|k_is|rfl
