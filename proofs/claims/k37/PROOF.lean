import PyProof.Rows.All
import Wide.All
import OpenK.AllK
import Wide.FinOn
import Lean
import PyProof.EqAt
import PyProof.EqKinds
import PyProof.TupleCall
import KE.KLam
import PySem.Challenge.RW_stairrooms_k37_closed_of_told
set_option Elab.async false
namespace PySem.W.Fast
def tw1651258875518373521:=0
def tw15718262095728090245:=0
def tw14600637656281939426:=0
def tw8632990565723312620:=0
def tw15830674291869637329:=0
def tw9478813727029378433:=0
def tw3695248074884446600:=0
def tw11258306804293243132:=0
def tw7470063493387704245:=0
def tw15125771261956903258:=0
def tw10044013261082468525:=0
def tw3544651915260091173:=0
def tw1923656493189036919:=0
def tw8039774922555296384:=0
def tw17856860822835476330:=0
def tw3674714176635118919:=0
def tw6986908369701068897:=0
def tw5581349078452510653:=0
def tw9601680054663184376:=0
def tw8604979696160575008:=0
def tw10166892954511498249:=0
def tw2686718004561559855:=0
def tw12683310795314169836:=0
def tw847593159352496057:=0
def tw4918694162171632466:=0
def tw4746302684295054048:=0
def tw16408023001231065620:=0
def tw5581984692328104656:=0
def tw6692137819554114951:=0
def tw3501889831259424984:=0
def tw1751447207448873119:=0
def tw13956058649364723422:=0
def tw13921919005729749812:=0
def tw17389396115470475288:=0
def tw14321144422957734134:=0
def tw12390782021942118942:=0
def tw3427924564325372817:=0
def tw8047032804361144261:=0
def tw2342838551658309370:=0
def tw12678953225602555564:=0
def tw10760031201136348398:=0
def tw4202673366249849491:=0
def tw8229460734390689525:=0
def tw7393957277229836691:=0
def tw14832175709080873599:=0
def tw800831887125934919:=0
def tw11655376856063916228:=0
def tw705330452703051597:=0
def tw447717403241242290:=0
def tw16469943266984779137:=0
def tw12664327836493813462:=0
def tw2773274263299585572:=0
def tw17571631200592639834:=0
def tw17357414001117552268:=0
def tw11198388801270196117:=0
def tw1057306937073154610:=0
def tw7176572640101177836:=0
def tw2904058922640873309:=0
def tw18027755133952139252:=0
def tw176977295656723065:=0
def tw15529604674929473973:=0
def tw14109453767193502313:=0
def tw13587432420489492189:=0
def tw3015604971527890583:=0
def tw2651210568008831048:=0
def tw18101583386606535240:=0
def tw17908656721387608039:=0
def tw17375602352810135561:=0
def tw11030641428109492703:=0
def tw8186763794367992775:=0
def tw7750769465160294860:=0
def tw6181847661251503008:=0
def tw512557566824241540:=0
def tw439055297870408345:=0
def tw1754243070517289278:=0
def tw16291882091215157828:=0
def tw15104015179872336855:=0
def tw14977234088687162302:=0
def tw12661369023874259431:=0
def tw11383850339681254435:=0
def tw8755266905418455375:=0
def tw2355404199824840798:=0
def tw16988158499489311127:=0
def tw16843462989757039891:=0
def tw16826725409987885975:=0
def tw12632963454795662708:=0
def tw11560677996495128784:=0
def tw8089249423132065445:=0
def tw6393150591798677637:=0
def tw5190860397250508396:=0
def tw4307926830116509514:=0
def tw16632375998614247822:=0
def tw16503717402094505217:=0
def tw15732654264858244716:=0
def tw12323772569751236006:=0
def tw119674054762100072:=0
def tw11846370373574997029:=0
def tw10118012357411222232:=0
def tw9878173891806150429:=0
def tw7240639191980452486:=0
def tw684117499851941213:=0
def tw6714801024506940561:=0
def tw6329672369177362234:=0
def tw404968458719316295:=0
def tw17843169823834903998:=0
def tw16964212798373946863:=0
def tw15968237232650601322:=0
def tw15142431143280010732:=0
def tw13647187277582396961:=0
def tw12249993202121903794:=0
def tw11701492411309977178:=0
def tw10276969695076772373:=0
def tw902582806634263858:=0
def tw8863156965792605256:=0
def tw6178244272827954729:=0
def tw6130821448147606368:=0
def tw4817981600543833687:=0
def tw4074507585887532813:=0
def tw17259577006381911698:=0
def tw16176690743668362219:=0
def tw1599608497217551579:=0
def tw15786528573266890262:=0
def tw15729792075999087868:=0
def tw15660991250957307376:=0
def tw9281662355237421915:=0
def tw7341270039093922885:=0
def tw7134983793405793177:=0
def tw7115244209674446852:=0
def tw5819105399919881484:=0
def tw5442971307982108685:=0
def tw5140171473248983199:=0
def tw4977895861229493542:=0
def tw3866599564448483793:=0
def tw3823650005643028596:=0
def tw3093781508513788219:=0
def tw18038851775406917655:=0
def tw18032779900021213040:=0
def tw17729564300890611173:=0
def tw17716863462265859512:=0
def tw17065142239566038489:=0
def tw1703860651114587486:=0
def tw16980547499210933930:=0
def tw16761591470956491853:=0
def tw16743919102785911483:=0
def tw16306601271817509428:=0
def tw16283258727396688951:=0
def tw16245695487900975421:=0
def tw1612923964453859806:=0
def tw15269425654929456476:=0
def tw14775263502782431712:=0
def tw14670137783204244808:=0
def tw14397947794671477899:=0
def tw1428814744893504695:=0
def tw14221475358252599964:=0
def tw13135487405686255751:=0
def tw12357872333080808881:=0
def tw12296552071639831032:=0
def tw11787554532782738252:=0
def tw11339562753883754242:=0
def tw1069010634818593453:=0
def tw7848866751621661257:=0
def tw762384175361060421:=0
def tw6744984778823417519:=0
def tw6252878086273825581:=0
def tw5425565988235752197:=0
def tw5010354932100547165:=0
def tw4801039527111802282:=0
def tw3624387153200950280:=0
def tw193794278739742225:=0
def tw18127141830633905074:=0
def tw17843839365795533554:=0
def tw15860708213811878519:=0
def tw15699315692412800413:=0
def tw1465564398378206461:=0
def tw14318957944991924802:=0
def tw13298203722689827917:=0
def tw12441502783428931068:=0
def tw119775208399524090:=0
def tw11506949944486722818:=0
def tw10095913671755900038:=0
def tw9936902662144560194:=0
def tw9816307224394526710:=0
def tw8562296191053873827:=0
def tw8035931760809384120:=0
def tw7904445426397662059:=0
def tw6350474685870504171:=0
def tw5950158449063615346:=0
def tw4769826392853288355:=0
def tw4566636315000093172:=0
def tw3566807236516140644:=0
def tw3104486758596841148:=0
def tw2904033067149887106:=0
def tw1897875410602398997:=0
def tw18406689318668271181:=0
def tw18207201711260066481:=0
def tw1735571389945239771:=0
def tw16164986634524919498:=0
def tw15829181571673270705:=0
def tw1492062709326496596:=0
def tw14550693921475344484:=0
def tw7175792842613744815:=0
def tw6658185936689682968:=0
def tw6093179522131556990:=0
def tw477595423994022719:=0
def tw3008007984704827758:=0
def tw17029066052626920852:=0
def tw16477329177891185698:=0
def tw16180315334032665911:=0
def tw15414259988211055499:=0
def tw14635225500592789833:=0
def tw12878273097781070547:=0
def tw12585790354688115527:=0
def tw12261729195969336472:=0
def tw9930359092145622687:=0
def tw976709547398631384:=0
def tw9456409991113330330:=0
def tw931510637493425866:=0
def tw9119751986894142981:=0
def tw8938549127931359579:=0
def tw8783073200307453229:=0
def tw8722415481117505015:=0
def tw8388858425438247444:=0
def tw7956301941440062040:=0
def tw7863108119856694670:=0
def tw7693350481814642131:=0
def tw7627118995241731642:=0
def tw7574902415414485744:=0
def tw7258929849126983957:=0
def tw6008010531490865865:=0
def tw5824247625822886979:=0
def tw5533809914848052129:=0
def tw55107133691585252:=0
def tw4992925186480290751:=0
def tw4933930183700603765:=0
def tw4869967250276580588:=0
def tw4672492687276399408:=0
def tw4532786408525356839:=0
def tw450187942056410602:=0
def tw4256779784062091372:=0
def tw4169430970946328830:=0
def tw3941131271490555836:=0
def tw3760063030202703356:=0
def tw3725507860900426652:=0
def tw3711776433476670718:=0
def tw3299272117925849540:=0
def tw3258786278723069861:=0
def tw3220723017206680370:=0
def tw3096949930750721708:=0
def tw2567624805475646970:=0
def tw2313535712752964479:=0
def tw2308842233520690658:=0
def tw1980078614172103820:=0
def tw18334927389422029420:=0
def tw17994301212061070119:=0
def tw17990003072128590093:=0
def tw17928405464846012575:=0
def tw17925923492730016652:=0
def tw17831088686795452451:=0
def tw17690871460500525271:=0
def tw17644514534155135092:=0
def tw17628590533929976792:=0
def tw17423125552162021742:=0
def tw17405974757215459542:=0
def tw17405045028177135956:=0
def tw17258839070269863901:=0
def tw17238752558760652402:=0
def tw17104333970416622323:=0
def tw17002439396945247550:=0
def tw16840622159041910090:=0
def tw16821967185522334815:=0
def tw1682181479755940848:=0
def tw16661212229125270991:=0
def tw16618134895088991800:=0
def tw16575673167688372683:=0
def tw15963830579283735448:=0
def tw15924826414491783191:=0
def tw15565656631415577005:=0
def tw15291515778787918541:=0
def tw15266785391687444539:=0
def tw15170883547044141151:=0
def tw15159215201983465910:=0
def tw14849095896601040367:=0
def tw14836224472968703893:=0
def tw14560837491469231475:=0
def tw14429984225472846677:=0
def tw14324394720252608761:=0
def tw13817142068744991791:=0
def tw13809386149585982481:=0
def tw13769731409856085057:=0
def tw13501672401922333513:=0
def tw13385619842731796546:=0
def tw1304240117979556626:=0
def tw13021086612755893400:=0
def tw12996499756298277263:=0
def tw12340981958623863397:=0
def tw12170451868844119946:=0
def tw11801650391622900179:=0
def tw11788803944947964044:=0
def tw11644868132232139897:=0
def tw11137535781475439334:=0
def tw10809216116178362739:=0
def tw10785498421680218836:=0
def tw10769681086646498438:=0
def tw10698238366409207256:=0
def tw10602856759635532317:=0
def tw10500720501580190231:=0
def tw10150324261921262226:=0
def tw10121643642846045468:=0
def tw9602979466950630956:=0
def tw912290570786946579:=0
def tw8777541643666118068:=0
def tw8572175281459272771:=0
def tw8568187914498332850:=0
def tw8444893750286939596:=0
def tw8125407811402774585:=0
def tw7552210041123771490:=0
def tw684210181549580303:=0
def tw6340304130596135008:=0
def tw6158425238486604569:=0
def tw5096499008420852698:=0
def tw3797301031838899788:=0
def tw3612554134655720397:=0
def tw3465091326942903629:=0
def tw3121732170634265723:=0
def tw2093290091728733057:=0
def tw17795394019121955329:=0
def tw16221219022901355867:=0
def tw16219145617115034907:=0
def tw15186367229040268510:=0
def tw1488474676173749703:=0
def tw14415884991196681418:=0
def tw13746588304753895505:=0
def tw12124443520851957044:=0
def tw11858878876565515630:=0
def tw11551815002882820457:=0
def tw10424792985553544811:=0
def tw10154314827766144001:=0
def tw10017577030591726147:=0
def tw9834661911540460081:=0
def tw9802983821206752271:=0
def tw974001917477778970:=0
def tw9642658117253805749:=0
def tw9590536906216307355:=0
def tw9254883793231693245:=0
def tw9248597171148506525:=0
def tw9085195453500331236:=0
def tw9002392303285804385:=0
def tw8487562230406468105:=0
def tw8385567426930851361:=0
def tw8377945894465552080:=0
def tw8037652997034423971:=0
def tw7897135418779063302:=0
def tw7875707854763748492:=0
def tw7259079589770855615:=0
def tw720755081136891062:=0
def tw6942357351460751399:=0
def tw6878535200312667207:=0
def tw6787905781562076304:=0
def tw6743822951217308217:=0
def tw6429728187070590260:=0
def tw621812022307901172:=0
def tw6169767553621521813:=0
def tw6121026886529796221:=0
def tw6056548384089880543:=0
def tw5994711959094706394:=0
def tw5920227957080817638:=0
def tw590611807225418770:=0
def tw5821001088122574322:=0
def tw5717963241065829162:=0
def tw5430882940802126740:=0
def tw5350998768358884751:=0
def tw5295854211047901153:=0
def tw5051596291613938045:=0
def tw5019332986140449700:=0
def tw4855646995411632120:=0
def tw4355615645706949100:=0
def tw4337561567144917162:=0
def tw4138905410403352593:=0
def tw4090099033456441411:=0
def tw3975676623463710300:=0
def tw397431815971221653:=0
def tw3855077825024126993:=0
def tw3830783680494933951:=0
def tw3436359320994789115:=0
def tw3415376743198261602:=0
def tw3161077796674850459:=0
def tw3017139974649574989:=0
def tw2780415966309772251:=0
def tw2696157109874119690:=0
def tw2520694231678862498:=0
def tw2448602276733661166:=0
def tw2248526150547823735:=0
def tw2217001567337907910:=0
def tw2187499721780371684:=0
def tw2064118905727727203:=0
def tw2045930578084102194:=0
def tw2020109458520273824:=0
def tw1921160878016633958:=0
def tw1901317781093569649:=0
def tw1856151083423349262:=0
def tw18324572440802094995:=0
def tw1818218476948158209:=0
def tw18159918767601648018:=0
def tw18133197322224867361:=0
def tw18066811921283522515:=0
def tw17868647176945168147:=0
def tw17694846207451314135:=0
def tw17652695096001567504:=0
def tw17645572048654386869:=0
def tw17584191335013195612:=0
def tw17438179399263098937:=0
def tw17218974888202052536:=0
def tw17076493798685594974:=0
def tw16924412733494049589:=0
def tw1691102865124860179:=0
def tw16868688195037900307:=0
def tw16801269517542960672:=0
def tw16702496124019576060:=0
def tw16622475990643145580:=0
def tw16507177298177948937:=0
def tw1637453852661378490:=0
def tw16080655234471338842:=0
def tw16029895960380650870:=0
def tw15856698116174445793:=0
def tw15831574140416324556:=0
def tw15641575440650329080:=0
def tw1536147683505774889:=0
def tw15003257448840769609:=0
def tw1488503510874697304:=0
def tw14882510809304047780:=0
def tw14876317631354250296:=0
def tw14870940994311712039:=0
def tw14800109303040266240:=0
def tw14793259975867257014:=0
def tw14585778381282314952:=0
def tw14322595565739780087:=0
def tw14292392306617517729:=0
def tw13841191037290658594:=0
def tw1382559312744143635:=0
def tw13820470126673855253:=0
def tw13788262537284159298:=0
def tw13752025206567590305:=0
def tw13679643304169797691:=0
def tw13611136168108132581:=0
def tw13587954947775276195:=0
def tw13140385074510843379:=0
def tw12650994420537281789:=0
def tw12150866365501820893:=0
def tw11985937269989024962:=0
def tw11971130579796114034:=0
def tw11892039915525360660:=0
def tw11735653163353574974:=0
def tw11687504721054253588:=0
def tw11665305186481523908:=0
def tw11605670760853518920:=0
def tw11469663846147530161:=0
def tw11365700717142005424:=0
def tw11364142691922409913:=0
def tw11362101791794971524:=0
def tw11296645311156999791:=0
def tw11282886037220131173:=0
def tw11166862733661299840:=0
def tw11083616581157620123:=0
def tw11040902395418374828:=0
def tw11029396596865941829:=0
def tw10846541316933110243:=0
def tw1059446635175154315:=0
def tw10263077061500514125:=0
def tw10053539800044614232:=0
def tw10035081181641441020:=0
end PySem.W.Fast
section
open PySem PySem.W PyProof.Rows
set_option maxRecDepth 100000 in
set_option maxHeartbeats 0 in
open_top My.top for PySem.Challenge.rw_stairrooms_k37_closed_of_told
end
set_option linter.all false
set_option maxRecDepth 100000
set_option maxHeartbeats 4000000
open PySem renaming Value→Va,Addr→Vb,Shared→Vc,Program→Vd,World→Ve,wpAny→Vf,model→Vg,Heap→Vh,Around→Vi,mainGlobals→Vj,Expr→Vk,Stmt→Vl,FuncData→Vm,Str→Vn
open Option renaming some→Vo,none→Vp
open PySem renaming wpAny_bind→Fl,wpAny_pure→Fm,wpAny_setState_of→Gj,wpAny_callSpecial?_slot→Gk
open PySem.W renaming Frag→Fn
open PySem.Heap renaming get?_push_of_some→Fo,get?_push_size→Fp,lt_size→Fq
open List renaming length_map→Fs,getElem?_eq_getElem→Ft,getElem?_map→Fu,mem_cons_of_mem→Fv,size_toArray→Fx,mem_cons_self→Fy,getElem?_eq_some_iff→FA,mem_of_getElem?→FC,mem_singleton→FD,mem_cons→FH,map_append→FJ,length_append→FK,mem_append→FQ,getElem?_append_right→FR,getElem?_append_left→FT,getElem_mem→FU,length_cons→FV,take_length→FW,not_mem_nil→FZ,all_eq_true→F0,any_eq_true→F3,mem_append_right→F9,mem_append_left→Ga,replicate→Gb,getElem?_of_mem→Gg,lookup_cons→Gh,length_take→Gi,range→Gm
open Array renaming length_toList→Fw
open PySem.F renaming plainAttrs_list→Fz,slot_list_append→FO,type_list_append→FP
open Option renaming map_eq_some_iff→FE
open Int renaming toNat_natCast→FF,toNat_of_nonneg→FG
open Bool renaming false_ne_true→FI,eq_iff_iff→F4,and_eq_true→F5,or_eq_true→F6,false_eq_true→Ge
open Nat renaming ne_of_lt→FL,le_refl→FN,lt_of_lt_of_le→FX,le_trans→FY,lt_or_ge→Gf
open PySem.Str renaming ofString→F7
open Option.some renaming inj→F8
abbrev Gn:=@decide_eq_false
abbrev Gp:=@decide_eq_true
abbrev Gq:=@if_neg
abbrev Gr:=@if_pos
noncomputable section
namespace L2
open PySem PySem.Spec PyProof.Rows
abbrev Key:=Sum Int Vn
def iU:Key->Va->Bool
 | .inl k,v=>Value.isInt k v
 | .inr x,v=>Value.isStrOf x v
def zP(w:Ve):Key->Int
 | .inl k=>hashInt k
 | .inr x=>hashStr w x
def fW:∀{k:Key} {v:Va},iU k v=true->(∃i t,k=Sum.inl i/\v=Value.int i t)\/(∃x t,k=Sum.inr x/\v=Value.str x t)
 | .inl i,v,h=>by obtain⟨t,e⟩:=Value.isInt_shape (k:=i) (v:=v) h;exact .inl ⟨i,t,rfl,e⟩
 | .inr x,v,h=>by obtain⟨t,e⟩:=Value.isStrOf_shape (x:=x) (v:=v) h;exact .inr ⟨x,t,rfl,e⟩
def EE(i:Int)(t:Tok):iU (.inl i) (.int i t)=true:=by simp[iU,Value.isInt]
def A9(x:Vn)(t:Tok):iU (.inr x) (.str x t)=true:=by simp[iU,Value.isStrOf]
def CQ(a b:Int):decide ((Sum.inl a:Key)=Sum.inl b)=(a == b):=by
 by_cases e:a=b
 ·subst e;simp
 ·have h:¬(Sum.inl a:Key)=Sum.inl b:=λq=>e (Sum.inl.inj q);rw[Gn h];exact(beq_eq_false_iff_ne.mpr e).symm
def DT(a b:Vn):decide ((Sum.inr a:Key)=Sum.inr b)=decide (a=b):=by
 by_cases e:a=b
 ·subst e;simp
 ·have h:¬(Sum.inr a:Key)=Sum.inr b:=λq=>e (Sum.inr.inj q);rw[Gn h,Gn e]
def CL(a:Int)(b:Vn):decide ((Sum.inl a:Key)=Sum.inr b)=false:=Gn (λq=>nomatch q)
def Bo(a:Vn)(b:Int):decide ((Sum.inr a:Key)=Sum.inl b)=false:=Gn (λq=>nomatch q)
def cN(prog:Vd)(w:Ve):PySem.KeyKind prog w Key where
 is:=iU
 hash:=zP w
 inj:=λv a b ha hb=>by
  rcases fW ha with⟨i,t,rfl,rfl⟩|⟨x,t,rfl,rfl⟩
  ·rcases fW hb with⟨j,u,rfl,e⟩|⟨y,u,rfl,e⟩
   ·injection e with c _;rw[c]
   ·exact nomatch e
  ·rcases fW hb with⟨j,u,rfl,e⟩|⟨y,u,rfl,e⟩
   ·exact nomatch e
   ·injection e with c _;rw[c]
 byValue:=λk v h=>by rcases fW h with⟨i,t,rfl,rfl⟩|⟨x,t,rfl,rfl⟩<;>rfl
 pyHash:=λd h=>by
  rcases fW d with⟨i,t,rfl,rfl⟩|⟨x,t,rfl,rfl⟩
  ·exact wpAny_pyHash_int h
  ·exact wpAny_pyHash_str h
 eqBool:=λg d h=>by
  rcases fW g with⟨i,t,rfl,rfl⟩|⟨x,t,rfl,rfl⟩
  ·rcases fW d with⟨j,u,rfl,rfl⟩|⟨y,u,rfl,rfl⟩
   ·rw[CQ]at h;exact wpAny_eqBool_int h
   ·rw[CL]at h;exact SeqAt.EqAt.int_str i t y u _ _ _ _ h
  ·rcases fW d with⟨j,u,rfl,rfl⟩|⟨y,u,rfl,rfl⟩
   ·rw[Bo]at h;exact SeqAt.EqAt.str_int x t j u _ _ _ _ h
   ·rw[DT]at h;exact wpAny_eqBool_str h
 «strs»:=λk x t v h=>by
  rcases fW h with⟨i,u,rfl,e⟩|⟨y,u,rfl,e⟩
  ·exact nomatch e
  ·injection e with c _
   subst c;cases v<;>rfl
def Aw(prog:Vd)(w:Ve)(i:Int)(t:Tok):(cN prog w).is (.inl i) (.int i t)=true:=EE i t
def mw(prog:Vd)(w:Ve)(x:Vn)(t:Tok):(cN prog w).is (.inr x) (.str x t)=true:=A9 x t
inductive V where
 | non|bl (b:Bool)|int (i:Int)|str (x:Vn)|byt (b:Array UInt8)|flt (b:UInt64)|ref (a:Vb)|ty (n:String)
 deriving DecidableEq
def RelV:V->Va->Prop
 | .non,u=>u=Value.none
 | .bl b,u=>u=Value.bool b
 | .int i,u=>∃t,u=Value.int i t
 | .str x,u=>∃t,u=Value.str x t
 | .byt b,u=>∃t,u=Value.bytes b t
 | .flt b,u=>∃t,u=Value.float b t
 | .ref a,u=>u=Value.ref a
 | .ty n,u=>u=Value.type n
abbrev Vals:List V->List Va->Prop:=Paired RelV
theorem Vals.length{xs:List V}{us:List Va}(r:Vals xs us):xs.length=us.length:=Paired.length r
theorem Vals.get:∀{xs:List V} {us:List Va} {i:Nat} {x:V},Vals xs us->xs[i]?=Vo x->∃u,us[i]?=Vo u/\RelV x u
 | _,_,_,_,.nil,e=>by simp at e
 | _,_,0,_,.cons r _,e=>by simp at e;subst e;exact⟨_,rfl,r⟩
 | _,_,i+1,x,.cons _ t,e=>by obtain⟨u,h1,h2⟩:=Vals.get (i:=i) (x:=x) t (by simpa using e);exact⟨u,by simpa using h1,h2⟩
theorem Vals.set{x:V}{u:Va}(r:RelV x u):∀{xs:List V} {us:List Va} (i:Nat),Vals xs us->Vals (xs.set i x) (us.set i u)
 | _,_,_,.nil=>.nil
 | _,_,0,.cons _ t=>.cons r t
 | _,_,i+1,.cons q t=>.cons q (Vals.set r i t)
theorem Vals.append:∀{xs ys:List V} {us ws:List Va},Vals xs us->Vals ys ws->Vals (xs++ys) (us++ws)
 | _,_,_,_,.nil,s=>s
 | _,_,_,_,.cons r t,s=>.cons r (Vals.append t s)
theorem Vals.take:∀{xs:List V} {us:List Va} (n:Nat),Vals xs us->Vals (xs.take n) (us.take n)
 | _,_,0,_=>.nil
 | _,_,_+1,.nil=>.nil
 | _,_,n+1,.cons r t=>.cons r (Vals.take n t)
theorem Vals.drop:∀{xs:List V} {us:List Va} (n:Nat),Vals xs us->Vals (xs.drop n) (us.drop n)
 | _,_,0,r=>r
 | _,_,_+1,.nil=>.nil
 | _,_,n+1,.cons _ t=>Vals.drop n t
def fC:Option V->Option Va->Prop
 | some v,Vo u=>RelV v u
 | none,Vp=>True
 | _,_=>False
def KV{κ:Type}:List (κ×V)->List (κ×Va)->Prop:=Paired λ(p:κ×V) (q:κ×Va)=>p.1=q.1/\RelV p.2 q.2
def kV:Key->V
 | .inl i=>.int i
 | .inr x=>.str x
inductive HO where
 | lst (xs:List V)
 | tup (xs:List V)
 | dK (kvs:List (Key×V))|dT (kvs:List (List Key×V))
 | set (S:Int->Bool) (n:Nat)
 | ins (C dx:Vb) (fs:List (Vn×V))
 | own (x:Vb)
 | xd (fs:List (Vn×V))
 | met (f x:Vb)
 | rng (lo hi:Int)
 | frz (o:Obj) (u:HO)
 | tbl (ps:Array Va)
 | ext (φ:Vh->Prop)
abbrev Hp:=Vb->Option HO
def upd(H:Hp)(a:Vb)(o:HO):Hp:=λb=>if b=a then Vo o else H b
def aI{H:Hp}{a:Vb}{o:HO}:upd H a o a=Vo o:=by unfold upd;rw[Gr rfl]
def aG{H:Hp}{a b:Vb}{o:HO}(h:b≠a):upd H a o b=H b:=by unfold upd;rw[Gq h]
def dM{H:Hp}{a b:Vb}{o u:HO}(h:H a=Vo o)(h':H b=Vo u)(d:o≠u):a≠b:=by intro e;subst e;rw[h]at h';exact d (F8 h')
def cQ{H:Hp}{a b:Vb}{o:HO}(h:H a=Vo o)(h':H b=Vp):a≠b:=by intro e;subst e;rw[h]at h';cases h'
section
variable (P:Vd) (w:Ve)
def bE(H:Hp)(h:Vh)(a:Vb):HO->Prop
 | .lst xs=>xs.length<=sizeLine/\∃(b:List Va) (n:Nat),Vals xs b/\h.get? a=Vo { cls:=.type "list",data:=.seq b.toArray n }
 | .tup xs=>xs.length<=sizeLine/\∃b:List Va,Vals xs b/\IsTup h a b.toArray
 | .dK kvs=>kvs.length<=sizeLine/\(a == sysModules)=false/\∃vs,KV kvs vs/\h.DictOf (cN P w) a vs
 | .dT kvs=>kvs.length<=sizeLine/\(a == sysModules)=false/\∃xs:List (List Key×Vb×Va),
   Paired (λ(p:List Key×V) (q:List Key×Vb×Va)=>p.1=q.1/\H q.2.1=Vo (.tup (p.1.map kV))/\RelV p.2 q.2.2) kvs xs ∧
   ∃o es ep,h.get? a=Vo o/\o.ExactDict/\o.data=.dict es ep/\es.toList=xs.map (entryOfKey (tupleKind (cN P w)))/\(xs.map (·.1)).Nodup
 | .set S n=>h.SetOf (intKind P w) a S n
 | .ins C dx fs=>H dx=Vo (.own a)/\fs.length<=1000/\dx≠a/\h.get? a=Vo (PySem.W.instObj C dx) ∧
   ∃mA,h.Ns1 dx mA/\(∀f,fC (fs.lookup f) (mA f))/\PySem.Within mA (fs.map (·.1))
 | .own _=>∃o,h.get? a=Vo o
 | .xd fs=>∃mA,h.Ns1 a mA/\∀f,fC (fs.lookup f) (mA f)
 | .rng lo hi=>∃t u v,h.get? a=Vo { cls:=.type "range",data:=.fields #[.int lo t,.int hi u,.int 1 v] }
 | .frz o u=>h.get? a=Vo o/\bE H h a u
 | .tbl ps=>h.get? a=Vo { cls:=.none,data:=.fields ps }
 | .met f x=>h.get? a=Vo (PySem.W.methodObj (.ref f) (.ref x))
 | .ext φ=>φ h/\(∃o,h.get? a=Vo o)/\∀h1 h2:Vh,φ h1->(∀o,h1.get? a=Vo o->h2.get? a=Vo o)->φ h2
def bj(H:Hp)(h:Vh):Prop:=∀a o,H a=Vo o->bE P w H h a o
end
section
variable {P:Vd} {w:Ve} {H H':Hp} {h h':Vh} {a:Vb} {o:HO}
theorem bE.lt(x:bE P w H h a o):a<h.objs.size:=by
 cases o with
 | lst xs=>obtain⟨_,_,_,_,e⟩:=x;exact Fq e
 | tup xs=>obtain⟨_,_,_,p⟩:=x;exact p.lt
 | dK kvs=>obtain⟨_,_,_,_,o,_,_,e,_⟩:=x;exact Fq e
 | dT kvs=>obtain⟨_,_,_,_,o,_,_,e,_⟩:=x;exact Fq e
 | set S n=>obtain⟨o,_,_,_,e,_⟩:=x;exact Fq e
 | ins C dx fs=>obtain⟨_,_,_,e,_⟩:=x;exact Fq e
 | own y=>obtain⟨_,e⟩:=x;exact Fq e
 | xd fs=>obtain⟨_,⟨_,_,_,e,_⟩,_⟩:=x;exact Fq e
 | rng lo hi=>obtain⟨_,_,_,e⟩:=x;exact Fq e
 | frz b u=>obtain⟨e,_⟩:=x;exact Fq e
 | tbl ps=>exact Fq (show h.get? a=Vo _ from x)
 | met f y=>exact Fq (show h.get? a=Vo _ from x)
 | ext φ=>obtain⟨_,⟨_,e⟩,_⟩:=x;exact Fq e
theorem Paired.mapP{α β:Type}{F G:α->β->Prop}:∀{l₁:List α} {l₂:List β},Paired F l₁ l₂->(∀a b,F a b->G a b)->Paired G l₁ l₂
 | _,_,.nil,_=>.nil
 | _,_,.cons r t,f=>.cons (f _ _ r) (Paired.mapP t f)
def Paired.imp'{α β:Type}{F G:α->β->Prop}(f:∀a b,F a b->G a b){l₁:List α}{l₂:List β}(r:Paired F l₁ l₂):Paired G l₁ l₂:=Paired.mapP r f
def bE.stay(x:bE P w H h a o)(k:∀b u,(b=a\/H b=Vo (.own a))->h.get? b=Vo u->h'.get? b=Vo u)
  (ho:∀b,H b=Vo (.own a)->H' b=Vo (.own a)) (j:∀b xs,H b=Vo (.tup xs)->H' b=Vo (.tup xs)):bE P w H' h' a o:=by
 induction o with
 | lst xs=>obtain⟨z,i,n,r,e⟩:=x;exact⟨z,i,n,r,k _ _ (.inl rfl) e⟩
 | tup xs=>obtain⟨z,i,r,g,e,c⟩:=x;exact⟨z,i,r,g,k _ _ (.inl rfl) e,c⟩
 | dK kvs=>obtain⟨z,y,vs,r,g,es,ep,e,c⟩:=x;exact⟨z,y,vs,r,g,es,ep,k _ _ (.inl rfl) e,c⟩
 | dT kvs=>
  obtain⟨z,y,xs,r,g,es,ep,e,c⟩:=x;exact⟨z,y,xs,Paired.mapP r λp q z=>⟨z.1,j _ _ z.2.1,z.2.2⟩,g,es,ep,k _ _ (.inl rfl) e,c⟩
 | set S n=>obtain⟨g,es,ep,t,e,c⟩:=x;exact⟨g,es,ep,t,k _ _ (.inl rfl) e,c⟩
 | ins C dx fs=>
  obtain⟨d,z,ne,e,mA,⟨od,es,ep,l,c⟩,r⟩:=x;exact⟨ho _ d,z,ne,k _ _ (.inl rfl) e,mA,⟨od,es,ep,k _ _ (.inr d) l,c⟩,r⟩
 | own y=>obtain⟨g,e⟩:=x;exact⟨g,k _ _ (.inl rfl) e⟩
 | xd fs=>obtain⟨mA,⟨od,es,ep,e,c⟩,r⟩:=x;exact⟨mA,⟨od,es,ep,k _ _ (.inl rfl) e,c⟩,r⟩
 | rng lo hi=>obtain⟨t,u,v,e⟩:=x;exact⟨t,u,v,k _ _ (.inl rfl) e⟩
 | frz g u m=>obtain⟨e,q⟩:=x;exact⟨k _ _ (.inl rfl) e,m q⟩
 | tbl ps=>
  have e:h.get? a=Vo { cls:=.none,data:=.fields ps }:=x;show h'.get? a=Vo { cls:=.none,data:=.fields ps };exact k a _ (.inl rfl) e
 | met f y=>
  have e:h.get? a=Vo (PySem.W.methodObj (.ref f) (.ref y)):=x;show h'.get? a=Vo (PySem.W.methodObj (.ref f) (.ref y));exact k a _ (.inl rfl) e
 | ext φ=>obtain⟨p,⟨o,e⟩,st⟩:=x;exact⟨st _ _ p λo q=>k _ _ (.inl rfl) q,⟨o,k _ _ (.inl rfl) e⟩,st⟩
theorem bj.lt(x:bj P w H h)(e:H a=Vo o):a<h.objs.size:=(x a o e).lt
def bj.fresh(x:bj P w H h)(e:h.objs.size<=a):H a=Vp:=by
 cases q:H a with
 | none=>rfl
 | some u=>exact absurd (FX (x.lt q) e) (Nat.lt_irrefl _)
def bj.kept(x:bj P w H h)(k:∀b u,h.get? b=Vo u->h'.get? b=Vo u):bj P w H h':=λa o e=>
 (x a o e).stay (λb u _ q=>k b u q) (λ_ q=>q) λ_ _ q=>q
def bj.laid(x:bj P w H h)(k:∀b u,h.get? b=Vo u->h'.get? b=Vo u)(g:h.objs.size<=a)(new:bE P w (upd H a o) h' a o):bj P w (upd H a o) h':=λb u e=>by
 have d:=x.fresh g;by_cases hb:b=a
 ·subst hb;rw[aI]at e;cases e;exact new
 ·rw[aG hb]at e;exact(x b u e).stay (λc v _ q=>k c v q) (λc q=>by rw[aG (cQ q d)];exact q) λc xs q=>by rw[aG (cQ q d)];exact q
end
def Rd(H:Hp)(a:Vb)(u:HO):Prop:=H a=Vo u\/∃o,H a=Vo (.frz o u)
def Rd.ok{P:Vd}{w:Ve}{H:Hp}{h:Vh}{a:Vb}{u:HO}(r:Rd H a u)(x:bj P w H h):bE P w H h a u:=by
 rcases r with r|⟨o,r⟩
 ·exact x a u r
 ·obtain⟨_,q⟩:=x a _ r;exact q
def jg:Option HO->Prop
 | some (.lst _)=>True
 | some (.dK _)=>True
 | some (.dT _)=>True
 | some (.set _ _)=>True
 | some (.ins _ _ _)=>True
 | some (.ext _)=>True
 | _=>False
section
variable {P:Vd} {w:Ve} {H:Hp} {h h':Vh} {x e:Vb} {o':HO}
def bj.write(ok:bj P w H h)(d:jg (H x))(j:e=x\/H e=Vo (.own x))(k:∀b u,b≠e->h.get? b=Vo u->h'.get? b=Vo u)(i:∃u,h'.get? e=Vo u)
  (new:bE P w (upd H x o') h' x o'):bj P w (upd H x o') h':=λb u q=>by
 have nown:∀c y,H c=Vo (.own y)->c≠x:=λc y r z=>by subst z;rw[r]at d;exact d
 have ntup:∀c xs,H c=Vo (.tup xs)->c≠x:=λc xs r z=>by subst z;rw[r]at d;exact d
 by_cases hb:b=x
 ·subst hb;rw[aI]at q;cases q;exact new
 ·rw[aG hb]at q;by_cases a:b=e
  ·have l:H b=Vo (.own x):=by
    rcases j with z|z
    ·exact absurd (a.trans z) hb
    ·rw[a];exact z
   rw[q]at l;cases l;obtain⟨v,m⟩:=i;exact⟨v,by rw[a];exact m⟩
  ·refine(ok b u q).stay (λc v g r=>k c v ?_ r) (λc r=>by rw[aG (nown c b r)];exact r) λc xs r=>by rw[aG (ntup c xs r)];exact r
   rcases g with rfl|g
   ·exact a
   ·rintro rfl;rcases j with z|z
    ·exact nown c b g z
    ·rw[g]at z;cases z;exact hb rfl
end
structure Un(fs ex:List Vb)(H H':Hp)(h h':Vh):Prop where
 keep:∀b o,h.get? b=Vo o->H b=Vp->b∉fs->b∉ex->h'.get? b=Vo o
 slot:∀b o,h.get? b=Vo o->H b=Vp->b∈fs->b∉ex->∃sl,h'.get? b=Vo { o with slots:=sl }
 free:∀b o,h.get? b=Vo o->H b=Vp->b∉ex->H' b=Vp
 there:∀b o,h.get? b=Vo o->b∉ex->∃o',h'.get? b=Vo o'
 tups:∀b xs,H b=Vo (.tup xs)->H' b=Vo (.tup xs)
 frzs:∀b o u,H b=Vo (.frz o u)->H' b=Vo (.frz o u)
 tbls:∀b ps,H b=Vo (.tbl ps)->∃more,H' b=Vo (.tbl (ps++more))
section
variable {fs fs' ex ex':List Vb} {H H1 H2:Hp} {h h1 h2 h':Vh} {a x e:Vb} {o:HO}
def Un.any(u:Un fs ex H H1 h h1){b:Vb}{a:Obj}(q:h.get? b=Vo a)(n:H b=Vp)(c:b∉ex):∃sl,h1.get? b=Vo { a with slots:=sl }:=by
 by_cases hb:b∈fs
 ·exact u.slot b a q n hb c
 ·exact⟨a.slots,u.keep b a q n hb c⟩
def Un.kept(k:∀b u,h.get? b=Vo u->h'.get? b=Vo u):Un fs ex H H h h':=
 ⟨λb a q _ _ _=>k b a q,λb a q _ _ _=>⟨a.slots,k b a q⟩,λ_ _ _ n _=>n,λb a q _=>⟨a,k b a q⟩,λ_ _ q=>q,λ_ _ _ q=>q,λ_ ps q=>⟨#[],by rw[q];simp⟩⟩
def Un.refl:Un fs ex H H h h:=Un.kept λ_ _ q=>q
def Un.laid(k:∀b u,h.get? b=Vo u->h'.get? b=Vo u)(d:h.objs.size<=a)(c:H a=Vp):Un fs ex H (upd H a o) h h' where
 keep:=λb u q _ _ _=>k b u q
 slot:=λb u q _ _ _=>⟨u.slots,k b u q⟩
 free:=λb u q n _=>by rw[aG (FL (FX (Fq q) d))];exact n
 there:=λb u q _=>⟨u,k b u q⟩
 tups:=λb xs q=>by rw[aG (cQ q c)];exact q
 frzs:=λb u xs q=>by rw[aG (cQ q c)];exact q
 tbls:=λb ps q=>⟨#[],by rw[aG (cQ q c),q];simp⟩
def Un.write(c:jg (H x))(j:e=x\/H e=Vo (.own x))(k:∀b u,b≠e->h.get? b=Vo u->h'.get? b=Vo u)(d:∃u,h'.get? e=Vo u):Un fs ex H (upd H x o) h h':=by
 have i:∀b,H b=Vp->b≠x:=λb n z=>by subst z;rw[n]at c;exact c
 have hb:∀b,H b=Vp->b≠e:=λb n z=>by
  subst z;rcases j with r|r
  ·exact i b n r
  ·rw[n]at r;cases r
 have g:∀b u,H b=Vo u->¬jg (Vo u)->b≠x:=λb u q nm z=>by subst z;rw[q]at c;exact nm c
 refine⟨λb u q n _ _=>k b u (hb b n) q,λb u q n _ _=>⟨u.slots,k b u (hb b n) q⟩,λb u q n _=>by rw[aG (i b n)];exact n,λb u q _=>?_,
  λb xs q=>by rw[aG (g b _ q λz=>z)];exact q,λb u xs q=>by rw[aG (g b _ q λz=>z)];exact q,λb ps q=>⟨#[],by rw[aG (g b _ q λz=>z),q];simp⟩⟩
 by_cases a:b=e
 ·subst a;exact d
 ·exact⟨u,k b u a q⟩
end
def kf(h:Vh)(H:Hp):List Vb:=(Gm h.objs.size).filter λa=>(H a).isSome
def fM(h:Vh)(H:Hp):Vh:=PySem.W.hideAll h (kf h H)
def yE(h:Vh)(H:Hp):(fM h H).objs.size=h.objs.size:=PySem.W.hideAll_size _ _
def lR{h:Vh}{H:Hp}{b:Vb}{o:Obj}(e:h.get? b=Vo o)(n:H b=Vp):(fM h H).get? b=Vo o:=
 PySem.W.hideAll_get _ e λa=>by have q:(H b).isSome=true:=(List.mem_filter.mp a).2;rw[n]at q;simp at q
def Bf{h:Vh}{H:Hp}{b:Vb}{o:Obj}(e:(fM h H).get? b=Vo o):h.get? b=Vo o/\H b=Vp:=by
 have a:h.get? b=Vo o:=PySem.W.of_hideAll (kf h H) e;refine⟨a,?_⟩;cases q:H b with
 | none=>rfl
 | some x=>
  have c:b∈kf h H:=List.mem_filter.mpr ⟨List.mem_range.mpr (Fq a),by simp[q]⟩;have z:(fM h H).get? b=Vp:=PySem.W.hideAll_none (kf h H) c;rw[z]at e;cases e
structure Mod(K:Fn)(mg:Vn->Option Va)(base:Vh):Prop where
 kin:K.In base
 glob:base.Ns Vj mg
 blt:∃mb,base.Ns builtinsNs mb/\∀x:Vn,x≠"__name__"->mb x=bootBuiltins x
 nolimit:base.NoLimit
structure Cx where
 prog:Vd
 w:Ve
 K:Fn
 mg:Vn->Option Va
 base:Vh
 A:Vi
 N:List Vn
 s₀:Vc
 H₀:Hp
 env:Env
 outer:List Env
 stack:List Env
 ex:List Vb
 fn:Vn->Bool
 calm:Bool
 pn:List (Vb×Obj)
 xe:Va->Vc->Prop
def dm(l:List Env):List Vb:=l.filterMap (·.frame)
abbrev Cx.fs(X:Cx):List Vb:=dm X.outer
def lQ(sc:Scope)(x:Vn):Prop:=sc.names.lookup x=Vo .local\/sc.names.lookup x=Vo .cell\/sc.names.lookup x=Vo .free
def Loc(sc:Scope)(x:Vn):Prop:=sc.names.lookup x=Vo .local\/sc.names.lookup x=Vo .cell
def Look(env:Env)(h:Vh)(m:Vn->Option Va)(x:Vn)(u:Va):Prop:=
 (env.kindOf x=Vo .local/\m x=Vo u)\/((env.kindOf x=Vo .cell\/env.kindOf x=Vo .free)/\∃c,env.cells.lookup x=Vo c/\h.IsCell c (Vo u))
structure Cx.Ok(X:Cx):Prop where
 mod:Mod X.K X.mg X.base
 kind:X.env.scope.kind=.function
 glob:X.env.globals=Vj
 blt:X.env.builtins=builtinsNs
 above:X.s₀.heap.objs.size<=X.env.locals
 inj:∀x y c,X.env.cells.lookup x=Vo c->X.env.cells.lookup y=Vo c->x=y
 has:∀x,(X.env.kindOf x=Vo .cell\/X.env.kindOf x=Vo .free)->∃c,X.env.cells.lookup x=Vo c
 cab:∀x c,X.fn x=true->X.env.cells.lookup x=Vo c->X.s₀.heap.objs.size<=c
 hd:X.calm=true->X.A.handled=Vp
 frames:X.A.frames=Vo X.stack
 stk:X.stack=X.outer\/(X.stack=X.env::X.outer/\X.env.frame=Vo X.env.locals)
 exf:∀b∈X.ex,b≠X.env.locals/\∀x c,X.env.cells.lookup x=Vo c->c≠b
 bs:∀b o,X.base.get? b=Vo o->X.s₀.heap.get? b=Vo o/\X.H₀ b=Vp
 bsz:X.base.objs.size<=X.s₀.heap.objs.size
 noex:∀b o,X.base.get? b=Vo o->b∉X.ex
 exfs:∀b∈X.ex,b∉X.fs
 funs:X.s₀.heap.FunFrames X.base X.outer
 frf:∀b∈X.fs,X.H₀ b=Vp
structure Inv(X:Cx)(pins:List (Vb×Obj))(σ:List (Option V))(H:Hp)(s:Vc):Prop where
 ok:X.Ok
 os:s.os=X.s₀.os
 bare:AllBare s.gens
 base:Un X.fs X.ex X.H₀ H X.s₀.heap s.heap
 loc:∃m,s.heap.Ns X.env.locals m/\∀(i:Nat) (x:Vn) (v:V),X.N[i]?=Vo x->σ[i]?=Vo (Vo v)->lQ X.env.scope x->∃u,RelV v u/\Look X.env s.heap m x u
 cell:∀x c,X.env.cells.lookup x=Vo c->∃v,s.heap.IsCell c v
 free:H X.env.locals=Vp
 freeC:∀x c,X.env.cells.lookup x=Vo c->H c=Vp
 pin:∀p∈X.pn++pins,s.heap.get? p.1=Vo p.2/\H p.1=Vp/\p.1≠X.env.locals/\p.1∉X.fs/\∀v,p.2.data≠.cell v
 hok:bj X.prog X.w H s.heap
 len:σ.length=X.N.length
section
variable {X:Cx} {pins:List (Vb×Obj)} {σ:List (Option V)} {H H':Hp} {s:Vc} {h':Vh}
def Cx.Ok.nofr(ok:X.Ok){b:Vb}{o:Obj}(e:X.base.get? b=Vo o):b∉X.fs:=λhb=>by have:=(ok.funs.mem hb).1;rw[e]at this;cases this
theorem Inv.bs(I:Inv X pins σ H s):∀b o,X.base.get? b=Vo o->s.heap.get? b=Vo o/\H b=Vp:=λb o e=>
 ⟨I.base.keep b o (I.ok.bs b o e).1 (I.ok.bs b o e).2 (I.ok.nofr e) (I.ok.noex b o e),I.base.free b o (I.ok.bs b o e).1 (I.ok.bs b o e).2 (I.ok.noex b o e)⟩
def Inv.bk(I:Inv X pins σ H s):∀b o,X.base.get? b=Vo o->s.heap.get? b=Vo o:=λb o e=>(I.bs b o e).1
theorem Inv.mod(I:Inv X pins σ H s):Mod X.K X.mg X.base:=I.ok.mod
def Inv.kIn(I:Inv X pins σ H s):X.K.In s.heap:=I.ok.mod.kin.keeps I.bk
theorem Inv.lt(I:Inv X pins σ H s):X.env.locals<s.heap.objs.size:=let ⟨_,hn,_⟩:=I.loc;hn.lt
def Inv.sz(I:Inv X pins σ H s):X.s₀.heap.objs.size<=s.heap.objs.size:=FY I.ok.above (Nat.le_of_lt I.lt)
def Inv.nofs(I:Inv X pins σ H s){a:Vb}(h:s.heap.objs.size<=a):a∉X.fs:=λhb=>by obtain⟨_,o,ho,_⟩:=I.ok.funs.mem hb;exact absurd (FX (Fq ho) (FY I.sz h)) (Nat.lt_irrefl _)
def Inv.cne(I:Inv X pins σ H s):∀x c,X.env.cells.lookup x=Vo c->c≠X.env.locals:=λx c e z=>by obtain⟨v,o,ho,hd⟩:=I.cell x c e;obtain⟨m,⟨o',es,ep,a,b,_⟩,_⟩:=I.loc;rw[z,a]at ho;cases ho;rw[b]at hd;cases hd
theorem Inv.funs(I:Inv X pins σ H s):s.heap.FunFrames X.base X.outer:=by
 have all:∀(l:List Env),(∀b∈dm l,b∈X.fs)->X.s₀.heap.FunFrames X.base l->s.heap.FunFrames X.base l:=by
  intro l;induction l with
  | nil=>intro _ _;trivial
  | cons env r d=>
   intro hs g;obtain⟨h,⟨L,o,a,i,ho,hd⟩,j⟩:=g;have c:L∈X.fs:=hs L (by unfold dm;rw[List.filterMap_cons,a];exact Fy);obtain⟨sl,e⟩:=I.base.slot L o ho (I.ok.frf L c) c λz=>I.ok.exfs L z c;exact⟨h,⟨L,_,a,i,e,hd⟩,d (λb hb=>hs b (by unfold dm;rw[List.filterMap_cons,a];exact Fv _ hb)) j⟩
 exact all X.outer (λ_ hb=>hb) I.ok.funs
theorem Inv.stack(I:Inv X pins σ H s):s.heap.FunFrames X.base X.stack:=by
 rcases I.ok.stk with e|⟨e,a⟩
 ·rw[e];exact I.funs
 ·rw[e];obtain⟨m,b,_⟩:=I.loc;refine .cons (by rw[I.ok.kind];decide) a b ?_ I.funs;exact Heap.get?_none_of_le (FY I.ok.bsz I.ok.above)
def Inv.stkSub(I:Inv X pins σ H s):∀b∈dm X.stack,b∈X.env.locals::X.fs:=λb hb=>by
 rcases I.ok.stk with e|⟨e,a⟩
 ·rw[e]at hb;exact Fv _ hb
 ·rw[e]at hb;unfold dm at hb;rw[List.filterMap_cons,a]at hb;exact hb
def Inv.stkFree(I:Inv X pins σ H s):∀b∈dm X.stack,H b=Vp:=λb hb=>by
 rcases FH.mp (I.stkSub b hb)with e|hb
 ·rw[e];exact I.free
 ·obtain⟨_,o,ho,_⟩:=I.ok.funs.mem hb;exact I.base.free b o ho (I.ok.frf b hb) λz=>I.ok.exfs b z hb
def Inv.step{g':Array GenState}{t':Nat}{d':Drawn}{ch:List Vb}(I:Inv X pins σ H s)
  (hch:∀b∈ch,(b∈X.ex\/X.s₀.heap.objs.size<=b)/\b≠X.env.locals/\(∀x c,X.env.cells.lookup x=Vo c->c≠b)/\∀p∈X.pn++pins,p.1≠b)
  (keep:∀b o,b≠X.env.locals->b∉X.fs->b∉ch->s.heap.get? b=Vo o->H b=Vp->h'.get? b=Vo o)
  (slot:∀b o,b≠X.env.locals->b∈X.fs->b∉ch->s.heap.get? b=Vo o->H b=Vp->∃sl,h'.get? b=Vo { o with slots:=sl }) (free:∀b o,b∉ch->s.heap.get? b=Vo o->H b=Vp->H' b=Vp)
  (there:∀b o,b∉ch->s.heap.get? b=Vo o->∃o',h'.get? b=Vo o')
  (tups:∀b xs,H b=Vo (.tup xs)->H' b=Vo (.tup xs)) (frzs:∀b o u,H b=Vo (.frz o u)->H' b=Vo (.frz o u)) (tbls:∀b ps,H b=Vo (.tbl ps)->∃more,H' b=Vo (.tbl (ps++more)))
  (ns:∀m,s.heap.Ns X.env.locals m->h'.Ns X.env.locals m) (hok:bj X.prog X.w H' h') (E:AllBare g') :
  Inv X pins σ H' { s with heap:=h',gens:=g',drawn:=d',toks:=t' }:=by
 have neL:∀b o,X.s₀.heap.get? b=Vo o->b≠X.env.locals:=λb o e=>FL (FX (Fq e) I.ok.above);have neC:∀b o,X.s₀.heap.get? b=Vo o->b∉X.ex->b∉ch:=λb o e a hb=>by
  rcases(hch b hb).1 with z|z
  ·exact a z
  ·exact absurd (FX (Fq e) z) (Nat.lt_irrefl _)
 have cellK:∀x c,X.env.cells.lookup x=Vo c->∀v,s.heap.IsCell c v->h'.IsCell c v:=λx c e v ⟨o,ho,hd⟩=>by
  have g:c∉ch:=λz=>(hch c z).2.2.1 x c e rfl;by_cases A:c∈X.fs
  ·obtain⟨sl,q⟩:=slot c o (I.cne x c e) A g ho (I.freeC x c e);exact⟨_,q,hd⟩
  ·exact⟨o,keep c o (I.cne x c e) A g ho (I.freeC x c e),hd⟩
 refine⟨I.ok,I.os,E,⟨λb o e n hb a=>?_,λb o e n hb a=>?_,λb o e n a=>?_,λb o e a=>?_,λb xs e=>tups b xs (I.base.tups b xs e),λb o xs e=>frzs b o xs (I.base.frzs b o xs e),λb ps e=>?_⟩,?_,λx c e=>?_,?_,λx c e=>?_,λp B=>?_,hok,I.len⟩
 ·exact keep b o (neL b o e) hb (neC b o e a) (I.base.keep b o e n hb a) (I.base.free b o e n a)
 ·obtain⟨sl,h⟩:=I.base.slot b o e n hb a;obtain⟨y,j⟩:=slot b _ (neL b o e) hb (neC b o e a) h (I.base.free b o e n a);exact⟨y,j⟩
 ·obtain⟨o',h⟩:=I.base.there b o e a;exact free b o' (neC b o e a) h (I.base.free b o e n a)
 ·obtain⟨o',h⟩:=I.base.there b o e a;exact there b o' (neC b o e a) h
 ·obtain⟨m1,h⟩:=I.base.tbls b ps e;obtain⟨F,j⟩:=tbls b _ h;exact⟨m1++F,by rw[j,Array.append_assoc]⟩
 ·obtain⟨m,G,J⟩:=I.loc;refine⟨m,ns m G,λi x v h j L=>?_⟩;obtain⟨u,r,l⟩:=J i x v h j L;refine⟨u,r,?_⟩;rcases l with l|⟨k,c,e,z⟩
  ·exact .inl l
  ·exact .inr ⟨k,c,e,cellK x c e _ z⟩
 ·obtain⟨v,z⟩:=I.cell x c e;exact⟨v,cellK x c e v z⟩
 ·obtain⟨m,⟨o,_,_,ho,_⟩,_⟩:=I.loc;exact free _ o (λz=>(hch _ z).2.1 rfl) ho I.free
 ·obtain⟨v,o,ho,hd⟩:=I.cell x c e;exact free c o (λz=>(hch c z).2.2.1 x c e rfl) ho (I.freeC x c e)
 ·obtain⟨e,n,ne,C,d⟩:=I.pin p B;have g:p.1∉ch:=λz=>(hch p.1 z).2.2.2 p B rfl;exact⟨keep p.1 p.2 ne C g e n,free p.1 p.2 g e n,ne,C,d⟩
def Inv.un{t':Nat}(I:Inv X pins σ H s)(u:Un X.fs [] H H' s.heap h')(hok:bj X.prog X.w H' h'):Inv X pins σ H' { s with heap:=h',toks:=t' }:=by
 obtain⟨m,⟨o,es,ep,ho,r⟩,_⟩:=id I.loc;obtain⟨sl,g⟩:=u.any ho I.free (by simp);exact I.step (g':=s.gens) (d':=s.drawn) (ch:=[]) (λ_ z=>nomatch z) (λb o _ hb _ e n=>u.keep b o e n hb (by simp)) (λb o _ hb _ e n=>u.slot b o e n hb (by simp)) (λb o _ e n=>u.free b o e n (by simp)) (λb o _ e=>u.there b o e (by simp)) u.tups u.frzs u.tbls (λj h=>by obtain⟨o',c,d,a,i⟩:=h;rw[ho]at a;cases a;exact⟨_,c,d,g,i⟩) hok I.bare
def Inv.call{g':Array GenState}{t':Nat}{d':Drawn}{ch:List Vb}(I:Inv X pins σ H s)(u:Un (dm X.stack) ch H H' s.heap h')(hok:bj X.prog X.w H' h')(j:AllBare g')
  (hch:∀b∈ch,(b∈X.ex\/X.s₀.heap.objs.size<=b)/\b≠X.env.locals/\(∀x c,X.env.cells.lookup x=Vo c->c≠b)/\∀p∈X.pn++pins,p.1≠b) :
  Inv X pins σ H' { s with heap:=h',gens:=g',drawn:=d',toks:=t' }:=by
 obtain⟨m,⟨o,es,ep,ho,r⟩,_⟩:=id I.loc;obtain⟨sl,g⟩:=u.any ho I.free λz=>(hch _ z).2.1 rfl;exact I.step (ch:=ch) hch (λb o g hb a e n=>u.keep b o e n (λz=>(FH.mp (I.stkSub b z)).elim g hb) a) (λb o _ _ a e n=>u.any e n a) (λb o a e n=>u.free b o e n a) (λb o a e=>u.there b o e a) u.tups u.frzs u.tbls (λq k=>by obtain⟨o',h,i,d,l⟩:=k;rw[ho]at d;cases d;exact⟨_,h,i,g,l⟩) hok j
def Inv.turned{t':Nat}{it:Vb}(I:Inv X pins σ H s)(k:∀b o,b≠it->s.heap.get? b=Vo o->h'.get? b=Vo o)(h:H it=Vp)(g:it≠X.env.locals)
  (h1:it∈X.ex\/X.s₀.heap.objs.size<=it) (h2:∀x c,X.env.cells.lookup x=Vo c->c≠it) (i:∀p∈X.pn++pins,p.1≠it):Inv X pins σ H { s with heap:=h',toks:=t' }:=by
 have d:∀b u,H b=Vo u->b≠it:=λb u e z=>by rw[z,h]at e;cases e
 refine I.step (g':=s.gens) (d':=s.drawn) (ch:=[it]) (λb hb=>?_) (λb o _ _ a e _=>k b o (λz=>a (by simp[z])) e) (λb o _ _ a e _=>⟨o.slots,k b o (λz=>a (by simp[z])) e⟩) (λ_ _ _ _ n=>n)
  (λb o a e=>⟨o,k b o (λz=>a (by simp[z])) e⟩) (λ_ _ e=>e) (λ_ _ _ e=>e) (λb ps e=>⟨#[],by rw[e];simp⟩) (λm j=>?_) (λb u e=>?_) I.bare
 ·have e:b=it:=by simpa using hb
  subst e;exact⟨h1,g,h2,i⟩
 ·obtain⟨o,es,ep,ho,r⟩:=j;exact⟨o,es,ep,k _ o (Ne.symm g) ho,r⟩
 ·refine(I.hok b u e).stay (λc v a q=>k c v ?_ q) (λ_ q=>q) λ_ _ q=>q;rcases a with z|z
  ·rw[z];exact d b u e
  ·exact d c _ z
def Inv.tok(I:Inv X pins σ H s)(t:Nat):Inv X pins σ H { s with toks:=t }:=I.un (h':=s.heap) (t':=t) Un.refl I.hok
theorem Inv.kept{t':Nat}(I:Inv X pins σ H s)(k:∀b u,s.heap.get? b=Vo u->h'.get? b=Vo u):Inv X pins σ H { s with heap:=h',toks:=t' }:=I.un (Un.kept k) (I.hok.kept k)
theorem Inv.laid{a:Vb}{o:HO}{t':Nat}(I:Inv X pins σ H s)(k:∀b u,s.heap.get? b=Vo u->h'.get? b=Vo u)(c:s.heap.objs.size<=a)(new:bE X.prog X.w (upd H a o) h' a o):
  Inv X pins σ (upd H a o) { s with heap:=h',toks:=t' }:=I.un (Un.laid k c (I.hok.fresh c)) (I.hok.laid k c new)
theorem Inv.write{x e:Vb}{o:HO}{t':Nat}(I:Inv X pins σ H s)(c:jg (H x))(d:e=x\/H e=Vo (.own x))(k:∀b u,b≠e->s.heap.get? b=Vo u->h'.get? b=Vo u)(a:∃u,h'.get? e=Vo u)
  (new:bE X.prog X.w (upd H x o) h' x o):Inv X pins σ (upd H x o) { s with heap:=h',toks:=t' }:=I.un (Un.write c d k a) (I.hok.write c d k a new)
def Inv.pins_of{a:List (Vb×Obj)}(I:Inv X pins σ H s)(h:∀p∈a,s.heap.get? p.1=Vo p.2/\H p.1=Vp/\p.1≠X.env.locals/\p.1∉X.fs/\∀v,p.2.data≠.cell v):Inv X a σ H s:=
 ⟨I.ok,I.os,I.bare,I.base,I.loc,I.cell,I.free,I.freeC,λp b=>(FQ.mp b).elim (λz=>I.pin p (Ga _ z)) (h p),I.hok,I.len⟩
def ue{N:List Vn}(c:N.Nodup){i j:Nat}{x:Vn}(a:N[i]?=Vo x)(b:N[j]?=Vo x):i=j:=by obtain⟨h1,d⟩:=FA.mp a;obtain⟨h2,e⟩:=FA.mp b;exact(List.getElem_inj c).mp (d.trans e.symm)
def xT{M:Model}{A:Vi}{E:Va->Vc->Prop}{i:Nat}{x:Vn}{v:V}{u:Va}{Q:Unit->Vc->Prop}(I:Inv X pins σ H s)(hN:X.N.Nodup)(hi:X.N[i]?=Vo x)(B:Loc X.env.scope x)(r:RelV v u)
  (h:∀s',Inv X pins (σ.set i (Vo v)) H s'->(∃a,Heap.SameBut a s.heap s'.heap/\(a=X.env.locals\/X.env.cells.lookup x=Vo a))->Q () s') (hf:X.fn x=true\/X.env.scope.names.lookup x=Vo .local:=by first|exact .inl rfl|exact .inr rfl|assumption):Vf M A (storeName X.env x u) Q E s:=by
 obtain⟨m,W,hl⟩:=id I.loc;have O:(X.env.scope.kind == .class || (X.env.scope.kind == .module && X.env.locals != X.env.globals))=false:=by rw[I.ok.kind];rfl
 have G:i<σ.length:=by rw[I.len];exact(FA.mp hi).1
 have cne:=I.cne;have tracked:∀{a:Vb} {h':Vh},(∃o,s.heap.get? a=Vo o/\H a=Vp)->Heap.SameBut a s.heap h'->bj X.prog X.w H h':=λ{a h'} ha hs b ob e=>by
  obtain⟨_,_,C⟩:=ha;refine(I.hok b ob e).stay (λc U l q=>(hs.2 c ?_).trans q) (λ_ q=>q) λ_ _ q=>q;rintro rfl;rcases l with rfl|l
  ·rw[C]at e;cases e
  ·rw[C]at l;cases l
 rcases B with J|J
 ·refine wpAny_storeName_local J W (λh' Y hs=>?_) O;obtain⟨oL,_,_,Z,_⟩:=id W;refine h _ ⟨I.ok,I.os,I.bare,⟨λb o e n hb B=>?_,λb o e n hb B=>?_,I.base.free,λb o e B=>?_,I.base.tups,I.base.frzs,I.base.tbls⟩,⟨_,Y,λj y v' g F e3=>?_⟩,λy c e=>?_,I.free,I.freeC,λp hp=>?_,tracked ⟨oL,Z,I.free⟩ hs,by simpa using I.len⟩ ⟨_,hs,.inl rfl⟩
  ·exact(hs.2 b (FL (FX (Fq e) I.ok.above))).trans (I.base.keep b o e n hb B)
  ·obtain⟨sl,g⟩:=I.base.slot b o e n hb B;exact⟨sl,(hs.2 b (FL (FX (Fq e) I.ok.above))).trans g⟩
  ·obtain⟨o',g⟩:=I.base.there b o e B;exact⟨o',(hs.2 b (FL (FX (Fq e) I.ok.above))).trans g⟩
  ·by_cases L:j=i
   ·subst L;rw[hi]at g;cases g;rw[List.getElem?_set_self G]at F;cases F;exact⟨u,r,.inl ⟨J,by simp⟩⟩
   ·rw[List.getElem?_set_ne (Ne.symm L)]at F;obtain⟨u',r',q⟩:=hl j y v' g F e3;refine⟨u',r',?_⟩;rcases q with⟨k,e⟩|⟨k,c,e,z⟩
    ·refine .inl ⟨k,?_⟩;have:y≠x:=λe=>L (ue hN g (e ▸ hi));simp[this,e]
    ·exact .inr ⟨k,c,e,z.sameBut hs (cne y c e)⟩
  ·obtain⟨U,z⟩:=I.cell y c e;exact⟨U,z.sameBut hs (cne y c e)⟩
  ·obtain⟨e,n,ne,nf,d⟩:=I.pin p hp;exact⟨(hs.2 p.1 ne).trans e,n,ne,nf,d⟩
 ·have hfn:X.fn x=true:=by
   rcases hf with z|z
   ·exact z
   ·rw[z]at J;cases J
  obtain⟨c,l⟩:=I.ok.has x (.inl J);obtain⟨U,z⟩:=I.cell x c l;refine wpAny_storeName_cell I.ok.kind J l z (λh' P hs=>?_);obtain⟨oc,R,S⟩:=id z;refine h { s with heap:=h' } ⟨I.ok,I.os,I.bare,⟨λb o e n hb B=>?_,λb o e n hb B=>?_,I.base.free,λb o e B=>?_,I.base.tups,I.base.frzs,I.base.tbls⟩,⟨m,W.sameBut hs (Ne.symm (cne x c l)),λj y v' g F e3=>?_⟩,λy c' e=>?_,I.free,I.freeC,λp hp=>?_,tracked ⟨oc,R,I.freeC x c l⟩ hs,by simpa using I.len⟩ ⟨c,hs,.inr l⟩
  ·exact(hs.2 b (FL (FX (Fq e) (I.ok.cab x c hfn l)))).trans (I.base.keep b o e n hb B)
  ·obtain⟨sl,g⟩:=I.base.slot b o e n hb B;exact⟨sl,(hs.2 b (FL (FX (Fq e) (I.ok.cab x c hfn l)))).trans g⟩
  ·obtain⟨o',g⟩:=I.base.there b o e B;exact⟨o',(hs.2 b (FL (FX (Fq e) (I.ok.cab x c hfn l)))).trans g⟩
  ·by_cases L:j=i
   ·subst L;rw[hi]at g;cases g;rw[List.getElem?_set_self G]at F;cases F;exact⟨u,r,.inr ⟨.inl J,c,l,P⟩⟩
   ·rw[List.getElem?_set_ne (Ne.symm L)]at F;obtain⟨u',r',q⟩:=hl j y v' g F e3;refine⟨u',r',?_⟩;rcases q with q|⟨k,c',e,z'⟩
    ·exact .inl q
    ·refine .inr ⟨k,c',e,z'.sameBut hs ?_⟩;rintro rfl;exact L (ue hN g (I.ok.inj _ _ _ e l ▸ hi))
  ·by_cases T:c'=c
   ·subst T;exact⟨_,P⟩
   ·obtain⟨w2,z2⟩:=I.cell y c' e;exact⟨w2,z2.sameBut hs T⟩
  ·obtain⟨e,n,ne,nf,d⟩:=I.pin p hp;refine⟨(hs.2 p.1 ?_).trans e,n,ne,nf,d⟩;intro q;rw[q,R]at e;have q':oc=p.2:=F8 e;exact d U (by rw[←q'];exact S)
def jA{M:Model}{A:Vi}{E:Va->Vc->Prop}{i:Nat}{x:Vn}{v:V}{u:Va}{Q:Unit->Vc->Prop}(I:Inv X pins σ H s)(a:X.N.Nodup)(hi:X.N[i]?=Vo x)(b:Loc X.env.scope x)(r:RelV v u)
  (h:∀s',Inv X pins (σ.set i (Vo v)) H s'->Q () s') (c:X.fn x=true\/X.env.scope.names.lookup x=Vo .local:=by first|exact .inl rfl|exact .inr rfl|assumption):Vf M A (storeName X.env x u) Q E s:=
 xT I a hi b r (λs' d _=>h s' d) c
def Inv.call'{s':Vc}{ch:List Vb}(I:Inv X pins σ H s)(ho:s'.os=s.os)(u:Un (dm X.stack) ch H H' s.heap s'.heap)(hok:bj X.prog X.w H' s'.heap)(a:AllBare s'.gens)
  (hch:∀b∈ch,(b∈X.ex\/X.s₀.heap.objs.size<=b)/\b≠X.env.locals/\(∀x c,X.env.cells.lookup x=Vo c->c≠b)/\∀p∈X.pn++pins,p.1≠b):Inv X pins σ H' s':=by
 obtain⟨h',g',d',t',o'⟩:=s';have e:o'=s.os:=ho;subst e;exact I.call (g':=g') (t':=t') (d':=d') u hok a hch
end
abbrev XK:=Va->Option Vb->Hp->Prop
abbrev St:=List (Option V)
abbrev VK:=V->Hp->Prop
abbrev TE:=St->Hp->VK->Prop
abbrev TT:=St->Hp->(Bool->Hp->Prop)->Prop
abbrev TA:=St->Hp->(List V->Hp->Prop)->Prop
structure Ends where
 nx:St->Hp->Prop
 rt:VK
 bk:St->Hp->Prop:=λ_ _=>False
 ct:St->Hp->Prop:=λ_ _=>False
abbrev TS:=Ends->St->Hp->Prop
def EP(X:Cx)(pins:List (Vb×Obj))(σ:St)(Q:VK)(u:Va)(s':Vc):Prop:=∃v H',Inv X pins σ H' s'/\RelV v u/\Q v H'
def TP(X:Cx)(pins:List (Vb×Obj))(σ:St)(Q:Bool->Hp->Prop)(b:Bool)(s':Vc):Prop:=∃H',Inv X pins σ H' s'/\Q b H'
def AP(X:Cx)(pins:List (Vb×Obj))(σ:St)(Q:List V->Hp->Prop)(us:List Va)(s':Vc):Prop:=∃vs H',Inv X pins σ H' s'/\Vals vs us/\Q vs H'
def SP(X:Cx)(pins:List (Vb×Obj))(D:Ends)(f:Flow)(s':Vc):Prop:=
 match f with
 | .next=>∃a H',Inv X pins a H' s'/\D.nx a H'
 | .brk=>∃a H',Inv X pins a H' s'/\D.bk a H'
 | .cont=>∃a H',Inv X pins a H' s'/\D.ct a H'
 | .ret u=>∃v a H',Inv X pins a H' s'/\RelV v u/\D.rt v H'
def PE(X:Cx)(e:Vk)(t:TE):Prop:=
 ∀(pins:List (Vb×Obj)) (s:Vc) (σ:St) (H:Hp) (Q:VK),Inv X pins σ H s->t σ H Q->Vf (Vg X.prog X.w) X.A (eval e X.env) (EP X pins σ Q) X.xe s
def PT(X:Cx)(e:Vk)(t:TT):Prop:=
 ∀(pins:List (Vb×Obj)) (s:Vc) (σ:St) (H:Hp) (Q:Bool->Hp->Prop),Inv X pins σ H s->t σ H Q->Vf (Vg X.prog X.w) X.A (isTrue e X.env (eval e X.env)) (TP X pins σ Q) X.xe s
def PW(X:Cx)(e:Vk)(t:TT):Prop:=
 ∀(whole:Sem Va) (pins:List (Vb×Obj)) (s:Vc) (σ:St) (H:Hp) (Q:Bool->Hp->Prop),Inv X pins σ H s->t σ H Q->Vf (Vg X.prog X.w) X.A (isTrue e X.env whole) (TP X pins σ Q) X.xe s
def PW.pt{X:Cx}{e:Vk}{t:TT}(h:PW X e t):PT X e t:=h _
def PA(X:Cx)(es:List Vk)(t:TA):Prop:=
 ∀(pos:Pos) (pins:List (Vb×Obj)) (s:Vc) (σ:St) (H:Hp) (Q:List V->Hp->Prop),Inv X pins σ H s->t σ H Q->Vf (Vg X.prog X.w) X.A (spliced (backTo pos (starEach es X.env))) (AP X pins σ Q) X.xe s
def PS(X:Cx)(st:Vl)(t:TS):Prop:=
 ∀(pins:List (Vb×Obj)) (s:Vc) (σ:St) (H:Hp) (D:Ends),Inv X pins σ H s->t D σ H->Vf (Vg X.prog X.w) X.A (exec st X.env) (SP X pins D) X.xe s
def cP(X:Cx)(st:List Vl)(t:TS):Prop:=
 ∀(pins:List (Vb×Obj)) (s:Vc) (σ:St) (H:Hp) (D:Ends),Inv X pins σ H s->t D σ H->Vf (Vg X.prog X.w) X.A (execs st X.env) (SP X pins D) X.xe s
def aD{α:Type}{t:Sem α}{Q b:α->Vc->Prop}{M:Model}{A:Vi}{E:Va->Vc->Prop}{s:Vc}(h:Vf M A t Q E s)(c:∀a s,Q a s->b a s):Vf M A t b E s:=wpAny_mono h c λ_ _ x=>x
section
variable {X:Cx}
def bin{a b:Vk}{ta tb:TE}(ha:PE X a ta)(hb:PE X b tb){pins:List (Vb×Obj)}{s:Vc}{σ:St}{H:Hp}{R:V->V->Hp->Prop}(I:Inv X pins σ H s)(h:ta σ H λx H1=>tb σ H1 λy H2=>R x y H2)
  {α:Type} {Q:α->Vc->Prop} {f:Va->Va->Sem α}
  (e:∀v u s2 x y H2,Inv X pins σ H2 s2->RelV x v->RelV y u->R x y H2->Vf (Vg X.prog X.w) X.A (f v u) Q X.xe s2) :
  Vf (Vg X.prog X.w) X.A (eval a X.env) (λv c=>Vf (Vg X.prog X.w) X.A (eval b X.env) (λu d=>Vf (Vg X.prog X.w) X.A (f v u) Q X.xe d) X.xe c) X.xe s:=by
 refine aD (ha pins s σ H _ I h) λv s1 ⟨x,H1,g,r1,i⟩=>?_;refine aD (hb pins s1 σ H1 _ g i) λu s2 ⟨y,H2,j,k,l⟩=>?_;exact e v u s2 x y H2 j r1 k l
def n5(i:Nat):TE:=λσ H Q=>∃v,σ[i]?=Vo (Vo v)/\Q v H
def tC(v:V):TE:=λ_ H Q=>Q v H
def AD{i:Nat}{x:Vn}{pos:Pos}(j:X.N[i]?=Vo x)(k:lQ X.env.scope x)(hd:(x == ("__debug__":Vn))=false:=by decide)(d:(x == ("__classdict__":Vn))=false:=by decide):PE X (.Name x pos) (n5 i):=by
 intro pins s σ H Q I h;obtain⟨v,e,h⟩:=h;obtain⟨m,n,o⟩:=I.loc;obtain⟨u,r,l⟩:=o i x v j e k;have fin:EP X pins σ Q u s:=⟨v,H,I,r,h⟩;rcases l with⟨b,p⟩|⟨b,c,g,a⟩
 ·exact wpAny_Name (wpAny_loadName_local I.ok.kind b n p fin) hd
 ·rcases b with b|b
  ·exact wpAny_Name (wpAny_loadName_cell I.ok.kind b g a fin) hd
  ·exact wpAny_Name (wpAny_loadName_free I.ok.kind b g a fin d) hd
def af{i j pos}:PE X (.Constant (.int i) j pos) (tC (.int i)):=λ_ _ _ H _ I h=>wpAny_Constant_int ⟨.int i,H,I.tok _,⟨_,rfl⟩,h⟩
def aT{b j pos}:PE X (.Constant (.bool b) j pos) (tC (.bl b)):=λ_ _ _ H _ I h=>Constant_bool ⟨.bl b,H,I,rfl,h⟩
def aR{x j pos}:PE X (.Constant (.str x) j pos) (tC (.str x)):=λ_ _ _ H _ I h=>Calls.Constant_str ⟨.str x,H,I.tok _,⟨_,rfl⟩,h⟩
def Gl(X:Cx)(x:Vn):Prop:=X.env.kindOf x=Vo .globalImplicit
def jE{E:Va->Vc->Prop}{pins:List (Vb×Obj)}{s:Vc}{σ:St}{H:Hp}{x:Vn}{u:Va}{pos:Pos}{Q:Va->Vc->Prop}(I:Inv X pins σ H s)(a:Gl X x)(b:X.mg x=Vo u)(h:Q u s)
  (hd:(x == ("__debug__":Vn))=false:=by decide):Vf (Vg X.prog X.w) X.A (eval (.Name x pos) X.env) Q E s:=
 Calls.Name_function_global I.ok.kind a (Calls.loadGlobal_global (by rw[I.ok.glob];exact I.mod.glob.keeps I.bk) b h) hd
def gg{E:Va->Vc->Prop}{pins:List (Vb×Obj)}{s:Vc}{σ:St}{H:Hp}{x:Vn}{u:Va}{pos:Pos}{Q:Va->Vc->Prop}(I:Inv X pins σ H s)(a:Gl X x)(b:X.mg x=Vp)(c:bootBuiltins x=Vo u)(h:Q u s)
  (d:x≠"__name__":=by decide) (hd:(x == ("__debug__":Vn))=false:=by decide):Vf (Vg X.prog X.w) X.A (eval (.Name x pos) X.env) Q E s:=by
 obtain⟨mb,h1,h2⟩:=I.mod.blt;exact Calls.Name_function_global I.ok.kind a (Calls.loadGlobal_builtin (by rw[I.ok.glob];exact I.mod.glob.keeps I.bk) b (by rw[I.ok.blt];exact h1.keeps I.bk) ((h2 x d).trans c) h) hd
def fU{x:Vn}{v:V}{u:Va}{pos:Pos}(a:Gl X x)(b:X.mg x=Vo u)(r:RelV v u)(hd:(x == ("__debug__":Vn))=false:=by decide):PE X (.Name x pos) (tC v):=
 λ_ _ _ H _ I h=>jE I a b ⟨v,H,I,r,h⟩ hd
def dZ{x:Vn}{v:V}{u:Va}{pos:Pos}(a:Gl X x)(b:X.mg x=Vp)(c:bootBuiltins x=Vo u)(r:RelV v u)(d:x≠"__name__":=by decide)(hd:(x == ("__debug__":Vn))=false:=by decide):PE X (.Name x pos) (tC v):=
 λ_ _ _ H _ I h=>gg I a b c ⟨v,H,I,r,h⟩ d hd
variable {a b:Vk} {ta tb:TE} {pos:Pos}
def PC(X:Cx)(op:CmpOp)(a b:Vk)(t:TE):Prop:=
 ∀(pins:List (Vb×Obj)) (s:Vc) (σ:St) (H:Hp) (Q:VK),Inv X pins σ H s->t σ H Q →
  Vf (Vg X.prog X.w) X.A (eval a X.env) (λv c=>Vf (Vg X.prog X.w) X.A (eval b X.env) (λu d=>Vf (Vg X.prog X.w) X.A (compareOp op v u) (EP X pins σ Q) X.xe d) X.xe c) X.xe s
def tB(t:TE):TT:=λσ H Q=>t σ H λx H1=>∃c,x=.bl c/\Q c H1
def DD{op:CmpOp}{t:TE}(h:PC X op a b t)(h1:behindInMarks op b=false:=by first|exact nobehind _ (by decide) (by decide)|rfl):PE X (.Compare a [op] [b] pos) t:=λpins s σ H Q I c=>wpAny_Compare1 (h pins s σ H Q I c) h1
def DR{op:CmpOp}{t:TE}(h:PC X op a b t)(h1:behindInMarks op b=false:=by first|exact nobehind _ (by decide) (by decide)|rfl):PT X (.Compare a [op] [b] pos) (tB t):=by intro pins s σ H Q I e;refine wpAny_isTrue_Compare1 (aD (h pins s σ H _ I e) λv s1 h1=>aD h1 λu s2 h2=>aD h2 λc j ⟨x,H1,g,r1,i⟩=>?_) h1;obtain⟨d,rfl,q⟩:=i;cases r1;exact wpAny_truthy_bool ⟨H1,g,q⟩
def aX{e:Vk}{t:TE}(h:PE X e t)(a:∀whole,isTrue e X.env whole=(do let v ←whole;standAt e.pos;holding [v] (truthy v)):=by intro _;rfl):PT X e (tB t):=by intro pins s σ H Q I b;refine isTrue_plain (aD (h pins s σ H _ I b) λv s1 ⟨x,H1,c,r1,g⟩=>?_) (a _);obtain⟨d,rfl,q⟩:=g;cases r1;exact wpAny_truthy_bool ⟨H1,c,q⟩
variable {tA tB':TT} {rest:List Vk}
def wN(t u:TT):TT:=λσ H Q=>t σ H λc H1=>if c=true then u σ H1 Q else Q false H1
def uk(t u:TT):TT:=λσ H Q=>t σ H λc H1=>if c=true then Q true H1 else u σ H1 Q
def uE(t:TT):TT:=λσ H Q=>t σ H λc H1=>Q (!c) H1
def fH(ha:PT X a tA):PW X (.BoolOp .And [a] pos) tA:=by
 intro b pins s σ H Q I h;refine isTrue_and (aD (ha pins s σ H Q I h) λc s1 e=>?_);cases c with
 | true=>exact isTrue_and_nil e
 | false=>exact e
def cW(ha:PT X a tA):PW X (.BoolOp .Or [a] pos) tA:=by
 intro b pins s σ H Q I h;refine isTrue_or (aD (ha pins s σ H Q I h) λc s1 e=>?_);cases c with
 | false=>exact isTrue_or_nil e
 | true=>exact e
def eS(ha:PT X a tA)(hb:PW X (.BoolOp .And (b::rest) pos) tB'):PW X (.BoolOp .And (a::b::rest) pos) (wN tA tB'):=by
 intro g pins s σ H Q I h;refine isTrue_and (aD (ha pins s σ H _ I h) λc s1 ⟨H1,d,e⟩=>?_);cases c with
 | true=>exact hb g pins s1 σ H1 Q d e
 | false=>exact⟨H1,d,e⟩
def cC(ha:PT X a tA)(hb:PW X (.BoolOp .Or (b::rest) pos) tB'):PW X (.BoolOp .Or (a::b::rest) pos) (uk tA tB'):=by
 intro g pins s σ H Q I h;refine isTrue_or (aD (ha pins s σ H _ I h) λc s1 ⟨H1,d,e⟩=>?_);cases c with
 | true=>exact⟨H1,d,e⟩
 | false=>exact hb g pins s1 σ H1 Q d e
def bM(ha:PT X a tA):PT X (.UnaryOp .Not a pos) (uE tA):=by intro pins s σ H Q I h;exact isTrue_not (ha pins s σ H (λc H1=>Q (!c) H1) I h)
def xg(ta tb:TE):TE:=λσ H Q=>ta σ H λx H1=>∃c,x=.bl c/\if c=true then tb σ H1 Q else Q (.bl false) H1
def tj(ta tb:TE):TE:=λσ H Q=>ta σ H λx H1=>∃c,x=.bl c/\if c=true then Q (.bl true) H1 else tb σ H1 Q
def uH(ta:TE):TE:=λσ H Q=>ta σ H λx H1=>∃c,x=.bl c/\Q (.bl (!c)) H1
def cS{op}{t:TE}(h:PE X a t):PE X (.BoolOp op [a] pos) t:=λpins s σ H Q I b=>BoolOp_one (h pins s σ H Q I b)
def cK(ha:PE X a ta)(hb:PE X (.BoolOp .And (b::rest) pos) tb):PE X (.BoolOp .And (a::b::rest) pos) (xg ta tb):=by
 intro pins s σ H Q I h;refine BoolOp_and (aD (ha pins s σ H _ I h) λv s1 ⟨x,H1,e,r1,d⟩=>?_);obtain⟨c,rfl,d⟩:=d;cases r1;refine wpAny_truthy_bool ?_;cases c with
 | true=>exact hb pins s1 σ H1 Q e d
 | false=>exact⟨.bl false,H1,e,rfl,d⟩
def uM(ha:PE X a ta)(hb:PE X (.BoolOp .Or (b::rest) pos) tb):PE X (.BoolOp .Or (a::b::rest) pos) (tj ta tb):=by
 intro pins s σ H Q I h;refine BoolOp_or (aD (ha pins s σ H _ I h) λv s1 ⟨x,H1,e,r1,d⟩=>?_);obtain⟨c,rfl,d⟩:=d;cases r1;refine wpAny_truthy_bool ?_;cases c with
 | false=>exact hb pins s1 σ H1 Q e d
 | true=>exact⟨.bl true,H1,e,rfl,d⟩
def jS(ha:PE X a ta):PE X (.UnaryOp .Not a pos) (uH ta):=by intro pins s σ H Q I h;refine UnaryOp_ (aD (ha pins s σ H _ I h) λv s1 ⟨x,H1,d,r1,b⟩=>?_);obtain⟨c,rfl,b⟩:=b;cases r1;exact not_of (wpAny_truthy_bool ⟨.bl (!c),H1,d,rfl,b⟩)
end
def ag(K:Fn)(H:Hp)(a:Vb)(xs:List V):Prop:=
 Rd H a (.lst xs) ∨
  ∃(o:Obj) (b:Array Va) (n:Nat),K.lookup a=Vo o/\o.cls=.type "list"/\o.dict=Vp/\o.data=.seq b n/\b.size<=sizeLine/\Vals xs b.toList
def aj(K:Fn)(H:Hp)(a:Vb)(xs:List V):Prop:=
 Rd H a (.tup xs) ∨
  ∃(o:Obj) (b:Array Va) (n:Nat),K.lookup a=Vo o/\o.cls=.type "tuple"/\o.data=.seq b n/\b.size<=sizeLine/\Vals xs b.toList
def zm:Va->Option V
 | .none=>Vo .non
 | .bool b=>Vo (.bl b)
 | .int i _=>Vo (.int i)
 | .str x _=>Vo (.str x)
 | .bytes b _=>Vo (.byt b)
 | .float b _=>Vo (.flt b)
 | .ref a=>Vo (.ref a)
 | .type n=>Vo (.ty n)
 | _=>Vp
def RelV.abs{x:V}{u:Va}(r:RelV x u):zm u=Vo x:=by
 cases x with
 | non=>cases r;rfl
 | bl _=>cases r;rfl
 | int _=>obtain⟨t,rfl⟩:=r;rfl
 | str _=>obtain⟨t,rfl⟩:=r;rfl
 | byt _=>obtain⟨t,rfl⟩:=r;rfl
 | flt _=>obtain⟨t,rfl⟩:=r;rfl
 | ref _=>cases r;rfl
 | ty _=>cases r;rfl
def RelV.inj{x y:V}{u:Va}(r:RelV x u)(q:RelV y u):x=y:=F8 (r.abs.symm.trans q.abs)
theorem Vals.inj:∀{xs ys:List V} {us:List Va},Vals xs us->Vals ys us->xs=ys
 | _,_,_,.nil,.nil=>rfl
 | _,_,_,.cons r t,.cons a t'=>by rw[r.inj a,Vals.inj t t']
section
variable {X:Cx} {pins:List (Vb×Obj)} {σ:St} {H:Hp} {s:Vc} {a:Vb} {xs ys:List V}
def ag.of{K:Fn}(h:H a=Vo (.lst xs)):ag K H a xs:=.inl (.inl h)
def aj.of{K:Fn}(h:H a=Vo (.tup xs)):aj K H a xs:=.inl (.inl h)
def Inv.list(I:Inv X pins σ H s)(h:ag X.K H a xs):∃b:List Va,Vals xs b/\PlainL s.heap a b.toArray/\xs.length<=sizeLine:=by
 rcases h with h|⟨o,b,n,c,d,hd,hs,g,r⟩
 ·obtain⟨z,b,n,r,e⟩:=h.ok I.hok;exact⟨b,r,⟨_,n,e,rfl,rfl,rfl⟩,z⟩
 ·refine⟨b.toList,r,⟨o,n,I.kIn a o c,d,hd,by simpa using hs⟩,?_⟩;have e:=r.length;simp only[Fw]at e;omega
def Inv.tuple(I:Inv X pins σ H s)(h:aj X.K H a xs):∃b:List Va,Vals xs b/\IsTup s.heap a b.toArray/\xs.length<=sizeLine:=by
 rcases h with h|⟨o,b,n,c,d,hs,g,r⟩
 ·obtain⟨z,b,r,p⟩:=h.ok I.hok;exact⟨b,r,p,z⟩
 ·refine⟨b.toList,r,⟨o,I.kIn a o c,d,n,by simpa using hs⟩,?_⟩;have e:=r.length;simp only[Fw]at e;omega
def Inv.list_inj(I:Inv X pins σ H s)(h:ag X.K H a xs)(h':ag X.K H a ys):xs=ys:=by
 obtain⟨c,r,⟨o,n,e,_,_,d⟩,_⟩:=I.list h;obtain⟨b,j,⟨o',l,g,_,_,i⟩,_⟩:=I.list h';rw[e]at g;cases g;rw[d]at i;injection i with k _;have:c=b:=by simpa using congrArg Array.toList k
 subst this;exact r.inj j
def Inv.tuple_inj(I:Inv X pins σ H s)(h:aj X.K H a xs)(h':aj X.K H a ys):xs=ys:=by
 obtain⟨c,r,⟨o,e,_,n,d⟩,_⟩:=I.tuple h;obtain⟨b,j,⟨o',g,_,l,i⟩,_⟩:=I.tuple h';rw[e]at g;cases g;rw[d]at i;injection i with k _;have:c=b:=by simpa using congrArg Array.toList k
 subst this;exact r.inj j
end
abbrev Cx.wish(X:Cx)(E:Va->Vc->Prop):Cx:={ X with xe:=E }
abbrev Cx.nox(X:Cx):Cx:=X.wish λ_ _=>False
theorem Cx.Ok.wish{X:Cx}(ok:X.Ok)(E:Va->Vc->Prop):(X.wish E).Ok:=
 ⟨ok.mod,ok.kind,ok.glob,ok.blt,ok.above,ok.inj,ok.has,ok.cab,ok.hd,ok.frames,ok.stk,ok.exf,ok.bs,ok.bsz,ok.noex,ok.exfs,ok.funs,ok.frf⟩
def Cx.Ok.unwish{X:Cx}{E:Va->Vc->Prop}(ok:(X.wish E).Ok):X.Ok:=
 ⟨ok.mod,ok.kind,ok.glob,ok.blt,ok.above,ok.inj,ok.has,ok.cab,ok.hd,ok.frames,ok.stk,ok.exf,ok.bs,ok.bsz,ok.noex,ok.exfs,ok.funs,ok.frf⟩
section
variable {X:Cx} {pins:List (Vb×Obj)} {σ:St} {H:Hp} {s:Vc} {E:Va->Vc->Prop}
theorem Inv.wish(I:Inv X pins σ H s)(E:Va->Vc->Prop):Inv (X.wish E) pins σ H s:=⟨I.ok.wish E,I.os,I.bare,I.base,I.loc,I.cell,I.free,I.freeC,I.pin,I.hok,I.len⟩
theorem Inv.unwish(I:Inv (X.wish E) pins σ H s):Inv X pins σ H s:=⟨I.ok.unwish,I.os,I.bare,I.base,I.loc,I.cell,I.free,I.freeC,I.pin,I.hok,I.len⟩
theorem SP.unwish{D:Ends}{f:Flow}{s':Vc}(h:SP (X.wish E) pins D f s'):SP X pins D f s':=by
 cases f with
 | next=>obtain⟨a,H',I,q⟩:=h;exact⟨a,H',I.unwish,q⟩
 | brk=>obtain⟨a,H',I,q⟩:=h;exact⟨a,H',I.unwish,q⟩
 | cont=>obtain⟨a,H',I,q⟩:=h;exact⟨a,H',I.unwish,q⟩
 | ret u=>obtain⟨v,a,H',I,r,q⟩:=h;exact⟨v,a,H',I.unwish,r,q⟩
theorem cP.nox{st:List Vl}{t:TS}(h:cP X.nox st t):cP X st t:=λpins s σ H D I a=>
 wpAny_mono (h pins s σ H D (I.wish _) a) (λ_ _ q=>q.unwish) λ_ _ z=>False.elim z
end
section
variable {X:Cx} {st:Vl} {rest:List Vl} {t u:TS} {e:Vk} {te:TE} {pos:Pos}
def sZ:TS:=λD σ H=>D.nx σ H
def v8(t u:TS):TS:=λD σ H=>t { D with nx:=u D } σ H
def aP:cP X [] sZ:=λ_ _ σ H _ I h=>wpAny_execs_nil ⟨σ,H,I,h⟩
def ai(h1:PS X st t)(h2:cP X rest u):cP X (st::rest) (v8 t u):=by
 intro pins s σ H D I h;refine wpAny_execs_cons (aD (h1 pins s σ H { D with nx:=u D } I h) λf s1 q=>?_);cases f with
 | next=>
  obtain⟨a,H',b,q⟩:=q;exact h2 pins s1 a H' D b q
 | ret v=>exact q
 | brk=>exact q
 | cont=>exact q
def ao(h1:PS X st t):cP X [st] t:=by
 intro pins s σ H D I h;refine wpAny_execs_cons (aD (h1 pins s σ H D I h) λf s1 q=>?_);cases f with
 | next=>exact wpAny_execs_nil q
 | ret v=>exact q
 | brk=>exact q
 | cont=>exact q
def Inv.quiet{pins:List (Vb×Obj)}{σ:St}{H:Hp}{s:Vc}(I:Inv X pins σ H s):interactive X.env=false:=by simp[interactive,I.ok.kind]
def vJ(te:TE):TS:=λD σ H=>te σ H λ_ H1=>D.nx σ H1
def bz(a:PE X e te)(hs:swapsWith e Vp pos.line X.env=pure false:=by rfl):PS X (.Expr e pos) (vJ te):=by intro pins s σ H D I h;exact wpAny_Expr_any (aD (a pins s σ H _ I h) λv s1 ⟨x,H1,b,r1,c⟩=>⟨σ,H1,b,c⟩) I.quiet hs
def vf(te:TE):TS:=λD σ H=>te σ H D.rt
def aB(a:PE X e te):PS X (.Return (Vo e) pos) (vf te):=by intro pins s σ H D I h;exact wpAny_Return_some (aD (a pins s σ H _ I h) λv s1 ⟨x,H1,b,r1,c⟩=>⟨x,σ,H1,b,r1,c⟩)
def tW(c:TT)(t u:TS):TS:=λD σ H=>c σ H λb H1=>if b=true then t D σ H1 else u D σ H1
def aZ{c:Vk}{a b:List Vl}{tc:TT}(i:PT X c tc)(ha:cP X a t)(hb:cP X b u):PS X (.If c a b pos) (tW tc t u):=by
 intro pins s σ H D I h;refine wpAny_If (aD (i pins s σ H _ I h) λd s1 ⟨H1,e,g⟩=>?_);cases d with
 | true=>exact ha pins s1 σ H1 D e g
 | false=>exact hb pins s1 σ H1 D e g
def A4:TS:=λ_ _ _=>False
def i9:PS X st A4:=λ_ _ _ _ _ _ h=>h.elim
end
abbrev TG:=V->St->Hp->(St->Hp->Prop)->Prop
abbrev dR:=List V->St->Hp->(St->Hp->Prop)->Prop
def PG(X:Cx)(target:Vk)(t:TG):Prop:=
 ∀(pins:List (Vb×Obj)) (s:Vc) (σ:St) (H:Hp) (v:V) (u:Va) (Q:St->Hp->Prop),Inv X pins σ H s->RelV v u->t v σ H Q →
  Vf (Vg X.prog X.w) X.A (assign target X.env u) (λ_ s'=>∃a H',Inv X pins a H' s'/\Q a H') X.xe s
def iC(X:Cx)(ts:List Vk)(t:dR):Prop:=
 ∀(pins:List (Vb×Obj)) (s:Vc) (σ:St) (H:Hp) (vs:List V) (us:List Va) (Q:St->Hp->Prop),Inv X pins σ H s->Vals vs us->t vs σ H Q →
  Vf (Vg X.prog X.w) X.A (assignInOrder ((assignEach ts X.env).map (·.2)) us) (λ_ s'=>∃a H',Inv X pins a H' s'/\Q a H') X.xe s
abbrev lx:=V->V->V->Hp->(Hp->Prop)->Prop
def vA(X:Cx)(t:lx):Prop:=
 ∀(pins:List (Vb×Obj)) (s:Vc) (σ:St) (H:Hp) (o i v:V) (a b u:Va) (Q:Hp->Prop),Inv X pins σ H s->RelV o a->RelV i b->RelV v u->t o i v H Q →
  Vf (Vg X.prog X.w) X.A (setItem a b u) (λ_ s'=>∃H',Inv X pins σ H' s'/\Q H') X.xe s
abbrev jL:=V->V->Hp->VK->Prop
def qy(X:Cx)(op:Operator)(t:jL):Prop:=
 ∀(pins:List (Vb×Obj)) (s:Vc) (σ:St) (H:Hp) (x y:V) (v u:Va) (Q:VK),Inv X pins σ H s->RelV x v->RelV y u->t x y H Q →
  Vf (Vg X.prog X.w) X.A (inplaceOp op v u) (EP X pins σ Q) X.xe s
section
variable {X:Cx} {pos:Pos}
def jR(i:Nat):TG:=λv σ H Q=>Q (σ.set i (Vo v)) H
def aA{i:Nat}{x:Vn}(a:X.N.Nodup)(hi:X.N[i]?=Vo x)(b:Loc X.env.scope x)(c:X.fn x=true\/X.env.scope.names.lookup x=Vo .local:=by first|exact .inl rfl|exact .inr rfl|assumption):PG X (.Name x pos) (jR i):=by intro pins s σ H v u Q I r h;exact wpAny_assign_Name (jA I a hi b r (λs' d=>⟨_,H,d,h⟩) c)
def wL:dR:=λvs σ H Q=>vs=[]/\Q σ H
def sC(t:TG)(u:dR):dR:=λvs σ H Q=>∃v r,vs=v::r/\t v σ H λa H'=>u r a H' Q
def dC:iC X [] wL:=by intro pins s σ H vs us Q I r h;obtain⟨e,h⟩:=h;subst e;cases r;exact assignInOrder_nil ⟨σ,H,I,h⟩
def bp{e:Vk}{es:List Vk}{t:TG}{u:dR}(h1:PG X e t)(h2:iC X es u)
  (hs:(assignEach (e::es) X.env).map (·.2)=assign e X.env::(assignEach es X.env).map (·.2):=by rfl):iC X (e::es) (sC t u):=by
 intro pins s σ H vs us Q I r h;obtain⟨v,i,b,h⟩:=h;subst b;cases r with
 | cons r c=>
  rw[hs];refine assignInOrder_cons (aD (h1 pins s σ H _ _ _ I r h) λ_ s1 ⟨a,H1,d,g⟩=>?_);exact h2 pins s1 a H1 _ _ Q d c g
def qx(K:Fn)(n:Nat)(t:dR):TG:=λv σ H Q=>∃a xs,v=.ref a/\aj K H a xs/\xs.length=n/\t xs σ H Q
def yT{es:List Vk}{k:Nat}{t:dR}{n:Nat}(g:X.calm=true)(h:iC X es t)
  (i:(assignEach es X.env).length=n:=by rfl) (hst:(assignEach es X.env).findIdx? (·.1)=Vp:=by rfl):PG X (.Tuple es k pos) (qx X.K n t):=by
 intro pins s σ H v u Q I r c;obtain⟨a,xs,j,l,m,c⟩:=c;subst j;cases r;obtain⟨p,d,q,y⟩:=I.tuple l;refine assign_Tuple_tuple (I.ok.hd g) q (by simp[i,←m,d.length]) hst λh' w=>?_;have x:Inv X pins σ H { s with heap:=h' }:=I.kept (t':=s.toks) λb o e=>w b o (FL (Fq e)) e;exact h pins _ σ H xs _ Q x (by simpa using d) c
def sQ(to a:TE)(t:lx):TG:=λv σ H Q=>to σ H λo H1=>a σ H1 λi H2=>t o i v H2 λb=>Q σ b
def fu{o i:Vk}{to c:TE}{t:lx}(ho:PE X o to)(hi:PE X i c)(hs:vA X t)
  (ha:∀v,assign (.Subscript o i pos) X.env v=(do
   let a ←holding [v] (eval o X.env);let b ←holding [v,a] (eval i X.env)
   standAt pos
   holding [v,a,b] (setItem a b v)
   release [v,a,b] []):=by intro _;rfl):PG X (.Subscript o i pos) (sQ to c t):=by
 intro pins s σ H v u Q I r h;rw[ha];refine Fl (wpAny_holding (aD (ho pins s σ H _ I h) λa s1 ⟨x,H1,d,r1,e⟩=>?_));refine Fl (wpAny_holding (aD (hi pins s1 σ H1 _ d e) λb s2 ⟨y,H2,g,j,k⟩=>?_));refine Fl (wpAny_standAt (Fl (wpAny_holding (aD (hs pins s2 σ H2 x y v a b u _ g r1 j r k) λ_ p ⟨l,m,n⟩=>?_))));exact wpAny_release ⟨σ,l,m,n⟩
def kO(te:TE)(g:TG):TS:=λD σ H=>te σ H λx H1=>g x σ H1 D.nx
def dE{tg e:Vk}{te:TE}{g:TG}(a:PE X e te)(b:PG X tg g)(hs:swapsWithSole [tg] e pos.line X.env=pure false:=by rfl)(c:swappedStores [tg] e X.env=pure Vp:=by rfl)
  (h1:(assignEach [tg] X.env).map (·.2)=[assign tg X.env]:=by rfl):PS X (.Assign [tg] e pos) (kO te g):=by
 intro pins s σ H D I h;refine wpAny_Assign_stores (aD (a pins s σ H _ I h) λv s1 ⟨x,H1,d,r1,i⟩=>?_) hs c;rw[h1];exact aD (b pins s1 σ H1 x v _ d r1 i) λ_ s2 q=>q
def aC{i:Nat}{x:Vn}{e:Vk}{te:TE}{pos':Pos}(a:X.N.Nodup)(hi:X.N[i]?=Vo x)(b:Loc X.env.scope x)(c:PE X e te)(hs:swapsWith e (Vo (.Name x pos')) pos.line X.env=pure false:=by rfl)(d:X.fn x=true\/X.env.scope.names.lookup x=Vo .local:=by first|exact .inl rfl|exact .inr rfl|assumption):
  PS X (.Assign [.Name x pos'] e pos) (kO te (jR i)):=by
 intro pins s σ H D I h;refine wpAny_Assign_Name (aD (c pins s σ H _ I h) λv s1 ⟨y,H1,g,r1,j⟩=>?_) hs;exact jA g a hi b r1 (λs2 k=>⟨_,H1,k,j⟩) d
def wy(i j:Nat)(ta:TA):TS:=λD σ H=>ta σ H λvs H1=>∃v w,vs=[v,w]/\D.nx ((σ.set i (Vo v)).set j (Vo w)) H1
def mG{i j:Nat}{x y:Vn}{a b:Vk}{ta:TA}{g py pt:Pos}{kt k2 pt2}(C:X.calm=true)(r:X.N.Nodup)(hi:X.N[i]?=Vo x)(E:X.N[j]?=Vo y)(k:i≠j)
  (u:X.env.scope.names.lookup x=Vo .local) (z:X.env.scope.names.lookup y=Vo .local) (ha:PA X [a,b] ta)
  (F:swappedStores [.Tuple [.Name x g,.Name y py] kt pt] (.Tuple [a,b] k2 pt2) X.env=pure (Vo [x,y]))
  (hs:swapsWithSole [.Tuple [.Name x g,.Name y py] kt pt] (.Tuple [a,b] k2 pt2) pos.line X.env=pure false:=by rfl) :
  PS X (.Assign [.Tuple [.Name x g,.Name y py] kt pt] (.Tuple [a,b] k2 pt2) pos) (wy i j ta):=by
 intro pins s σ H D I h;rw[exec_Assign_arm];refine Fl (wpAny_standAt ?_);rw[hs];refine Fl (Fm ?_);rw[Gq (by decide)];refine Fl (Tuple_ (aD (ha _ pins s σ H _ I h) λus s1 ⟨vs,H1,G,r1,l⟩=>?_));obtain⟨v,w,J,l⟩:=l;subst J;obtain⟨c,d,rfl,L,m⟩:∃c d,us=[c,d]/\RelV v c/\RelV w d:=by
  cases r1 with
  | cons p q=>
   cases q with
   | cons M O=>
    cases O;exact⟨_,_,rfl,p,M⟩
 refine wpAny_newObj_type ?_ (by show 2<=sizeLine;decide);have P:Inv X pins σ H1 { s1 with heap:=s1.heap.push { cls:=.type "tuple",data:=.seq [c,d].toArray } }:=G.kept (t':=s1.toks) λb o e=>Fo _ e;rw[F];refine Fl (Fm ?_);show Vf (Vg X.prog X.w) X.A (do rule "assign.swapped-stores";let items ←unpackItems (.ref s1.heap.objs.size) 2 none;assignInOrder [λv=>bindName X.env y v,λv=>bindName X.env x v] items.reverse;pure Flow.next) _ _ _;refine Fl (wpAny_rule (Fl (unpackItems_tuple (items:=#[c,d]) (I.ok.hd C) (IsTup.new s1.heap _) λh' n=>?_)));have Q:=P.kept (h':=h') (t':=s1.toks) λb o e=>n b o (FL (Fq e)) e;show Vf _ _ (assignInOrder [λv=>bindName X.env y v,λv=>bindName X.env x v] [d,c] >>= λ_=>pure Flow.next) _ _ _;refine Fl (assignInOrder_cons (wpAny_bindName (jA Q r E (.inl z) m (λs2 R=>?_) (.inr z))));refine assignInOrder_cons (wpAny_bindName (jA R r hi (.inl u) L (λS B=>assignInOrder_nil (Fm ?_)) (.inr u)));rw[List.set_comm _ _ (Ne.symm k)]at B;exact⟨_,H1,B,l⟩
def uP(i:Nat)(te:TE)(a:jL):TS:=λD σ H=>∃x,σ[i]?=Vo (Vo x)/\te σ H λy H1=>a x y H1 λz H2=>D.nx (σ.set i (Vo z)) H2
def mE{i:Nat}{x:Vn}{e:Vk}{te:TE}{op:Operator}{o:jL}{pos':Pos}(p:X.N.Nodup)(hi:X.N[i]?=Vo x)(j:Loc X.env.scope x)(q:PE X e te)(ho:qy X op o)(B:X.fn x=true\/X.env.scope.names.lookup x=Vo .local:=by first|exact .inl rfl|exact .inr rfl|assumption):
  PS X (.AugAssign (.Name x pos') op e pos) (uP i te o):=by
 intro pins s σ H D I h;obtain⟨v,C,h⟩:=h;obtain⟨m,E,F⟩:=I.loc;have n:lQ X.env.scope x:=by rcases j with k|k;exact .inl k;exact .inr (.inl k)
 obtain⟨u,r,l⟩:=F i x v hi C n;refine wpAny_AugAssign_Name ?_;have go:Vf (Vg X.prog X.w) X.A (eval e X.env) (λw d=>Vf (Vg X.prog X.w) X.A (inplaceOp op u w) (λr g=>Vf (Vg X.prog X.w) X.A (storeName X.env x r) (λ_=>SP X pins D .next) X.xe g) X.xe d) X.xe s:=by refine aD (q pins s σ H _ I h) λw s1 ⟨y,H1,G,r1,J⟩=>?_;refine aD (ho pins s1 σ H1 v y u w _ G r r1 J) λz s2 ⟨S,H2,L,M,O⟩=>?_;exact jA L p hi j M (λT P=>⟨_,H2,P,O⟩) B
 rcases l with⟨a,Q⟩|⟨a,c,R,b⟩
 ·exact wpAny_loadName_local I.ok.kind a E Q go
 ·rcases a with a|a
  ·exact wpAny_loadName_cell I.ok.kind a R b go
  ·rcases j with k|k
   ·have:X.env.scope.names.lookup x=Vo .free:=a;rw[k]at this;cases this
   ·have:X.env.scope.names.lookup x=Vo .free:=a;rw[k]at this;cases this
def oU(f:Int->Int->Int):jL:=λx y H Q=>∃i j,x=.int i/\y=.int j/\Q (.int (f i j)) H
def ya:qy X .Add (oU λi j=>i+j):=by intro pins s σ H x y v u Q I r1 a h;obtain⟨i,j,b,c,q⟩:=h;subst b;subst c;obtain⟨t,rfl⟩:=r1;obtain⟨d,rfl⟩:=a;exact iadd_int ⟨.int _,H,I.tok _,⟨_,rfl⟩,q⟩
def yL:qy X .Sub (oU λi j=>i-j):=by intro pins s σ H x y v u Q I r1 a h;obtain⟨i,j,b,c,q⟩:=h;subst b;subst c;obtain⟨t,rfl⟩:=r1;obtain⟨d,rfl⟩:=a;exact isub_int ⟨.int _,H,I.tok _,⟨_,rfl⟩,q⟩
def Cz(c:TT)(tb:TS):TS:=λD σ H=>∃W:Nat->St->Hp->Prop,(∃m,W m σ H)/\∀m σ H,W m σ H →
 c σ H λb H1=>if b=true then ∃N:St->Hp->Prop,(∀a H',N a H'->∃d,d<m/\W d a H')/\tb { D with nx:=N,ct:=N,bk:=D.nx } σ H1 else D.nx σ H1
def Dp{c:Vk}{body:List Vl}{tc:TT}{tb:TS}(q:PassesOwn (Vg X.prog X.w) X.A X.env X.xe)(x:PT X c tc)(hb:cP X body tb):PS X (.While c body [] pos) (Cz tc tb):=by
 intro pins s σ H D I h;obtain⟨W,⟨y,w0⟩,turn⟩:=h;refine wpAny_While (codeAny_whileLoop (λn s'=>∃e H',Inv X pins e H' s'/\W n e H') ?_ y ⟨σ,H,I,w0⟩);rintro n s1 ⟨d,H1,z,w1⟩;refine wpAny_passesOwn q (aD (x pins s1 d H1 _ z (turn n d H1 w1)) λb s2 ⟨H2,r,i⟩=>?_);cases b with
 | true=>
  obtain⟨N,u,i⟩:=i;rw[Gr rfl];refine wpAny_passesOwn q (aD (hb pins s2 d H2 _ r i) λf B j=>?_);cases f with
  | next=>
   obtain⟨a,g,k,l⟩:=j;obtain⟨m,o,p⟩:=u a g l;exact⟨m,o,a,g,k,p⟩
  | cont=>
   obtain⟨a,g,k,l⟩:=j;obtain⟨m,o,p⟩:=u a g l;exact⟨m,o,a,g,k,p⟩
  | brk=>exact j
  | ret v=>exact j
 | false=>
  rw[Gq FI];exact wpAny_execs_nil ⟨d,H2,r,i⟩
end
structure It where
 go:Nat->Hp->Prop
 yld:Nat->Hp->V->Hp->Prop
 stop:Nat->Hp->Prop
def cH(X:Cx)(pins:List (Vb×Obj))(H:Hp)(b:Vb):Prop:=
 H b=Vp/\b≠X.env.locals/\b∉X.fs/\(b∈X.ex\/X.s₀.heap.objs.size<=b)/\(∀x c,X.env.cells.lookup x=Vo c->c≠b)/\∀p∈X.pn++pins,p.1≠b
def Inv.fpOk{X:Cx}{pins:List (Vb×Obj)}{σ:St}{H H':Hp}{s:Vc}{b:Vb}(I:Inv X pins σ H s)(hb:s.heap.objs.size<=b)(a:H' b=Vp):cH X pins H' b:=by
 refine⟨a,Nat.ne_of_gt (FX I.lt hb),I.nofs hb,.inr (FY I.sz hb),λx c e z=>?_,λp d z=>?_⟩
 ·obtain⟨v,q⟩:=I.cell x c e;exact absurd (FX q.lt (by rw[z];exact hb)) (Nat.lt_irrefl _)
 ·exact absurd (FX (Fq (I.pin p d).1) (by rw[z];exact hb)) (Nat.lt_irrefl _)
structure Turn(P:Vd)(w:Ve)(K:Fn)(tg:Vk)(J:It)(fp:List Vb)(it:Vb)(tn:Nat->Vh->Prop):Prop where
 mem:it∈fp
 obj:∀i h,tn i h->∀b∈fp,∃o,h.get? b=Vo o/\∀v,o.data≠.cell v
 keep:∀i h h',tn i h->(∀b∈fp,∀o,h.get? b=Vo o->h'.get? b=Vo o)->tn i h'
 item:∀(X:Cx),X.prog=P->X.w=w->X.K=K->X.calm=true->∀(i:Nat) (pins:List (Vb×Obj)) (s:Vc) (σ:St) (H:Hp) (E:Va->Vc->Prop),Inv X pins σ H s->(∀b∈fp,cH X pins H b)->tn i s.heap->J.go i H →
  Vf (Vg P w) X.A (pyNext (.ref it)) (λr s1=>∃u,r=Vo u ∧
   Vf (Vg P w) X.A (letOwnedTupleGo tg (.ref it) u) (λ_ s2=>∃x H',Inv X pins σ H' s2/\RelV x u/\J.yld i H x H'/\tn (i+1) s2.heap/\∀b∈fp,H' b=Vp) E s1) E s
 done:∀(X:Cx),X.prog=P->X.w=w->X.K=K->X.calm=true->∀(i:Nat) (pins:List (Vb×Obj)) (s:Vc) (σ:St) (H:Hp) (E:Va->Vc->Prop),Inv X pins σ H s->(∀b∈fp,cH X pins H b)->tn i s.heap->J.stop i H →
  Vf (Vg P w) X.A (pyNext (.ref it)) (λr s1=>r=Vp/\Inv X pins σ H s1) E s
 self:∀(A:Vi) (i:Nat) (s:Vc) (Q:Va->Vc->Prop) (E:Va->Vc->Prop),tn i s.heap->Q (.ref it) s->Vf (Vg P w) A (pyIter (.ref it)) Q E s
abbrev TI:=St->Hp->(It->Hp->Prop)->Prop
def nU(X:Cx)(pins:List (Vb×Obj))(σ:St)(tg:Vk)(R:It->Hp->Prop)(a:Va)(s2:Vc):Prop:=
 ∃(it:Vb) (fp:List Vb) (tn:Nat->Vh->Prop) (J:It) (H':Hp),a=.ref it/\Inv X pins σ H' s2/\Turn X.prog X.w X.K tg J fp it tn/\tn 0 s2.heap/\(∀b∈fp,cH X pins H' b)/\R J H'
def PI(X:Cx)(tg iter:Vk)(a:TI):Prop:=
 ∀(pins:List (Vb×Obj)) (s:Vc) (σ:St) (H:Hp) (R:It->Hp->Prop),Inv X pins σ H s->a σ H R →
  Vf (Vg X.prog X.w) X.A (eval iter X.env) (λv s1=>Vf (Vg X.prog X.w) X.A (pyIter v) (nU X pins σ tg R) X.xe s1) X.xe s
def lE {M : Model} {A : Vi} {E : Va → Vc → Prop} {s : Vc} {tg : Vk} {it : Vb} {u : Va} {o : Obj} {n : String} {vs : Array Va} {Q : Unit → Vc → Prop} (ho : s.heap.get? it = Vo o) (b : o.cls = .type n) (hd : o.data = .fields vs)
    (c : ["enumerate", "zip", "dict_itemiterator", "dict_reverseitemiterator", "odict_iterator", "itertools.zip_longest", "itertools.pairwise"].contains n = false) (a : Q () s) : Vf M A (letOwnedTupleGo tg (.ref it) u) Q E s := by
  unfold letOwnedTupleGo;cases tg <;> first
    | exact Fm a
    | (cases u <;> first
        | exact Fm a
        | (refine Fl (wpAny_load ho ?_)
           rw [b, hd];show Vf M A (if (["enumerate", "zip", "dict_itemiterator", "dict_reverseitemiterator", "odict_iterator", "itertools.zip_longest", "itertools.pairwise"].contains n && vs[0]? == Vo (rawInt _)) = true then _ else _) Q E s;rw [Gq (by intro h; rw [c, Bool.false_and] at h; cases h)];exact Fm a))
def cY(K:Fn)(a:Vb):It:=
 ⟨λi H=>∃xs x,ag K H a xs/\xs[i]?=Vo x,λi H x H'=>H'=H/\∀xs,ag K H a xs->xs[i]?=Vo x,λi H=>∃xs,ag K H a xs/\xs.length<=i⟩
def dG(K:Fn)(a:Vb):It:=
 ⟨λi H=>∃xs x,aj K H a xs/\xs[i]?=Vo x,λi H x H'=>H'=H/\∀xs,aj K H a xs->xs[i]?=Vo x,λi H=>∃xs,aj K H a xs/\xs.length<=i⟩
def dJ(lo:Int)(n:Nat):It:=⟨λi _=>i<n,λi H x H'=>H'=H/\x=.int (lo+i),λi _=>n<=i⟩
def Bv{P:Vd}{w:Ve}{K:Fn}{tg:Vk}(a it:Vb):Turn P w K tg (cY K a) [it] it (λi h=>h.IsListIter it a i) where
 mem:=by simp
 obj:=λi h st b hb=>by
  have e:b=it:=by simpa using hb
  subst e;obtain⟨o,e,c,d⟩:=st;exact⟨o,e,λv z=>by rw[d]at z;cases z⟩
 keep:=λi h h' st k=>st.at λo e=>k it (by simp) o e
 item:=by intro X m n q M i pins s σ H E I j st r;subst m n q;obtain⟨xs,x,l,y⟩:=r;obtain⟨A,B,p,N⟩:=I.list l;obtain⟨u,O,Q⟩:=B.get y;obtain⟨C,F,R,G,J,L⟩:=j it (by simp);refine wpAny_pyNext_list_item st p.isList (x:=u) (by simpa using O) λh' g S=>?_;have T:Inv X pins σ H { s with heap:=h' }:=I.turned (t':=s.toks) (λb o hb e=>(S.2 b hb).trans e) C F G J L;obtain⟨o,e,c,d⟩:=id g;exact⟨u,rfl,lE (s:={ s with heap:=h' }) e c d (by decide) ⟨x,H,T,Q,⟨rfl,λys U=>by rw[I.list_inj U l];exact y⟩,g,λb hb=>(j b hb).1⟩⟩
 done:=by intro X m n q M i pins s σ H E I j st r;subst m n q;obtain⟨xs,l,y⟩:=r;obtain⟨A,B,p,N⟩:=I.list l;obtain⟨C,F,R,G,J,L⟩:=j it (by simp);have Y:=B.length;exact wpAny_pyNext_list_end (I.ok.hd M) st p.isList (by simp;omega) λh' W=>⟨rfl,I.turned (t':=s.toks) (λb o hb e=>W b o hb e) C F G J L⟩
 self:=λ_ _ _ _ _ st h=>wpAny_pyIter_listiter st h
def yM{P:Vd}{w:Ve}{K:Fn}{tg:Vk}(a it:Vb):Turn P w K tg (dG K a) [it] it (λi h=>h.IsTupleIter it a i) where
 mem:=by simp
 obj:=λi h st b hb=>by
  have e:b=it:=by simpa using hb
  subst e;obtain⟨o,e,c,d⟩:=st;exact⟨o,e,λv z=>by rw[d]at z;cases z⟩
 keep:=λi h h' st k=>st.at λo e=>k it (by simp) o e
 item:=by intro X n q r M i pins s σ H E I l st y;subst n q r;obtain⟨xs,x,m,A⟩:=y;obtain⟨g,B,p,N⟩:=I.tuple m;obtain⟨u,O,Q⟩:=B.get A;obtain⟨C,F,R,G,J,L⟩:=l it (by simp);refine wpAny_pyNext_tuple_item st (show s.heap.IsTuple a g.toArray from p) (x:=u) (by simpa using O) λh' j S=>?_;have T:Inv X pins σ H { s with heap:=h' }:=I.turned (t':=s.toks) (λb o hb e=>(S.2 b hb).trans e) C F G J L;obtain⟨o,e,c,d⟩:=id j;exact⟨u,rfl,lE (s:={ s with heap:=h' }) e c d (by decide) ⟨x,H,T,Q,⟨rfl,λys U=>by rw[I.tuple_inj U m];exact A⟩,j,λb hb=>(l b hb).1⟩⟩
 done:=by intro X n q r M i pins s σ H E I l st y;subst n q r;obtain⟨xs,m,A⟩:=y;obtain⟨g,B,p,N⟩:=I.tuple m;obtain⟨C,F,R,G,J,L⟩:=l it (by simp);have Y:=B.length;exact wpAny_pyNext_tuple_end (I.ok.hd M) st (show s.heap.IsTuple a g.toArray from p) (by simp;omega) λh' W=>⟨rfl,I.turned (t':=s.toks) (λb o hb e=>W b o hb e) C F G J L⟩
 self:=λ_ _ _ _ _ st h=>wpAny_pyIter_tupleiter st h
def CB{P:Vd}{w:Ve}{K:Fn}{tg:Vk}(it:Vb)(lo:Int)(n:Nat):Turn P w K tg (dJ lo n) [it] it (λi h=>IsRangeIter h it (lo+(i:Nat)*1) ((n:Int)-(i:Nat)) 1) where
 mem:=by simp
 obj:=λi h st b hb=>by
  have e:b=it:=by simpa using hb
  subst e;exact⟨_,st,λv z=>by have y:Data.fields _=Data.cell v:=z;cases y⟩
 keep:=λi h h' st k=>k it (by simp) _ st
 item:=by intro X d g j l i pins s σ H E I c st m;subst d g j;obtain⟨p,q,A,r,u,x⟩:=c it (by simp);have W:=Walks.range (prog:=X.prog) (w:=X.w) (I.ok.hd l) it lo 1 n;refine W.item i s _ _ m st λv h' tk B a C=>?_;obtain⟨t,rfl⟩:=B;have F:Inv X pins σ H { s with heap:=h',toks:=tk }:=I.turned (λb o hb e=>C b o (by simpa using hb) e) p q r u x;refine⟨_,rfl,lE (s:={ s with heap:=h',toks:=tk }) (n:="range_iterator") a rfl rfl (by decide) ⟨.int (lo+i),H,F,⟨t,?_⟩,⟨rfl,rfl⟩,a,λb hb=>(c b hb).1⟩⟩;rw[Int.mul_one]
 done:=by intro X d g j l i pins s σ H E I c st m;subst d g j;obtain⟨p,q,A,r,u,x⟩:=c it (by simp);exact wpAny_pyNext_range_end (I.ok.hd l) st (by have:n<=i:=m;omega) λh' G=>⟨rfl,I.turned (t':=s.toks) (λb o hb e=>G b o hb e) p q r u x⟩
 self:=λ_ _ _ _ _ st h=>wpAny_pyIter_rangeiter st h
section
variable {X:Cx} {tg:Vk}
def oy(K:Fn)(tl:TE):TI:=λσ H R=>tl σ H λx H1=>∃a,x=.ref a/\(∃xs,ag K H1 a xs)/\R (cY K a) H1
def qO(K:Fn)(tl:TE):TI:=λσ H R=>tl σ H λx H1=>∃a,x=.ref a/\(∃xs,aj K H1 a xs)/\R (dG K a) H1
def BA{l:Vk}{tl:TE}(d:PE X l tl):PI X tg l (oy X.K tl):=by
 intro pins s σ H R I h;refine aD (d pins s σ H _ I h) λv s1 ⟨x,H1,c,r1,g⟩=>?_;obtain⟨a,e,⟨xs,i⟩,q⟩:=g;subst e;cases r1;obtain⟨j,k,p,m⟩:=c.list i;refine wpAny_pyIter_list p.isList ?_;refine⟨s1.heap.objs.size,[s1.heap.objs.size],_,_,H1,rfl,c.kept (t':=s1.toks) λb o e=>Fo _ e,Bv a _,⟨_,Fp _ rfl,rfl,rfl⟩,λb hb=>?_,q⟩;have e:b=s1.heap.objs.size:=by simpa using hb
 subst e;exact c.fpOk (FN _) (c.hok.fresh (FN _))
def Dn{l:Vk}{tl:TE}(g:PE X l tl):PI X tg l (qO X.K tl):=by
 intro pins s σ H R I h;refine aD (g pins s σ H _ I h) λv s1 ⟨x,H1,c,r1,i⟩=>?_;obtain⟨a,e,⟨xs,j⟩,q⟩:=i;subst e;cases r1;obtain⟨d,k,p,m⟩:=c.tuple j;refine wpAny_pyIter_tuple (show s1.heap.IsTuple a d.toArray from p) ?_;refine⟨s1.heap.objs.size,[s1.heap.objs.size],_,_,H1,rfl,c.kept (t':=s1.toks) λb o e=>Fo _ e,yM a _,⟨_,Fp _ rfl,rfl,rfl⟩,λb hb=>?_,q⟩;have e:b=s1.heap.objs.size:=by simpa using hb
 subst e;exact c.fpOk (FN _) (c.hok.fresh (FN _))
def xA{pins:List (Vb×Obj)}{σ:St}{H:Hp}{s:Vc}{R:It->Hp->Prop}{E:Va->Vc->Prop}{lo hi:Int}{t u v:Tok}{tk:Nat}(I:Inv X pins σ H s)(h1:-(2 ^ 62)<=lo)(h2:lo<2 ^ 62)(c:-(2 ^ 62)<=hi)(d:hi<2 ^ 62)
  (q:R (dJ lo (hi-lo).toNat) H):Vf (Vg X.prog X.w) X.A (pyIter (.ref s.heap.objs.size)) (nU X pins σ tg R) E { s with heap:=s.heap.push { cls:=.type "range",data:=.fields #[.int lo t,.int hi u,.int 1 v] },toks:=tk }:=by
 refine wpAny_pyIter_range (IsRange.new ..) (small_one h1 h2 c d) ?_;have a:Inv X pins σ H { s with heap:=s.heap.push { cls:=.type "range",data:=.fields #[.int lo t,.int hi u,.int 1 v] },toks:=tk }:=I.kept λb o e=>Fo _ e;refine⟨(s.heap.push { cls:=.type "range",data:=.fields #[.int lo t,.int hi u,.int 1 v] }).objs.size,[(s.heap.push { cls:=.type "range",data:=.fields #[.int lo t,.int hi u,.int 1 v] }).objs.size],_,_,H,rfl,
  a.kept (t':=tk) λb o e=>Fo _ e,CB _ lo (hi-lo).toNat,?_,λb hb=>?_,q⟩
 ·have g:lo+((0:Nat):Int)*1=lo:=by simp
  have h:(((hi-lo).toNat:Nat):Int)-((0:Nat):Int)=Builtin.Range.rangeSize lo hi 1:=by rw[rangeSize_one];split<;>omega
  show IsRangeIter _ _ (lo+((0:Nat):Int)*1) ((((hi-lo).toNat:Nat):Int)-((0:Nat):Int)) 1;rw[g,h];exact Fp _ rfl
 ·have e:b=(s.heap.push { cls:=.type "range",data:=.fields #[.int lo t,.int hi u,.int 1 v] }).objs.size:=by simpa using hb
  subst e;exact a.fpOk (FN _) (a.hok.fresh (FN _))
def yg(ta:TA):TI:=λσ H R=>ta σ H λvs H1=>∃j:Int,vs=[.int j]/\-(2 ^ 62)<=j/\j<2 ^ 62/\R (dJ 0 j.toNat) H1
def tM(ta:TA):TI:=λσ H R=>ta σ H λvs H1=>∃i j:Int,vs=[.int i,.int j]/\(-(2 ^ 62)<=i/\i<2 ^ 62/\-(2 ^ 62)<=j/\j<2 ^ 62)/\R (dJ i (j-i).toNat) H1
def cb{a:Vk}{ta:TA}{p pos:Pos}(c:Gl X "range")(d:X.mg "range" = Vp)(ha:PA X [a] ta)(hs:starEach [a] X.env=[(false,eval a X.env)]:=by rfl):PI X tg (.Call (.Name "range" p) [a] [] pos) (yg ta):=by
 intro pins s σ H R I h;refine Call_ (gg I c d boot_range (PyProof.Rows.callWith_type1 (aD (ha pos pins s σ H _ I h) λus s1 ⟨vs,H1,g,r1,b⟩=>?_) hs rfl));obtain⟨j,e,b,i,q⟩:=b;subst e;cases r1 with
 | cons r k=>
  cases k;obtain⟨t,rfl⟩:=r;exact call_range_1 (xA g (by omega) (by omega) b i (by simpa using q))
def lC{a b:Vk}{ta:TA}{p pos:Pos}(k:Gl X "range")(l:X.mg "range" = Vp)(ha:PA X [a,b] ta)(hs:starEach [a,b] X.env=[(false,eval a X.env),(false,eval b X.env)]:=by rfl)(c:starEach [b] X.env=[(false,eval b X.env)]:=by rfl):
  PI X tg (.Call (.Name "range" p) [a,b] [] pos) (tM ta):=by
 intro pins s σ H R I h;refine Call_ (gg I k l boot_range (PyProof.Rows.callWith_type1 (aD (ha pos pins s σ H _ I h) λus s1 ⟨vs,H1,m,r1,d⟩=>?_) (by rw[hs,c]) (by rw[c];rfl)));obtain⟨i,j,e,⟨d,n,o,u⟩,q⟩:=d;subst e;cases r1 with
 | cons r g=>
  cases g with
  | cons v g=>
   cases g;obtain⟨t,rfl⟩:=r;obtain⟨w,rfl⟩:=v;exact call_range_2 (xA m d n o u q)
def sF(d:TI)(g:TG)(tb:TS):TS:=λD σ H=>d σ H λJ H1=>∃W:Nat->Nat->St->Hp->Prop,(∃m,W 0 m σ H1)/\∀i m σ H,W i m σ H →
 (J.stop i H/\D.nx σ H)\/(J.go i H/\∃N:St->Hp->Prop,(∀a H',N a H'->∃c,c<m/\W (i+1) c a H')/\∀x H',J.yld i H x H'->g x σ H' λb H2=>tb { D with nx:=N,ct:=N,bk:=D.nx } b H2)
def gy(fp:List Vb)(h:Vh):List (Vb×Obj):=fp.filterMap λb=>(h.get? b).map λo=>(b,o)
def mF{fp:List Vb}{h:Vh}{b:Vb}{o:Obj}(hb:b∈fp)(e:h.get? b=Vo o):(b,o)∈gy fp h:=List.mem_filterMap.mpr ⟨b,hb,by rw[e];rfl⟩
def xE{fp:List Vb}{h:Vh}{p:Vb×Obj}(a:p∈gy fp h):p.1∈fp/\h.get? p.1=Vo p.2:=by
 obtain⟨b,hb,e⟩:=List.mem_filterMap.mp a;cases q:h.get? b with
 | none=>rw[q]at e;cases e
 | some o=>
  rw[q]at e;have c:(b,o)=p:=F8 e;subst c;exact⟨hb,q⟩
def Inv.pinned{pins:List (Vb×Obj)}{σ:St}{H:Hp}{s:Vc}{fp:List Vb}(I:Inv X pins σ H s)(c:∀b∈fp,cH X pins H b)(ho:∀b∈fp,∃o,s.heap.get? b=Vo o/\∀v,o.data≠.cell v):Inv X (pins++gy fp s.heap) σ H s:=
 I.pins_of λp g=>(FQ.mp g).elim (λz=>I.pin p (F9 _ z)) λz=>by obtain⟨hb,e⟩:=xE z;obtain⟨h,i,j,_⟩:=c p.1 hb;obtain⟨o,a,d⟩:=ho p.1 hb;rw[e]at a;cases a;exact⟨e,h,i,j,d⟩
def Inv.unpinned{pins pl:List (Vb×Obj)}{σ:St}{H:Hp}{s:Vc}(I:Inv X (pins++pl) σ H s):Inv X pins σ H s:=I.pins_of λp a=>I.pin p (F9 _ (Ga _ a))
def bq{iter:Vk}{body:List Vl}{Q:TI}{g:TG}{tb:TS}{pos:Pos}(y:PassesOwn (Vg X.prog X.w) X.A X.env X.xe)(R:X.calm=true)(hi:PI X tg iter Q)(hg:PG X tg g)(hb:cP X body tb)
  (hs:∀x,foldedSetIterable iter X.env x=pure x:=by intro _;rfl):PS X (.For tg iter body [] pos) (sF Q g tb):=by
 intro pins s σ H D I h;refine wpAny_For (aD (hi pins s σ H _ I h) λv s1 h1=>aD h1 λa0 s2 h2=>?_) hs;obtain⟨it,fp,tn,J,H2,e,I2,T,F,S,W,⟨m0,w0⟩,turn⟩:=h2;subst e;have stat:∀{H':Hp},(∀b∈fp,H' b=Vp)->∀b∈fp,cH X pins H' b:=λhn b hb=>⟨hn b hb,(S b hb).2⟩;refine codeAny_forLoop_any (λn s'=>∃i c H',Inv X pins c H' s'/\tn i s'.heap/\(∀b∈fp,H' b=Vp)/\W i n c H') ?_ m0 ⟨0,σ,H2,I2,F,λb hb=>(S b hb).1,w0⟩;rintro n U ⟨i,j,E,Y,z,B,w3⟩;rcases turn i n j E w3 with⟨stop,qn⟩|⟨go,N,hN,step⟩
 ·refine wpAny_passesOwn y (aD (T.done X rfl rfl rfl R i pins U j E X.xe Y (stat B) z stop) λr s4 ⟨G,I4⟩=>?_);subst G;exact wpAny_execs_nil ⟨j,E,I4,qn⟩
 ·refine wpAny_passesOwn y (aD (T.item X rfl rfl rfl R i pins U j E X.xe Y (stat B) z go) λr s4 ⟨u,G,h4⟩=>?_);subst G;refine wpAny_passesOwn y (aD h4 λ_ Z ⟨x,H5,I5,r5,y5,q,L⟩=>?_);have M:=I5.pinned (stat L) (T.obj _ _ q);refine wpAny_passesOwn y (aD (hg _ Z j H5 x u _ M r5 (step x H5 y5)) λ_ s6 ⟨O,H6,I6,q6⟩=>?_);refine wpAny_passesOwn y (aD (hb _ s6 O H6 _ I6 q6) λf P p=>?_);have again:∀{a:St} {k:Hp},Inv X (pins++gy fp Z.heap) a k P->N a k->∃m,m<n/\∃i c H',Inv X pins c H' P/\tn i P.heap/\(∀b∈fp,H' b=Vp)/\W i m c H':=λ{a k} l C=>by obtain⟨m',hm,w7⟩:=hN a k C;refine⟨m',hm,i+1,a,k,l.unpinned,T.keep _ _ _ q λb hb o e=>(l.pin (b,o) (F9 _ (F9 _ (mF hb e)))).1,λb hb=>?_,w7⟩;obtain⟨o,e,d⟩:=T.obj _ _ q b hb;exact(l.pin (b,o) (F9 _ (F9 _ (mF hb e)))).2.1
  cases f with
  | next=>obtain⟨a,k,l,C⟩:=p;exact again l C
  | cont=>obtain⟨a,k,l,C⟩:=p;exact again l C
  | brk=>obtain⟨a,k,l,p⟩:=p;exact⟨a,k,l.unpinned,p⟩
  | ret v=>obtain⟨x7,a,k,l,r7,p⟩:=p;exact⟨x7,a,k,l.unpinned,r7,p⟩
end
def zN{K:Fn}{a:Vb}{xs:List V}{g:TG}{tb:TS}{D:Ends}{σ:St}{H:Hp}(Pv:Nat->St->Hp->Prop)(h:Pv 0 σ H)(j:∀i σ H,i<=xs.length->Pv i σ H->ag K H a xs)
  (hs:∀i x σ H,xs[i]?=Vo x->Pv i σ H->g x σ H λb H2=>tb { D with nx:=Pv (i+1),ct:=Pv (i+1),bk:=D.nx } b H2) (hd:∀σ H,Pv xs.length σ H->D.nx σ H) :
  ∃W:Nat->Nat->St->Hp->Prop,(∃m,W 0 m σ H)/\∀i m σ H,W i m σ H →
   ((cY K a).stop i H/\D.nx σ H)\/((cY K a).go i H/\∃N:St->Hp->Prop,(∀c H',N c H'->∃d,d<m/\W (i+1) d c H')/\∀x H',(cY K a).yld i H x H'->g x σ H' λb H2=>tb { D with nx:=N,ct:=N,bk:=D.nx } b H2):=by
 refine⟨λi m σ H=>m=xs.length-i/\i<=xs.length/\Pv i σ H,⟨xs.length,by simp,Nat.zero_le _,h⟩,?_⟩;rintro i m σ H ⟨rfl,hi,p⟩;have q:=j i σ H hi p;by_cases hlt:i<xs.length
 ·refine .inr ⟨⟨xs,xs[i],q,by simp[hlt]⟩,Pv (i+1),λc H' k=>⟨xs.length-(i+1),by omega,rfl,hlt,k⟩,λx H' y=>?_⟩;obtain⟨e,y⟩:=y;subst e;exact hs i x σ _ (y xs q) p
 ·have e:i=xs.length:=by omega
  subst e;exact .inl ⟨⟨xs,q,FN _⟩,hd σ H p⟩
def yl{K:Fn}{a:Vb}{xs:List V}{g:TG}{tb:TS}{D:Ends}{σ:St}{H:Hp}(Pv:Nat->St->Hp->Prop)(h:Pv 0 σ H)(j:∀i σ H,i<=xs.length->Pv i σ H->aj K H a xs)
  (hs:∀i x σ H,xs[i]?=Vo x->Pv i σ H->g x σ H λb H2=>tb { D with nx:=Pv (i+1),ct:=Pv (i+1),bk:=D.nx } b H2) (hd:∀σ H,Pv xs.length σ H->D.nx σ H) :
  ∃W:Nat->Nat->St->Hp->Prop,(∃m,W 0 m σ H)/\∀i m σ H,W i m σ H →
   ((dG K a).stop i H/\D.nx σ H)\/((dG K a).go i H/\∃N:St->Hp->Prop,(∀c H',N c H'->∃d,d<m/\W (i+1) d c H')/\∀x H',(dG K a).yld i H x H'->g x σ H' λb H2=>tb { D with nx:=N,ct:=N,bk:=D.nx } b H2):=by
 refine⟨λi m σ H=>m=xs.length-i/\i<=xs.length/\Pv i σ H,⟨xs.length,by simp,Nat.zero_le _,h⟩,?_⟩;rintro i m σ H ⟨rfl,hi,p⟩;have q:=j i σ H hi p;by_cases hlt:i<xs.length
 ·refine .inr ⟨⟨xs,xs[i],q,by simp[hlt]⟩,Pv (i+1),λc H' k=>⟨xs.length-(i+1),by omega,rfl,hlt,k⟩,λx H' y=>?_⟩;obtain⟨e,y⟩:=y;subst e;exact hs i x σ _ (y xs q) p
 ·have e:i=xs.length:=by omega
  subst e;exact .inl ⟨⟨xs,q,FN _⟩,hd σ H p⟩
def Cu{lo:Int}{n:Nat}{g:TG}{tb:TS}{D:Ends}{σ:St}{H:Hp}(Pv:Nat->St->Hp->Prop)(d:Pv 0 σ H)
  (hs:∀i σ H,i<n->Pv i σ H->g (.int (lo+i)) σ H λa H2=>tb { D with nx:=Pv (i+1),ct:=Pv (i+1),bk:=D.nx } a H2) (hd:∀σ H,Pv n σ H->D.nx σ H) :
  ∃W:Nat->Nat->St->Hp->Prop,(∃m,W 0 m σ H)/\∀i m σ H,W i m σ H →
   ((dJ lo n).stop i H/\D.nx σ H)\/((dJ lo n).go i H/\∃N:St->Hp->Prop,(∀b H',N b H'->∃c,c<m/\W (i+1) c b H')/\∀x H',(dJ lo n).yld i H x H'->g x σ H' λa H2=>tb { D with nx:=N,ct:=N,bk:=D.nx } a H2):=by
 refine⟨λi m σ H=>m=n-i/\i<=n/\Pv i σ H,⟨n,by simp,Nat.zero_le _,d⟩,?_⟩;rintro i m σ H ⟨rfl,hi,p⟩;by_cases hlt:i<n
 ·refine .inr ⟨hlt,Pv (i+1),λb H' h=>⟨n-(i+1),by omega,rfl,hlt,h⟩,λx H' y=>?_⟩;obtain⟨e,y⟩:=y;subst e y;exact hs i σ _ hlt p
 ·have e:i=n:=by omega
  subst e;exact .inl ⟨FN _,hd σ H p⟩
abbrev R2:=V->V->Hp->VK->Prop
def bJ(X:Cx)(f:Va->Va->Sem Va)(r:R2):Prop:=
 ∀(pins:List (Vb×Obj)) (s:Vc) (σ:St) (H:Hp) (x y:V) (v u:Va) (Q:VK),Inv X pins σ H s->RelV x v->RelV y u->r x y H Q →
  Vf (Vg X.prog X.w) X.A (f v u) (EP X pins σ Q) X.xe s
def nH(X:Cx)(f:Va->Sem Va)(r:V->Hp->VK->Prop):Prop:=
 ∀(pins:List (Vb×Obj)) (s:Vc) (σ:St) (H:Hp) (x:V) (v:Va) (Q:VK),Inv X pins σ H s->RelV x v->r x H Q →
  Vf (Vg X.prog X.w) X.A (f v) (EP X pins σ Q) X.xe s
def cy(X:Cx)(f:Va)(r:List V->Hp->VK->Prop):Prop:=
 ∀(pins:List (Vb×Obj)) (s:Vc) (σ:St) (H:Hp) (xs:List V) (us:List Va) (Q:VK),Inv X pins σ H s->Vals xs us->r xs H Q →
  Vf (Vg X.prog X.w) X.A (call f us) (EP X pins σ Q) X.xe s
def iV(r:R2)(ta tb:TE):TE:=λσ H Q=>ta σ H λx H1=>tb σ H1 λy H2=>r x y H2 Q
def xt(r:V->Hp->VK->Prop)(ta:TE):TE:=λσ H Q=>ta σ H λx H1=>r x H1 Q
def rI(C:Int->Int->Prop)(g:Int->Int->V):R2:=λx y H Q=>∃i j,x=.int i/\y=.int j/\C i j/\Q (g i j) H
def fR(g:Int->Int->V):R2:=λx y H Q=>∃i j,x=.int i/\y=.int j/\Q (g i j) H
def rU(g:Int->V):V->Hp->VK->Prop:=λx H Q=>∃i,x=.int i/\Q (g i) H
section
variable {X:Cx} {a b c:Vk} {ta tb tc:TE} {pos:Pos}
def oH(ha:PE X a ta)(hb:PE X b tb){pins:List (Vb×Obj)}{s:Vc}{σ:St}{H:Hp}{R:V->V->Hp->Prop}(I:Inv X pins σ H s)
  (h:ta σ H λx H1=>tb σ H1 λy H2=>R x y H2) {Q:Va->Vc->Prop} {f:Va->Va->Sem Va}
  (e:∀v u s2 x y H2,Inv X pins σ H2 s2->RelV x v->RelV y u->R x y H2->Vf (Vg X.prog X.w) X.A (f v u) Q X.xe s2) :
  Vf (Vg X.prog X.w) X.A (eval a X.env) (λv c=>Vf (Vg X.prog X.w) X.A (eval b X.env) (λu d=>Vf (Vg X.prog X.w) X.A (f v u) Q X.xe d) X.xe c) X.xe s:=by
 refine aD (ha pins s σ H _ I h) λv s1 ⟨x,H1,g,r1,i⟩=>?_;refine aD (hb pins s1 σ H1 _ g i) λu s2 ⟨y,H2,j,k,l⟩=>?_;exact e v u s2 x y H2 j r1 k l
def aq{op:Operator}{r:R2}(ho:bJ X (binaryOp op) r)(ha:PE X a ta)(hb:PE X b tb):PE X (.BinOp a op b pos) (iV r ta tb):=by intro pins s σ H Q I h;exact wpAny_BinOp (oH ha hb I h λv u s2 x y H2 c d e q=>ho pins s2 σ H2 x y v u Q c d e q)
def ja{op:UnaryOp}{r:V->Hp->VK->Prop}(ho:nH X (unaryOp op) r)(ha:PE X a ta):PE X (.UnaryOp op a pos) (xt r ta):=by intro pins s σ H Q I h;exact UnaryOp_ (aD (ha pins s σ H _ I h) λv s1 ⟨x,H1,b,r1,c⟩=>ho pins s1 σ H1 x v Q b r1 c)
def kP{f:Va->Va->Sem Va}{C:Int->Int->Prop}{g:Int->Int->Int}
  (rule:∀(i j:Int) (t u:Tok) (s:Vc) (Q:Va->Vc->Prop) (E:Va->Vc->Prop),C i j->Q (.int (g i j) s.toks) { s with toks:=s.toks+1 }->Vf (Vg X.prog X.w) X.A (f (.int i t) (.int j u)) Q E s) :
  bJ X f (rI C λi j=>.int (g i j)):=by
 intro pins s σ H x y v u Q I a b h;obtain⟨i,j,rfl,rfl,c,q⟩:=h;obtain⟨t,rfl⟩:=a;obtain⟨d,rfl⟩:=b;exact rule i j t d s _ _ c ⟨.int (g i j),H,I.tok _,⟨_,rfl⟩,q⟩
def tH{f:Va->Va->Sem Va}{g:Int->Int->Int}
  (rule:∀(i j:Int) (t u:Tok) (s:Vc) (Q:Va->Vc->Prop) (E:Va->Vc->Prop),Q (.int (g i j) s.toks) { s with toks:=s.toks+1 }->Vf (Vg X.prog X.w) X.A (f (.int i t) (.int j u)) Q E s) :
  bJ X f (fR λi j=>.int (g i j)):=by
 intro pins s σ H x y v u Q I a b h;obtain⟨i,j,rfl,rfl,q⟩:=h;obtain⟨t,rfl⟩:=a;obtain⟨c,rfl⟩:=b;exact rule i j t c s _ _ ⟨.int (g i j),H,I.tok _,⟨_,rfl⟩,q⟩
def lJ{f:Va->Va->Sem Va}{g:Int->Int->Bool}
  (rule:∀(i j:Int) (t u:Tok) (s:Vc) (Q:Va->Vc->Prop) (E:Va->Vc->Prop),Q (.bool (g i j)) s->Vf (Vg X.prog X.w) X.A (f (.int i t) (.int j u)) Q E s) :
  bJ X f (fR λi j=>.bl (g i j)):=by
 intro pins s σ H x y v u Q I a b h;obtain⟨i,j,rfl,rfl,q⟩:=h;obtain⟨t,rfl⟩:=a;obtain⟨c,rfl⟩:=b;exact rule i j t c s _ _ ⟨.bl (g i j),H,I,rfl,q⟩
def vR(i j:Int):Prop:=0<=j/\j<=1000000/\i.natAbs<2 ^ 64
def iF(i j:Int):Prop:=(-(2 ^ 64)<i/\i<2 ^ 64)\/(-(2 ^ 64)<j/\j<2 ^ 64)
def iF.ok{i j:Int}(h:iF i j):IntMulOk i j:=by
 rcases h with⟨h1,h2⟩|⟨h1,h2⟩
 ·exact .of_left (intBits_le_64 h1 h2)
 ·exact .of_right (intBits_le_64 h1 h2)
def aN:bJ X (binaryOp .Add) (fR λi j=>.int (i+j)):=tH λ_ _ _ _ _ _ _ q=>add_int q
def cG:bJ X (binaryOp .Sub) (fR λi j=>.int (i-j)):=tH λ_ _ _ _ _ _ _ q=>sub_int q
def eE:bJ X (binaryOp .Mult) (rI iF λi j=>.int (i*j)):=kP λ_ _ _ _ _ _ _ a q=>mul_int q a.ok
def bW:bJ X (binaryOp .Mod) (rI (λ_ j=>0<j) λi j=>.int (i % j)):=kP λi j _ _ _ _ _ a q=>by have h1:(0:Int)<j:=a;exact mod_int' (by omega) (by rw[Int.fmod_eq_emod_of_nonneg i (by omega)];exact q)
def jv:bJ X (binaryOp .Pow) (rI vR λi j=>.int (i ^ j.toNat)):=kP λ_ _ _ _ _ _ _ a q=>pow_int_small a.1 a.2.1 a.2.2 q
def Eo{f:Va->Sem Va}{g:Int->Int}
  (rule:∀(i:Int) (t:Tok) (s:Vc) (Q:Va->Vc->Prop) (E:Va->Vc->Prop),Q (.int (g i) s.toks) { s with toks:=s.toks+1 }->Vf (Vg X.prog X.w) X.A (f (.int i t)) Q E s) :
  nH X f (rU λi=>.int (g i)):=by
 intro pins s σ H x v Q I a h;obtain⟨i,rfl,q⟩:=h;obtain⟨t,rfl⟩:=a;exact rule i t s _ _ ⟨.int (g i),H,I.tok _,⟨_,rfl⟩,q⟩
def iI:nH X (unaryOp .USub) (rU λi=>.int (-i)):=Eo λ_ _ _ _ _ q=>neg_int q
end
def wz:V->V->Bool
 | .non,.non=>true|.non,.int _=>true|.int _,.non=>true|.non,.bl _=>true|.bl _,.non=>true|.non,.str _=>true|.str _,.non=>true
 | .int _,.int _=>true|.bl _,.bl _=>true|.str _,.str _=>true|.byt _,.byt _=>true
 | .int _,.str _=>true|.str _,.int _=>true|.bl _,.str _=>true|.str _,.bl _=>true
 | _,_=>false
def j4:R2:=λx y H Q=>wz x y=true/\Q (.bl (decide (x=y))) H
def kM:R2:=λx y H Q=>wz x y=true/\Q (.bl (!decide (x=y))) H
def xR{i j:Int}:decide (V.int i=V.int j)=(i == j):=by rw[F4];simp
def kD{i j:Bool}:decide (V.bl i=V.bl j)=(i == j):=by rw[F4];simp
def jo{i j:Vn}:decide (V.str i=V.str j)=(i == j):=by rw[F4];simp
def wQ{i j:Array UInt8}:decide (V.byt i=V.byt j)=(i.toList == j.toList):=by rw[F4];cases i;cases j;simp
section
variable {X:Cx} {a b c:Vk} {ta tb tc:TE} {pos:Pos}
def bG{pins:List (Vb×Obj)}{σ:St}{H:Hp}{s:Vc}{Q:VK}{k a:Bool}(I:Inv X pins σ H s)(q:Q (.bl k) H)(e:k=a):EP X pins σ Q (.bool a) s:=by subst e;exact⟨.bl k,H,I,rfl,q⟩
def bH:bJ X (compareOp .Eq) j4:=by
 intro pins s σ H x y v u Q I c a h;obtain⟨hs,q⟩:=h;cases x with
 | non=>
  cases c;cases y with
  | non=>cases a;exact PySem.EqNone.eq_none_none (bG I q (by simp))
  | bl j=>cases a;exact PySem.EqNone.eq_none_bool (bG I q (by simp))
  | int j=>obtain⟨b,rfl⟩:=a;exact PySem.EqNone.eq_none_int (bG I q (by simp))
  | str j=>obtain⟨b,rfl⟩:=a;exact PySem.EqNone.eq_none_str (bG I q (by simp))
  | _=>exact absurd (show false=true from hs) FI
 | bl i=>
  cases c;cases y with
  | non=>cases a;exact PySem.EqNone.eq_bool_none (bG I q (by simp))
  | bl j=>cases a;exact eq_bool (bG I q kD)
  | str j=>obtain⟨b,rfl⟩:=a;exact PySem.EqMixed.eq_bool_str (bG I q (by simp))
  | _=>exact absurd (show false=true from hs) FI
 | int i=>
  obtain⟨t,rfl⟩:=c;cases y with
  | non=>cases a;exact PySem.EqNone.eq_int_none (bG I q (by simp))
  | int j=>obtain⟨b,rfl⟩:=a;exact eq_int (bG I q xR)
  | str j=>obtain⟨b,rfl⟩:=a;exact PySem.EqMixed.eq_int_str (bG I q (by simp))
  | _=>exact absurd (show false=true from hs) FI
 | str i=>
  obtain⟨t,rfl⟩:=c;cases y with
  | non=>cases a;exact PySem.EqNone.eq_str_none (bG I q (by simp))
  | bl j=>cases a;exact PySem.EqMixed.eq_str_bool (bG I q (by simp))
  | int j=>obtain⟨b,rfl⟩:=a;exact PySem.EqMixed.eq_str_int (bG I q (by simp))
  | str j=>obtain⟨b,rfl⟩:=a;exact eq_str (bG I q jo)
  | _=>exact absurd (show false=true from hs) FI
 | byt i=>
  obtain⟨t,rfl⟩:=c;cases y with
  | byt j=>obtain⟨b,rfl⟩:=a;exact PySem.W.eq_bytes (bG I q wQ)
  | _=>exact absurd (show false=true from hs) FI
 | _=>cases y<;>exact absurd (show false=true from hs) FI
def eO:bJ X (compareOp .NotEq) kM:=by
 intro pins s σ H x y v u Q I c a h;obtain⟨hs,q⟩:=h;cases x with
 | non=>
  cases c;cases y with
  | non=>cases a;exact PySem.EqNone.ne_none_none (bG I q (by simp))
  | bl j=>cases a;exact PySem.EqNone.ne_none_bool (bG I q (by simp))
  | int j=>obtain⟨b,rfl⟩:=a;exact PySem.EqNone.ne_none_int (bG I q (by simp))
  | str j=>obtain⟨b,rfl⟩:=a;exact PySem.EqNone.ne_none_str (bG I q (by simp))
  | _=>exact absurd (show false=true from hs) FI
 | bl i=>
  cases c;cases y with
  | non=>cases a;exact PySem.EqNone.ne_bool_none (bG I q (by simp))
  | bl j=>cases a;exact ne_bool (bG I q (congrArg not kD))
  | str j=>obtain⟨b,rfl⟩:=a;exact PySem.EqMixed.ne_bool_str (bG I q (by simp))
  | _=>exact absurd (show false=true from hs) FI
 | int i=>
  obtain⟨t,rfl⟩:=c;cases y with
  | non=>cases a;exact PySem.EqNone.ne_int_none (bG I q (by simp))
  | int j=>obtain⟨b,rfl⟩:=a;exact ne_int (bG I q (congrArg not xR))
  | str j=>obtain⟨b,rfl⟩:=a;exact PySem.EqMixed.ne_int_str (bG I q (by simp))
  | _=>exact absurd (show false=true from hs) FI
 | str i=>
  obtain⟨t,rfl⟩:=c;cases y with
  | non=>cases a;exact PySem.EqNone.ne_str_none (bG I q (by simp))
  | bl j=>cases a;exact PySem.EqMixed.ne_str_bool (bG I q (by simp))
  | int j=>obtain⟨b,rfl⟩:=a;exact PySem.EqMixed.ne_str_int (bG I q (by simp))
  | str j=>obtain⟨b,rfl⟩:=a;exact ne_str (bG I q (congrArg not jo))
  | _=>exact absurd (show false=true from hs) FI
 | byt i=>
  obtain⟨t,rfl⟩:=c;cases y with
  | byt j=>obtain⟨b,rfl⟩:=a;exact PySem.W.ne_bytes (bG I q (congrArg not wQ))
  | _=>exact absurd (show false=true from hs) FI
 | _=>cases y<;>exact absurd (show false=true from hs) FI
def dP:bJ X (compareOp .Lt) (fR λi j=>.bl (decide (i<j))):=lJ λ_ _ _ _ _ _ _ q=>lt_int q
def fN:bJ X (compareOp .LtE) (fR λi j=>.bl (decide (i<=j))):=lJ λ_ _ _ _ _ _ _ q=>le_int q
def eG:bJ X (compareOp .Gt) (fR λi j=>.bl (decide (j<i))):=lJ λ_ _ _ _ _ _ _ q=>gt_int q
def iG:bJ X (compareOp .GtE) (fR λi j=>.bl (decide (j<=i))):=lJ λ_ _ _ _ _ _ _ q=>ge_int q
def aJ(b:Vk){op:CmpOp}(h:op≠.In:=by decide)(h2:op≠.NotIn:=by decide):behindInMarks op b=false:=by
 have a:(op == CmpOp.In)=false:=by cases op<;>first|rfl|exact absurd rfl h
 have c:(op == CmpOp.NotIn)=false:=by cases op<;>first|rfl|exact absurd rfl h2
 cases b<;>simp[behindInMarks,a,c]
def dz{op:CmpOp}{r:R2}(ho:bJ X (compareOp op) r)(ha:PE X a ta)(hb:PE X b tb)(c:behindInMarks op b=false):PE X (.Compare a [op] [b] pos) (iV r ta tb):=by intro pins s σ H Q I h;exact wpAny_Compare1 (oH ha hb I h λv u s2 x y H2 d e g q=>ho pins s2 σ H2 x y v u Q d e g q) c
def sq(t:TE):TT:=λσ H Q=>t σ H λx H'=>∃k,x=.bl k/\Q k H'
def aM{op:CmpOp}{r:R2}(ho:bJ X (compareOp op) r)(ha:PE X a ta)(hb:PE X b tb)(d:behindInMarks op b=false):PT X (.Compare a [op] [b] pos) (sq (iV r ta tb)):=by
 intro pins s σ H Q I h;refine wpAny_isTrue_Compare1 (aD (ha pins s σ H _ I h) λv s1 ⟨x,H1,g,r1,i⟩=>aD (hb pins s1 σ H1 _ g i) λu s2 ⟨y,H2,j,l,m⟩=>
  aD (ho pins s2 σ H2 x y v u _ j r1 l m) λc w ⟨z,n,o,p,k,e,q⟩=>?_) d
 subst e;cases p;exact wpAny_truthy_bool ⟨n,o,q⟩
def ub(r b:R2)(ta tb tc:TE):TE:=λσ H Q=>ta σ H λx H1=>tb σ H1 λy H2=>r x y H2 λz a=>∃k,z=.bl k ∧
 (if k=true then tc σ a λc d=>b y c d Q else Q (.bl false) a)
def kz{op g:CmpOp}{r j:R2}(ho:bJ X (compareOp op) r)(i:bJ X (compareOp g) j)(ha:PE X a ta)(hb:PE X b tb)(p:PE X c tc)
  (q:lastMarks [op,g] [b,c]=false:=by with_unfolding_all rfl):PE X (.Compare a [op,g] [b,c] pos) (ub r j ta tb tc):=by
 intro pins s σ H Q I h;refine Compare_chain (aD (ha pins s σ H _ I h) λv s1 ⟨x,H1,w,r1,A⟩=>chain_link (aD (hb pins s1 σ H1 _ w A) λu s2 ⟨y,H2,B,l,C⟩=>
  aD (ho pins s2 σ H2 x y v u _ B r1 l C) λd E ⟨z,m,n,F,k,e,o⟩=>?_)) q
 subst e;cases F;refine wpAny_truthy_bool ?_;cases k with
 | false=>exact ite_ff ⟨.bl false,m,n,rfl,o⟩
 | true=>exact ite_tt (chain_last (aD (p pins E σ m _ n o) λG J ⟨L,M,N,O,P⟩=>i pins J σ M y L u G Q N l O P))
def i6:(sizeLine:Nat)<2 ^ 63:=by rw[sizeLine_eq];decide
def vals1{x:V}{us:List Va}(r:Vals [x] us):∃u,us=[u]/\RelV x u:=by
 cases r with
 | cons r1 a=>cases a;exact⟨_,rfl,r1⟩
def vals2{x y:V}{us:List Va}(r:Vals [x,y] us):∃u a,us=[u,a]/\RelV x u/\RelV y a:=by
 cases r with
 | cons r1 b=>
  cases b with
  | cons c d=>cases d;exact⟨_,_,rfl,r1,c⟩
def yU(b:X.calm=true):cy X (.builtin "max") (λxs H Q=>∃i j,xs=[.int i,.int j]/\Q (.int (if j>i then j else i)) H):=by
 intro pins s σ H xs us Q I r h;obtain⟨i,j,rfl,q⟩:=h;obtain⟨u,c,rfl,⟨t,rfl⟩,⟨d,rfl⟩⟩:=vals2 r;refine max_two_ints (I.ok.hd b) λh' tk k=>⟨_,H,I.kept k,?_,q⟩;by_cases a:j>i
 ·rw[Gr a,Gr a];exact⟨_,rfl⟩
 ·rw[Gq a,Gq a];exact⟨_,rfl⟩
def zI:cy X (.type "int") (λxs H Q=>(∃i,xs=[.int i]/\Q (.int i) H)\/∃k,xs=[.bl k]/\Q (.int (if k then 1 else 0)) H):=by
 intro pins s σ H xs us Q I r h;rcases h with⟨i,rfl,q⟩|⟨k,rfl,q⟩
 ·obtain⟨u,rfl,t,rfl⟩:=vals1 r;exact call_int_int ⟨.int i,H,I,⟨_,rfl⟩,q⟩
 ·obtain⟨u,rfl,r1⟩:=vals1 r;cases r1;exact call_int_bool ⟨.int (if k then 1 else 0),H,I.tok _,⟨_,rfl⟩,q⟩
end
structure ObjM(h:Vh)(x dx C:Vb)(mA:Vn->Option Va):Prop where
 obj:h.get? x=Vo (PySem.W.instObj C dx)
 ns:h.Ns1 dx mA
 ne:dx≠x
def ym{h:Vh}{dx:Vb}{mA:Vn->Option Va}(n:h.Ns1 dx mA):∃od,h.get? dx=Vo od/\∀name,PySem.W.lookIn name od=Vo (mA name):=by
 obtain⟨o,es,ep,ho,hd,c,_,d⟩:=n;refine⟨o,ho,λname=>?_⟩;have e:=d name;unfold nsFind findBy at e;rw[←Array.find?_toList]at e;unfold PySem.W.lookIn;rw[hd];dsimp only;split
 ·rename_i y q;rw[q]at e;exact congrArg Vo e
 ·rename_i q;rw[q]at e;have a:es.toList.any (·.refKey)=false:=by rw[List.any_eq_false];intro y g;obtain⟨z,t,b⟩:=c y (Array.mem_toList_iff.mp g);simp[DictEntry.refKey,b]
  have i:¬es.toList.any (·.refKey)=true:=by rw[a];exact FI
  rw[Gq i];exact congrArg Vo e
def ObjM.look{h:Vh}{x dx C:Vb}{mA:Vn->Option Va}(I:ObjM h x dx C mA):∃od,PySem.W.InstAt h x (PySem.W.instObj C dx) C (Vo od)/\∀name,PySem.W.lookIn name od=Vo (mA name):=
 let ⟨od,ho,hl⟩:=ym I.ns
 ⟨od,⟨I.obj,rfl,rfl,ho⟩,hl⟩
section
variable {prog:Vd} {w:Ve} {A:Vi} {E:Va->Vc->Prop} {s:Vc} {K:Fn} {x dx C f:Vb} {mA:Vn->Option Va} {name:Vn} {v:Va}
end
def fC.some_of{v:V}{o:Option Va}(r:fC (Vo v) o):∃u,o=Vo u/\RelV v u:=by
 cases o with
 | none=>exact(show False from r).elim
 | some u=>exact⟨u,rfl,r⟩
section
variable {P:Vd} {w:Ve} {H H':Hp} {h h':Vh} {a C dx:Vb} {fs fs':List (Vn×V)}
def yP(hok:bj P w H h)(e:H a=Vo (.ins C dx fs)):∃mA,ObjM h a dx C mA/\(∀f,fC (fs.lookup f) (mA f))/\PySem.Within mA (fs.map (·.1))/\fs.length<=1000/\H dx=Vo (.own a):=by obtain⟨d,z,ne,b,mA,n,r,q⟩:=(show bE P w H h a (.ins C dx fs)from hok a _ e);exact⟨mA,⟨b,n,ne⟩,r,q,z,d⟩
end
structure Cls(K:Fn)(C:Vb):Prop where
 pg:PySem.W.plainGet K C Str.empty=true
 hd:PySem.W.hasDictIn K C=true
 po:PySem.W.plainOver K C=true
 sa:PySem.W.findIn K (.ref C) "__setattr__" = Vo (Vo (.builtin "object.__setattr__"))
def Cls.get{K:Fn}{C:Vb}(c:Cls K C)(f:Vn):PySem.W.plainGet K C f=true:=c.pg
section
variable {X:Cx} {pins:List (Vb×Obj)} {σ:St} {H:Hp} {s:Vc} {a C dx:Vb} {fs:List (Vn×V)} {f:Vn} {v:V} {A:Vi} {E:Va->Vc->Prop}
end
section
variable {X:Cx} {o e value:Vk} {f:Vn} {pos pos' tpos:Pos} {ta tv:TE}
end
section
variable {X:Cx} {pins:List (Vb×Obj)} {σ:St} {H:Hp} {s:Vc} {A:Vi} {E:Va->Vc->Prop} {Q:Va->Vc->Prop} {c:Va} {b:Bool}
inductive TyOf(K:Fn)(H:Hp):V->Va->Prop where
 | non:TyOf K H .non (.type "NoneType")
 | bl (x:Bool):TyOf K H (.bl x) (.type "bool")
 | int (i:Int):TyOf K H (.int i) (.type "int")
 | str (x:Vn):TyOf K H (.str x) (.type "str")
 | flt (x:UInt64):TyOf K H (.flt x) (.type "float")
 | lst {a:Vb} {xs:List V} (e:H a=Vo (.lst xs)):TyOf K H (.ref a) (.type "list")
 | frz {a:Vb} {o:Obj} {xs:List V} (e:H a=Vo (.frz o (.lst xs))):TyOf K H (.ref a) (.type "list")
 | tup {a:Vb} {xs:List V} (e:H a=Vo (.tup xs)):TyOf K H (.ref a) (.type "tuple")
 | dK {a:Vb} {kvs:List (Key×V)} (e:H a=Vo (.dK kvs)):TyOf K H (.ref a) (.type "dict")
 | dT {a:Vb} {kvs:List (List Key×V)} (e:H a=Vo (.dT kvs)):TyOf K H (.ref a) (.type "dict")
 | ins {a C dx:Vb} {fs:List (Vn×V)} (e:H a=Vo (.ins C dx fs)) (cl:Cls K C) (ha:PySem.W.findIn K (.ref C) "__class__" = Vo (Vo (.builtin "object.__class__")))
   (c:PySem.W.specialIn K (.builtin "object.__class__") "__get__" = Vo (Vo (.builtin "getset_descriptor.__get__"))) (b:PySem.W.takesIn K (.builtin "object.__class__")=Vo true)
   (d:PySem.W.mroIn K C (.type "object")=Vo true):TyOf K H (.ref a) (.ref C)
def Ax{x:V}{u t:Va}(I:Inv X pins σ H s)(d:RelV x u)(ty:TyOf X.K H x t)(e:PySem.W.kitOne X.K t c=Vo b)(h:∀tk,Q (.bool b) { s with toks:=tk }):
  Vf (Vg X.prog X.w) A (call (.builtin "isinstance") [u,c]) Q E s:=by
 cases ty with
 | non=>cases(show u=Value.none from d);exact PySem.W.kia_one PySem.W.kitx_none I.kIn True.intro e (λz=>nomatch z) h
 | bl y=>cases(show u=Value.bool y from d);exact PySem.W.kia_one PySem.W.kitx_bool I.kIn True.intro e (λz=>nomatch z) h
 | int i=>obtain⟨t,q⟩:=(show ∃t,u=Value.int i t from d);cases q;exact PySem.W.kia_one PySem.W.kitx_int I.kIn True.intro e (λz=>nomatch z) h
 | str y=>obtain⟨t,q⟩:=(show ∃t,u=Value.str y t from d);cases q;exact PySem.W.kia_one PySem.W.kitx_str I.kIn True.intro e (λz=>nomatch z) h
 | flt y=>obtain⟨t,q⟩:=(show ∃t,u=Value.float y t from d);cases q;exact PySem.W.kia_one PySem.W.kitx_float I.kIn True.intro e (λz=>nomatch z) h
 | @lst a xs g=>
  cases(show u=Value.ref a from d);obtain⟨_,_,n,_,h1⟩:=(show bE X.prog X.w H s.heap a (.lst xs)from I.hok a _ g);exact PySem.W.kia_one PySem.W.kitx_list I.kIn ⟨_,h1,rfl⟩ e (λz=>nomatch z) h
 | @frz a k xs g=>
  cases(show u=Value.ref a from d);obtain⟨_,_,_,n,_,h1⟩:=(show bE X.prog X.w H s.heap a (.frz k (.lst xs))from I.hok a _ g);exact PySem.W.kia_one PySem.W.kitx_list I.kIn ⟨_,h1,rfl⟩ e (λz=>nomatch z) h
 | @tup a xs g=>
  cases(show u=Value.ref a from d);obtain⟨_,_,_,p⟩:=(show bE X.prog X.w H s.heap a (.tup xs)from I.hok a _ g);obtain⟨o,h1,h2,_⟩:=p;exact PySem.W.kia_one PySem.W.kitx_tuple I.kIn ⟨o,h1,h2⟩ e (λz=>nomatch z) h
 | @dK a kvs g=>
  cases(show u=Value.ref a from d);obtain⟨_,_,vs,_,p⟩:=(show bE X.prog X.w H s.heap a (.dK kvs)from I.hok a _ g);obtain⟨o,es,ep,h1,h2,_⟩:=p;exact PySem.W.kia_one PySem.W.kitx_dict I.kIn ⟨o,h1,h2.1⟩ e (λz=>nomatch z) h
 | @dT a kvs g=>
  cases(show u=Value.ref a from d);obtain⟨_,_,xs,_,o,es,ep,h1,h2,_⟩:=(show bE X.prog X.w H s.heap a (.dT kvs)from I.hok a _ g);exact PySem.W.kia_one PySem.W.kitx_dict I.kIn ⟨o,h1,h2.1⟩ e (λz=>nomatch z) h
 | @ins a C dx fs g cl ha l j m=>
  cases(show u=Value.ref a from d);obtain⟨mA,O,_⟩:=yP I.hok g;obtain⟨od,J,_⟩:=O.look;exact PySem.W.kia_one (PySem.W.kitx_own (cl.get _) cl.hd ha l j m) I.kIn J e (λz=>nomatch z) h
end
structure Room(k:Nat)(A:Vi):Prop where
 hd:A.handled=Vp
 dp:A.depth+3*k+5<recursionLimit
 un:A.units+16*k+200<cLine
def Room.mono{j k:Nat}{A:Vi}(r:Room k A)(h:j<=k):Room j A:=⟨r.hd,by have:=r.dp;omega,by have:=r.un;omega⟩
theorem Room.deeper{k:Nat}{A:Vi}(r:Room (k+1) A)(env:Env):Room k (A.deeper env):=
 ⟨r.hd,by have:=r.dp;show A.depth+1+3*k+5<_;omega,by have:=r.un;show A.units+3+16*k+200<_;omega⟩
theorem Room.depth{k:Nat}{A:Vi}(r:Room k A):A.depth<recursionLimit:=by have:=r.dp;omega
theorem Room.units{k:Nat}{A:Vi}(r:Room k A):A.units+64<cLine:=by have:=r.un;omega
def qE:TA:=λ_ H Q=>Q [] H
def mn(ta:TE)(tr:TA):TA:=λσ H Q=>ta σ H λx H1=>tr σ H1 λxs H2=>Q (x::xs) H2
section
variable {X:Cx} {e:Vk} {es:List Vk} {te:TE} {t:TA} {pos:Pos}
def ae:PA X [] qE:=λ_ _ _ _ H Q I h=>Calls.spliced_nil ⟨[],H,I,.nil,h⟩
def aa(ha:PE X e te)(a:PA X es t)(hs:starEach (e::es) X.env=(false,eval e X.env)::starEach es X.env:=by rfl):PA X (e::es) (mn te t):=by intro pos pins s σ H Q I h;rw[hs];show Vf _ _ (spliced ((false,eval e X.env)::backTo pos (starEach es X.env))) _ _ s;refine Calls.spliced_cons (aD (ha pins s σ H _ I h) λu s1 ⟨x,H1,b,r1,c⟩=>?_);exact aD (a pos pins s1 σ H1 _ b c) λus s2 ⟨xs,H2,d,g,i⟩=>⟨x::xs,H2,d,.cons r1 g,i⟩
def oJ(t:TA):TE:=λσ H Q=>t σ H λxs H1=>xs.length<=sizeLine/\∀p,H1 p=Vp->Q (.ref p) (upd H1 p (.tup xs))
def wj(t:TA):TE:=λσ H Q=>t σ H λxs H1=>xs.length<=sizeLine/\∀p,H1 p=Vp->Q (.ref p) (upd H1 p (.lst xs))
def bf{x1}(h:PA X es t):PE X (.Tuple es x1 pos) (oJ t):=by intro pins s σ H Q I c;refine wpAny_Tuple_spliced (aD (h pos pins s σ H _ I c) λus s1 ⟨xs,H1,a,r,z,q⟩=>⟨by rw[←r.length];exact z,?_⟩);have d:H1 s1.heap.objs.size=none:=a.hok.fresh (FN _);refine⟨.ref s1.heap.objs.size,upd H1 s1.heap.objs.size (.tup xs),a.laid (t':=s1.toks) (λb u e=>Fo _ e) (FN _) ?_,rfl,q _ d⟩;exact⟨z,us,r,⟨_,Fp _ rfl,rfl,_,rfl⟩⟩
def bo(h:PA X es t):PE X (.List es pos) (wj t):=by intro pins s σ H Q I c;refine wpAny_List_spliced (aD (h pos pins s σ H _ I c) λus s1 ⟨xs,H1,a,r,z,q⟩=>⟨by rw[←r.length];exact z,?_⟩);have d:H1 s1.heap.objs.size=none:=a.hok.fresh (FN _);refine⟨.ref s1.heap.objs.size,upd H1 s1.heap.objs.size (.lst xs),a.laid (t':=s1.toks) (λb u e=>Fo _ e) (FN _) ?_,rfl,q _ d⟩;exact⟨z,us,0,r,Fp _ rfl⟩
end
abbrev Sp:=List V->Hp->VK->XK->Prop
abbrev fZ:=List Env->Hp->Vc->XK->Va->Vc->Prop
structure Env0(P:Vd)(w:Ve)(K:Fn)(mg:Vn->Option Va)(base:Vh)(A:Vi)(outer:List Env)(s:Vc)(H:Hp):Prop where
 frames:A.frames=Vo outer
 mod:Mod K mg base
 bs:∀b o,base.get? b=Vo o->s.heap.get? b=Vo o/\H b=Vp
 bsz:base.objs.size<=s.heap.objs.size
 funs:s.heap.FunFrames base outer
 frf:∀b∈dm outer,H b=Vp
 hok:bj P w H s.heap
 bare:AllBare s.gens
def CE(outer:List Env)(P:Vd)(w:Ve)(H:Hp)(s:Vc)(Q:VK)(u:Va)(s':Vc):Prop:=
 ∃v H',s'.os=s.os/\AllBare s'.gens/\Un (dm outer) [] H H' s.heap s'.heap/\bj P w H' s'.heap/\RelV v u/\Q v H'
def CR(CX:fZ)(outer:List Env)(P:Vd)(w:Ve)(H:Hp)(s:Vc)(Q:VK)(E:XK)(r:Result)(s':Vc):Prop:=
 match r with
 | .ok (.ret u)=>CE outer P w H s Q u s'
 | .ok _=>False
 | .error e=>CX outer H s E e s'
structure FnOk(P:Vd)(w:Ve)(K:Fn)(mg:Vn->Option Va)(base:Vh)(CX:fZ)(k:Nat)(f:Vb)(fd:Vm)(ps:List Vn)(sp:Sp):Prop where
 len:∀vs H Q E,sp vs H Q E->vs.length=ps.length
 run:∀(A:Vi) (outer:List Env) (s:Vc) (H:Hp) (args:Args) (us:List Va) (vs:List V) (Q:VK) (E:XK),Room k A->Env0 P w K mg base A outer s H->BindsTo s fd args (ps.zip us)->Vals vs us->sp vs H Q E →
  codeAny (Vg P w) A (.call (.ref f) args) (CR CX outer P w H s Q E) s
section
variable {X:Cx} {pins:List (Vb×Obj)} {σ:St} {H:Hp} {s s':Vc}
def Inv.env0(I:Inv X pins σ H s):Env0 X.prog X.w X.K X.mg X.base X.A X.stack s H:=
 ⟨I.ok.frames,I.ok.mod,I.bs,FY I.ok.bsz I.sz,I.stack,I.stkFree,I.hok,I.bare⟩
def Inv.after{Q:VK}{u:Va}(I:Inv X pins σ H s)(h:CE X.stack X.prog X.w H s Q u s'):EP X pins σ Q u s':=by obtain⟨v,H',os,bare,un,hok,r,q⟩:=h;obtain⟨c,g,d,t,a⟩:=s';obtain rfl:a=s.os:=os;exact⟨v,H',I.call (h':=c) (g':=g) (d':=d) (t':=t) (ch:=[]) un hok bare (λb z=>absurd z (by simp)),r,q⟩
end
def ky(sp:Sp)(dvs:List V)(E:XK)(t:TA):TE:=λσ H Q=>t σ H λvs H1=>sp (vs++dvs) H1 Q E
def Binds(K:Fn)(fd:Vm)(ps:List Vn)(ds:List Va):Prop:=
 ∀(s:Vc) (us:List Va),K.In s.heap->(us++ds).length=ps.length->BindsTo s fd ⟨us,[]⟩ (ps.zip (us++ds))
def Binds.all{K:Fn}{fd:Vm}{ps:List Vn}(h:∀us:List Va,us.length=ps.length->bindArgs fd ⟨us,[]⟩=pure (ps.zip us)):Binds K fd ps []:=λs us _ a=>by rw[List.append_nil]at a ⊢;exact .of_eq (h us a)
def Passes(CX:fZ)(X:Cx)(E:XK):Prop:=∀(pins:List (Vb×Obj)) (σ:St) (H:Hp) (s:Vc) (e:Va) (s':Vc),Inv X pins σ H s->CX X.stack H s E e s'->X.xe e s'
section
variable {X:Cx} {CX:fZ} {k:Nat} {f C:Vb} {fd:Vm} {ps:List Vn} {sp:Sp} {dvs:List V} {ds:List Va} {E:XK} {x m:Vn} {p pos apos:Pos} {e o:Vk} {es:List Vk} {ta:TE} {t:TA}
def B6{pins:List (Vb×Obj)}{σ:St}{H:Hp}{s:Vc}{Q:VK}{us:List Va}{vs:List V}(F:FnOk X.prog X.w X.K X.mg X.base CX k f fd ps sp)(c:Room k X.A)(hb:Binds X.K fd ps ds)(hd:Vals dvs ds)(d:Passes CX X E)
  (I:Inv X pins σ H s) (r:Vals vs us) (h:sp (vs++dvs) H Q E):Vf (Vg X.prog X.w) X.A (call (.ref f) us) (EP X pins σ Q) X.xe s:=by
 have b:Vals (vs++dvs) (us++ds):=r.append hd;have g:(us++ds).length=ps.length:=by rw[←b.length];exact F.len _ _ _ _ h
 refine wpAny_call (codeAny_mono (F.run X.A X.stack s H ⟨us,[]⟩ (us++ds) (vs++dvs) Q E c I.env0 (hb s us I.kIn g) b h) λr s' a=>?_);cases r with
 | error e=>exact d pins σ H s e s' I a
 | ok i=>
  cases i with
  | ret u=>exact I.after a
  | next=>exact False.elim a
  | brk=>exact False.elim a
  | cont=>exact False.elim a
def Be(F:FnOk X.prog X.w X.K X.mg X.base CX k f fd ps sp)(d:Room k X.A)(g:Gl X x)(i:X.mg x=Vo (.ref f))(j:PySem.W.keepIn X.K (.ref f)=true)(hb:Binds X.K fd ps ds)(hd:Vals dvs ds)(l:Passes CX X E)
  (ha:PA X (e::es) t) (a:(x == ("__debug__":Vn))=false:=by decide) (m:starEach (e::es) X.env=(false,eval e X.env)::starEach es X.env:=by rfl) (b:(backTo pos (starEach es X.env)).any (·.1)=false:=by rfl) :
  PE X (.Call (.Name x p) (e::es) [] pos) (ky sp dvs E t):=by
 intro pins s σ H Q I h;refine wpAny_Call_Name_kw (jE I g i ?_ a);refine PySem.W.callWith_K (h₀:=X.base) I.ok.mod.kin j (aD (ha pos pins s σ H _ I h) λus s1 ⟨vs,H1,c,r,q⟩=>⟨c.kIn,?_⟩) m b;exact B6 F d hb hd l c r q
end
section
variable {X:Cx} {CX:fZ} {k:Nat} {f C:Vb} {fd:Vm} {ps ks:List Vn} {sp:Sp} {E:XK} {x m:Vn} {p pos apos kpos:Pos} {e o:Vk} {es:List Vk} {kws:List Keyword} {te ta:TE} {t tk:TA} {nm:Option Vn}
variable {g:List Va->List Va->List Va} {gV:List V->List V->List V}
end
structure FnScope(N P:List Vn)(sc:Scope):Prop where
 kind:sc.kind=.function
 co:sc.isCoroutine=false
 gen:sc.isGenerator=false
 nd:N.Nodup
 pre:N.take P.length=P
 par:∀x∈P,sc.names.lookup x=Vo .local\/sc.names.lookup x=Vo .cell
 nofree:∀y∈sc.names,y.2≠.free
theorem ye{kindOf:Vn->Option NameKind}{x:Vn}:∀{binds:List (Vn×Va)} {m:Vn->Option Va},(∀v,(x,v)∉binds)->bindL kindOf binds m x=m x
 | [],_,_=>rfl
 | (n,v)::r,m,h=>by
  unfold bindL;rw[ye λw a=>h w (Fv _ a)];split
  ·have:x≠n:=by rintro rfl;exact h v Fy
   simp[this]
  ·rfl
theorem uO{kindOf:Vn->Option NameKind}{x:Vn}:∀{binds:List (Vn×Va)} {m:Vn->Option Va},(∀v,(x,v)∉binds)->bindC kindOf binds m x=m x
 | [],_,_=>rfl
 | (n,v)::r,m,h=>by
  unfold bindC;rw[uO λw a=>h w (Fv _ a)];split
  ·rfl
  ·have:x≠n:=by rintro rfl;exact h v Fy
   simp[this]
theorem mJ{kindOf:Vn->Option NameKind}{x:Vn}{v:Va}:∀{P:List Vn} {vs:List Va} {i:Nat} {m:Vn->Option Va},P.Nodup->P[i]?=Vo x->vs[i]?=Vo v->kindOf x=Vo .local →
  bindL kindOf (P.zip vs) m x=Vo v
 | [],_,_,_,_,h,_,_=>by simp at h
 | _::_,[],_,_,_,_,h,_=>by simp at h
 | p::P,w::vs,0,m,nd,h1,h2,a=>by simp at h1 h2;subst h1;subst h2;show bindL kindOf ((p,w)::P.zip vs) m p=_;unfold bindL;rw[ye λv b=>(List.nodup_cons.mp nd).1 (List.of_mem_zip b).1,Gr a];simp
 | p::P,w::vs,i+1,m,nd,h1,h2,a=>by show bindL kindOf ((p,w)::P.zip vs) m x=_;unfold bindL;exact mJ (i:=i) (List.nodup_cons.mp nd).2 (by simpa using h1) (by simpa using h2) a
theorem rL{kindOf:Vn->Option NameKind}{x:Vn}{v:Va}:∀{P:List Vn} {vs:List Va} {i:Nat} {m:Vn->Option Va},P.Nodup->P[i]?=Vo x->vs[i]?=Vo v->kindOf x≠Vo .local →
  bindC kindOf (P.zip vs) m x=Vo v
 | [],_,_,_,_,h,_,_=>by simp at h
 | _::_,[],_,_,_,_,h,_=>by simp at h
 | p::P,w::vs,0,m,nd,h1,h2,a=>by simp at h1 h2;subst h1;subst h2;show bindC kindOf ((p,w)::P.zip vs) m p=_;unfold bindC;rw[uO λv b=>(List.nodup_cons.mp nd).1 (List.of_mem_zip b).1,Gq a];simp
 | p::P,w::vs,i+1,m,nd,h1,h2,a=>by show bindC kindOf ((p,w)::P.zip vs) m x=_;unfold bindC;exact rL (i:=i) (List.nodup_cons.mp nd).2 (by simpa using h1) (by simpa using h2) a
def start(N:List Vn)(vs:List V):St:=vs.map Vo++Gb (N.length-vs.length) Vp
def gG(CX:fZ)(P:Vd)(w:Ve)(K:Fn)(mg:Vn->Option Va)(base:Vh)(N:List Vn)(qual:Vn)(scope:Scope)(f:Vb)(cd:Va)(A:Vi)(outer:List Env)(s:Vc)(H:Hp)(E:XK):Cx where
 prog:=P
 w:=w
 K:=K
 mg:=mg
 base:=base
 A:=A.deeper (envOfC qual scope s.heap.objs.size f cd)
 N:=N
 s₀:=s
 H₀:=H
 env:=envOfC qual scope s.heap.objs.size f cd
 outer:=outer
 stack:=envOfC qual scope s.heap.objs.size f cd::outer
 ex:=[]
 calm:=true
 fn:=λ_=>true
 pn:=[]
 xe:=λe s'=>Vf (Vg P w) (A.deeper (envOfC qual scope s.heap.objs.size f cd)) (leaving (envOfC qual scope s.heap.objs.size f cd) e) (λ_ a=>CX outer H s E e a) (λb a=>CX outer H s E b a) s'
def u7{sc:Scope}{n:Nat}{x:Vn}(h:sc.names.lookup x=Vo .cell):∃c,(cellsFrom n sc.names []).lookup x=Vo c:=by have q:=PySem.W.cellsFrom_some sc.names n [] (.inl h);exact Option.isSome_iff_exists.mp q
def zb{CX:fZ}{P:Vd}{w:Ve}{K:Fn}{mg:Vn->Option Va}{base:Vh}{N ps:List Vn}{qual:Vn}{scope:Scope}{f:Vb}{cd:Va}{A:Vi}{outer:List Env}{s s1:Vc}{H:Hp}{E:XK}{us:List Va}{vs:List V}
  (S:FnScope N ps scope) (hd:A.handled=Vp) (d:Env0 P w K mg base A outer s H) (F:vs.length=ps.length) (r:Vals vs us)
  (x:InCallC s s.heap.objs.size (bindL (envOfC qual scope s.heap.objs.size f cd).kindOf (ps.zip us) λ_=>Vp) (cellsFrom (s.heap.objs.size+1) scope.names []) (bindC (envOfC qual scope s.heap.objs.size f cd).kindOf (ps.zip us) λ_=>Vp) s1) :
  Inv (gG CX P w K mg base N qual scope f cd A outer s H E) [] (start N vs) H s1:=by
 have B:ps.length<=N.length:=by have:=congrArg List.length S.pre;rw[Gi]at this;omega
 obtain⟨h1,tk,rfl,m⟩:=x.done;have noA:∀b:Vb,b∉(gG CX P w K mg base N qual scope f cd A outer s H E).ex:=λb z=>absurd (show b∈([]:List Vb)from z) (by simp);refine⟨⟨d.mod,S.kind,rfl,rfl,FN _,λy z c h1 h2=>?_,λy g=>?_,λy c _ h=>?_,λ_=>hd,Around.frames_deeper d.frames,.inr ⟨rfl,rfl⟩,λb z=>absurd z (noA b),d.bs,d.bsz,λb _ _=>noA b,λb z=>absurd z (noA b),d.funs,d.frf⟩,
  rfl,d.bare,Un.kept m,⟨_,x.toInCall.ns,λi y v h1 h2 G=>?_⟩,λy c h=>⟨_,x.cell y c h⟩,d.hok.fresh (FN _),λy c h=>?_,λp j=>absurd (show p∈([]:List (Vb×Obj))from j) (by simp),d.hok.kept m,?_⟩
 ·exact name_of_addr x.apart (PySem.mem_of_lookup h1) (PySem.mem_of_lookup h2)
 ·have g:scope.names.lookup y=Vo .cell\/scope.names.lookup y=Vo .free:=g;rcases g with g|g
  ·exact u7 g
  ·exact absurd rfl (S.nofree _ (PySem.mem_of_lookup g))
 ·exact Nat.le_of_lt (x.above y c (PySem.mem_of_lookup h))
 ·have hi:i<vs.length:=by
   unfold start at h2;by_cases hi:i<vs.length
   ·exact hi
   ·rw[FR (by simpa using hi)]at h2;rw[List.getElem?_replicate]at h2;split at h2<;>cases h2
  have ha:vs[i]?=Vo v:=by
   unfold start at h2;rw[FT (by simpa using hi),Fu]at h2;cases e:vs[i]? with
   | none=>rw[e]at h2;cases h2
   | some a=>rw[e]at h2;cases h2;rfl
  obtain⟨u,o,C⟩:=r.get ha;have j:ps[i]?=some y:=by rw[←S.pre,List.getElem?_take_of_lt (by omega)];exact h1
  have l:ps.Nodup:=by rw[←S.pre];exact S.nd.sublist (List.take_sublist _ _)
  refine⟨u,C,?_⟩;rcases S.par y (FC j)with k|k
  ·exact .inl ⟨k,mJ l j o k⟩
  ·obtain⟨c,e⟩:=u7 (n:=s.heap.objs.size+1) k;refine .inr ⟨.inl k,c,e,?_⟩;have q:=x.cell y c e;rw[rL l j o (by show scope.names.lookup y≠_;rw[k];decide)]at q;exact q
 ·exact d.hok.fresh (Nat.le_of_lt (x.above y c (PySem.mem_of_lookup h)))
 ·unfold start;show _=N.length;rw[FK,Fs,List.length_replicate];omega
def vv{CX:fZ}{P:Vd}{w:Ve}{K:Fn}{mg:Vn->Option Va}{base:Vh}{k:Nat}{f:Vb}{name qual:Vn}{params:Arguments}{body:List Vl}{scope:Scope}{j kV doc pm cdv ct oc:Va}{an od:Option Vb}
  {osl:Array (Option Va)} {N ps:List Vn} {sp:Sp} (m:K.lookup f=Vo ⟨oc,od,.func (PySem.W.fnOf name qual params body scope j kV doc pm an cdv ct),osl⟩) (g:PySem.W.codeIn K cdv qual=true) (S:FnScope N ps scope)
  (len:∀vs H Q E,sp vs H Q E->vs.length=ps.length)
  (c:∀(A:Vi) (outer:List Env) (s:Vc) (H:Hp) (vs:List V) (Q:VK) (E:XK),Room k (A.deeper (envOfC qual scope s.heap.objs.size f cdv))->sp vs H Q E →
   ∃t,cP (gG CX P w K mg base N qual scope f cdv A outer s H E) body t/\t { nx:=λ_ H'=>Q .non H',rt:=Q } (start N vs) H) :
  FnOk P w K mg base CX (k+1) f (PySem.W.fnOf name qual params body scope j kV doc pm an cdv ct) ps sp:=by
 refine⟨len,λA outer s H args us vs Q E h d hb r hsp=>?_⟩;have p:=len _ _ _ _ hsp;have l:K.In s.heap:=d.mod.kin.keeps λb o e=>(d.bs b o e).1;have lim:s.heap.NoLimit:=d.mod.nolimit.keeps λb o e=>(d.bs b o e).1;have hkind:∀y∈ps.zip us,scope.names.lookup y.1=Vo .local\/(scope.names.lookup y.1=Vo .cell/\((cellsFrom (s.heap.objs.size+1) scope.names []).lookup y.1).isSome=true):=λ⟨n,v⟩ z=>by
  rcases S.par n (List.of_mem_zip z).1 with q|q
  ·exact .inl q
  ·exact .inr ⟨q,PySem.W.cellsFrom_some _ _ _ (.inl q)⟩
 refine codeAny_call_function h.depth (l _ _ m) rfl S.co S.gen rfl (PySem.W.codeRec_of l g) (hb _ _ _ _ ?_);refine wpAny_newFunctionEnv_cells S.kind hkind λenv B s1 x=>?_;subst B;refine⟨lim.keeps x.toInCall.keep,codeAny_func ?_⟩;obtain⟨t,C,F⟩:=c A outer s H vs Q E (h.deeper _) hsp;have I:Inv (gG CX P w K mg base N qual scope f cdv A outer s H E) [] (start N vs) H s1:=zb S h.hd d p r x;refine wpAny_mono (C [] s1 (start N vs) H _ I F) (λG s' hs=>?_) λe s' hs=>hs;have fin:∀{a:St} {H':Hp} {v:V} {u:Va},Inv (gG CX P w K mg base N qual scope f cdv A outer s H E) [] a H' s'->RelV v u->Q v H'->CE outer P w H s Q u s':=
  λ{a H' v u} J i q=>⟨v,H',J.os,J.bare,J.base,J.hok,i,q⟩
 cases G with
 | ret u=>
  obtain⟨v,a,H',J,i,q⟩:=hs;exact fin J i q
 | next=>
  obtain⟨a,H',J,q⟩:=hs;exact fin (v:=V.non) (u:=Value.none) J rfl q
 | brk=>
  obtain⟨_,_,_,q⟩:=hs;exact False.elim q
 | cont=>
  obtain⟨_,_,_,q⟩:=hs;exact False.elim q
section
variable {X:Cx} {x:Vn} {p pos:Pos} {e:Vk} {es:List Vk} {t:TA} {id T:String} {r:List V->Hp->VK->Prop}
def kq(r:List V->Hp->VK->Prop)(t:TA):TE:=λσ H Q=>t σ H λvs H1=>r vs H1 Q
def aU(c:cy X (.builtin id) r)(d:Gl X x)(g:X.mg x=Vp)(i:bootBuiltins x=Vo (.builtin id))(ha:PA X (e::es) t)(j:x≠"__name__":=by decide)(a:(x == ("__debug__":Vn))=false:=by decide)
  (k:starEach (e::es) X.env=(false,eval e X.env)::starEach es X.env:=by rfl) (b:(backTo pos (starEach es X.env)).any (·.1)=false:=by rfl):PE X (.Call (.Name x p) (e::es) [] pos) (kq r t):=by
 intro pins s σ H Q I h;refine wpAny_Call_Name_kw (gg I d g i ?_ j a);exact PyProof.Rows.callWith_builtin1 (aD (ha pos pins s σ H _ I h) λus s1 ⟨vs,H1,l,r1,m⟩=>c pins s1 σ H1 vs us Q l r1 m) k b
def dQ(c:cy X (.type T) r)(d:Gl X x)(g:X.mg x=Vp)(i:bootBuiltins x=Vo (.type T))(ha:PA X (e::es) t)(j:x≠"__name__":=by decide)(a:(x == ("__debug__":Vn))=false:=by decide)
  (k:starEach (e::es) X.env=(false,eval e X.env)::starEach es X.env:=by rfl) (b:(backTo pos (starEach es X.env)).any (·.1)=false:=by rfl):PE X (.Call (.Name x p) (e::es) [] pos) (kq r t):=by
 intro pins s σ H Q I h;refine wpAny_Call_Name_kw (gg I d g i ?_ j a);exact PyProof.Rows.callWith_type1 (aD (ha pos pins s σ H _ I h) λus s1 ⟨vs,H1,l,r1,m⟩=>c pins s1 σ H1 vs us Q l r1 m) k b
end
end L2
namespace HT
open PySem PyProof.Rows
section
open PySem.SeqAt
open PySem.AutoSeq1 (wpAny_loadPart')
open PySem.MeetsSeq PySem.MeetsSeq2 PySem.MeetsSeq3
end
section
variable {prog:Vd} {w:Ve} {A:Vi} {E:Va->Vc->Prop} {s:Vc}
def cz(n d:Nat):Option Int->Nat
 | none=>d
 | some v=>if v<0 then(v+(n:Int)).toNat else min v.toNat n
def uD(n d:Nat):cz n d Vp=d:=rfl
def uL(n d k:Nat):cz n d (Vo (k:Int))=min k n:=by show(if(k:Int)<0 then((k:Int)+(n:Int)).toNat else min (k:Int).toNat n)=min k n;rw[Gq (by omega),FF]
end
end HT
namespace L2
open PySem PySem.Spec PyProof.Rows
abbrev TO:=St->Hp->(Option Int->Hp->Prop)->Prop
def PO(X:Cx)(e:Option Vk)(t:TO):Prop:=
 ∀(pins:List (Vb×Obj)) (s:Vc) (σ:St) (H:Hp) (Q:Option Int->Hp->Prop),Inv X pins σ H s->t σ H Q →
  Vf (Vg X.prog X.w) X.A (evalPart e X.env) (λu s'=>∃o H',Inv X pins σ H' s'/\IsPart u o/\Q o H') X.xe s
def tQ:TO:=λ_ H Q=>Q Vp H
def vw(t:TE):TO:=λσ H Q=>t σ H λx H1=>∃i,x=.int i/\Q (Vo i) H1
def intsAre_of{ns:List Int}:∀{us:List Va},Vals (ns.map V.int) us->IntsAre us ns:=by
 induction ns with
 | nil=>intro us r;rw[List.map_nil]at r;cases r;exact .nil
 | cons n ns a=>
  intro us r;rw[List.map_cons]at r;cases r with
  | cons r1 b=>
   obtain⟨t,e⟩:=r1;subst e;exact .cons n t (a b)
section
variable {X:Cx} {e:Vk} {te:TE} {lo hi:Option Vk} {tl th:TO} {pos p2:Pos}
def i7:PO X Vp tQ:=by intro pins s σ H Q I h;rw[evalPart_none];exact Fm ⟨Vp,H,I,.none,h⟩
def f7(h:PE X e te):PO X (Vo e) (vw te):=by intro pins s σ H Q I a;rw[evalPart_some];refine aD (h pins s σ H _ I a) λu s1 ⟨x,H1,b,r1,c⟩=>?_;obtain⟨i,rfl,q⟩:=c;obtain⟨t,rfl⟩:=r1;exact⟨Vo i,H1,b,.int i t,q⟩
def oh(X:Cx)(r:V->Option Int->Option Int->Hp->VK->Prop):Prop:=
 ∀(pins:List (Vb×Obj)) (s:Vc) (σ:St) (H:Hp) (x:V) (v a b:Va) (lo hi:Option Int) (sl:Vb) (Q:VK),Inv X pins σ H s->RelV x v->s.heap.IsSliceOf sl a b .none->IsPart a lo->IsPart b hi->r x lo hi H Q →
  ∃T id,typeLookup (.type T) "__getitem__" = pure (Vo (.builtin id))/\s.TypeIs v T/\Vf (Vg X.prog X.w) X.A (getItem v (.ref sl)) (EP X pins σ Q) X.xe s
def tN(r:V->Option Int->Option Int->Hp->VK->Prop)(te:TE)(tl th:TO):TE:=λσ H Q=>te σ H λx H1=>tl σ H1 λl H2=>th σ H2 λu a=>r x l u a Q
def gM{r:V->Option Int->Option Int->Hp->VK->Prop}(i:oh X r)(j:PE X e te)(k:PO X lo tl)(m:PO X hi th):PE X (.Subscript e (.Slice lo hi Vp p2) pos) (tN r te tl th):=by intro pins s σ H Q I h;refine Subscript_ (aD (j pins s σ H _ I h) λv s1 ⟨x,H1,n,r1,o⟩=>?_);refine wpAny_Slice (aD (k pins s1 σ H1 _ n o) λc s2 ⟨l,H2,p,pl,y⟩=>aD (m pins s2 σ H2 _ p y) λd a ⟨u,g,z,pu,B⟩=>?_);rw[evalPart_none];refine Fm ?_;have C:Inv X pins σ g { a with heap:=a.heap.push { cls:=.type "slice",data:=.fields #[c,d,.none] } }:=z.kept (t':=a.toks) λb J q=>Fo _ q;obtain⟨T,id,E,F,G⟩:=i pins { a with heap:=a.heap.push { cls:=.type "slice",data:=.fields #[c,d,.none] } } σ g x v c d l u a.heap.objs.size Q C r1 (Heap.IsSliceOf.new ..) pl pu B;show Vf (Vg X.prog X.w) X.A (subscriptTail e (.Slice lo hi Vp p2) v (.ref a.heap.objs.size)) (EP X pins σ Q) X.xe { a with heap:=a.heap.push { cls:=.type "slice",data:=.fields #[c,d,.none] } };exact tail_any (ops:=[.ref a.heap.objs.size,v]) F E G (by with_unfolding_all rfl)
def dO(xs:List V)(lo hi:Option Int):List V:=(xs.drop (HT.cz xs.length 0 lo)).take (HT.cz xs.length xs.length hi-HT.cz xs.length 0 lo)
def CF(xs:List V)(lo hi:Option Int):(dO xs lo hi).length<=xs.length:=by unfold dO;rw[Gi,List.length_drop];omega
end
def eY(n:Nat)(i:Int):Option Nat:=if 0<=i then(if i<n then Vo i.toNat else Vp)else if -(n:Int)<=i then Vo (i+n).toNat else Vp
def bF{α:Type}(xs:List α)(i:Int):Option α:=(eY xs.length i).bind λj=>xs[j]?
def rW{n:Nat}{i:Int}{j:Nat}(h:eY n i=Vo j):seqIndex? i n=Vo j/\j<n/\-(n:Int)<=i/\i<n:=by
 unfold eY at h;by_cases a:0<=i
 ·rw[Gr a]at h;by_cases h1:i<n
  ·rw[Gr h1]at h;have e:i.toNat=j:=F8 h;exact⟨by rw[seqIndex_of a h1,e],by omega,by omega,h1⟩
  ·rw[Gq h1]at h;cases h
 ·rw[Gq a]at h;by_cases h1:-(n:Int)<=i
  ·rw[Gr h1]at h;have e:(i+n).toNat=j:=F8 h;exact⟨by rw[seqIndex_neg (by omega) h1,e],by omega,h1,by omega⟩
  ·rw[Gq h1]at h;cases h
def pf{α:Type}{xs:List α}{i:Int}{v:α}(h:bF xs i=Vo v):∃j,seqIndex? i xs.length=Vo j/\xs[j]?=Vo v/\j<xs.length/\-(xs.length:Int)<=i/\i<xs.length:=by
 unfold bF at h;cases e:eY xs.length i with
 | none=>rw[e]at h;cases h
 | some j=>
  rw[e]at h;obtain⟨h1,h2,a,b⟩:=rW e;exact⟨j,h1,h,h2,a,b⟩
def fk{α:Type}{xs:List α}{j:Nat}{v:α}(h:xs[j]?=Vo v):bF xs (j:Int)=Vo v:=by
 have a:j<xs.length:=(FA.mp h).1;have e:eY xs.length (j:Int)=Vo j:=by unfold eY;rw[Gr (by omega),Gr (by omega)];simp
 unfold bF;rw[e];exact h
def DH(b:Vk):Prop:=∀o i,subscripted b false o i=operate [o,i] (getItem o i)
def iW(X:Cx)(r:R2):Prop:=
 ∀(value slice:Vk) (pins:List (Vb×Obj)) (s:Vc) (σ:St) (H:Hp) (x y:V) (v u:Va) (Q:VK),Inv X pins σ H s->RelV x v->RelV y u->r x y H Q →
  subscripted slice false v u=operate [v,u] (getItem v u)->Vf (Vg X.prog X.w) X.A (subscriptTail value slice v u) (EP X pins σ Q) X.xe s
def jm(X:Cx)(id:String)(r:V->List V->Hp->VK->Prop):Prop:=
 ∀(pins:List (Vb×Obj)) (s:Vc) (σ:St) (H:Hp) (x:V) (xs:List V) (v:Va) (us:List Va) (Q:VK),Inv X pins σ H s->RelV x v->Vals xs us->r x xs H Q →
  Vf (Vg X.prog X.w) X.A (call (.builtin id) (v::us)) (EP X pins σ Q) X.xe s
section
variable {X:Cx} {a b:Vk} {ta tb:TE} {pos:Pos}
def ah{r:R2}(c:iW X r)(ha:PE X a ta)(hb:PE X b tb)(hs:DH b):PE X (.Subscript a b pos) (iV r ta tb):=by intro pins s σ H Q I h;exact Subscript_ (oH ha hb I h λv u s2 x y H2 d e g q=>c a b pins s2 σ H2 x y v u Q d e g q (hs _ _))
def nv(K:Fn):R2:=λx y H Q=>∃p xs i v,x=.ref p/\y=.int i/\ag K H p xs/\bF xs i=Vo v/\Q v H
def lU(K:Fn):R2:=λx y H Q=>∃p xs i v,x=.ref p/\y=.int i/\aj K H p xs/\bF xs i=Vo v/\Q v H
def DX:R2:=λx y H Q=>∃z i c,x=.str z/\y=.int i/\z.length<=sizeLine/\bF z.cps.toList i=Vo c/\Q (.str ⟨#[c]⟩) H
def Dw:iW X (nv X.K):=by
 intro value slice pins s σ H x y v u Q I g k h hs;obtain⟨p,xs,i,z,rfl,rfl,l,m,q⟩:=h;cases g;obtain⟨t,rfl⟩:=k;obtain⟨a,r,pl,B⟩:=I.list l;obtain⟨j,h1,h2,C,n,o⟩:=pf m;obtain⟨w,d,b⟩:=r.get h2;have A:=r.length;have E:=i6;have fin:EP X pins σ Q w s:=⟨z,H,I,b,q⟩;by_cases e:0<=i
 ·have c:i.toNat=j:=by rw[seqIndex_of e o]at h1;exact F8 h1
  exact item_listR pl.isList e (by omega) (by rw[c];simpa using d) fin hs
 ·have c:(i+(a.toArray.size:Int)).toNat=j:=by rw[seqIndex_neg (by omega) n]at h1;rw[Fx,←A];exact F8 h1
  exact subscriptTail_builtinR (x:=w) pl.isList.typeIs slot_list_getitem.lookup
   (wpAny_getItem_list_neg (Q:=λr s'=>r=w/\EP X pins σ Q r s') pl.isList (by omega) (by rw[Fx]<;>omega) (by omega) (by rw[c];simpa using d) ⟨rfl,fin⟩) hs
def E8:iW X (lU X.K):=by
 intro value slice pins s σ H x y v u Q I b c h hs;obtain⟨p,xs,i,z,rfl,rfl,d,e,q⟩:=h;cases b;obtain⟨t,rfl⟩:=c;obtain⟨g,r,pl,m⟩:=I.tuple d;obtain⟨j,h1,h2,n,o,A⟩:=pf e;obtain⟨w,k,a⟩:=r.get h2;have l:=r.length;have B:=i6;have fin:EP X pins σ Q w s:=⟨z,H,I,a,q⟩;exact subscriptTail_builtinR (x:=w) pl.typeIs slot_tuple_getitem.lookup
  (getItem_tuple (j:=j) (Q:=λr s'=>r=w/\EP X pins σ Q r s') pl (by omega) (by omega) (by rw[Fx,←l];exact h1) (by simpa using k) ⟨rfl,fin⟩) hs
def uX:iW X DX:=by
 intro value slice pins s σ H x y v u Q I a b h hs;obtain⟨z,i,c,rfl,rfl,n,d,q⟩:=h;obtain⟨t,rfl⟩:=a;obtain⟨o,rfl⟩:=b;obtain⟨j,h1,h2,p,e,g⟩:=pf d;have k:z.cps.toList.length=z.length:=by simp[Str.length]
 rw[k]at h1 e g;have r:=i6;exact tail_any (typeIs_str s z t) slot_str_getitem.lookup (getItem_str (c:=c) (by have l:decide (i < -(2 ^ 63:Int))=false:=Gn (by omega);have m:decide (i ≥ 2 ^ 63)=false:=Gn (by omega);rw[l,m,Bool.or_false]) (by rw[h1];simpa using h2) ⟨.str ⟨#[c]⟩,H,I.tok _,⟨_,rfl⟩,q⟩) hs
def yp(a:List Va)(n j:Nat)(u:Va):Obj.mapSeq (·.setIfInBounds j u) { cls:=.type "list",data:=.seq a.toArray n }={ cls:=.type "list",data:=.seq (a.set j u).toArray n }:=by simp[Obj.mapSeq]
theorem Inv.lst{pins:List (Vb×Obj)}{σ:St}{H:Hp}{s:Vc}{p:Vb}{xs:List V}(I:Inv X pins σ H s)(h:H p=Vo (.lst xs)):
  ∃(a:List Va) (n:Nat),Vals xs a/\s.heap.get? p=Vo { cls:=.type "list",data:=.seq a.toArray n }/\xs.length<=sizeLine:=by
 obtain⟨z,a,n,r,e⟩:=I.hok p _ h;exact⟨a,n,r,e,z⟩
def Inv.lstUpd{pins:List (Vb×Obj)}{σ:St}{H:Hp}{s:Vc}{p:Vb}{xs ys:List V}{a its':List Va}{n c:Nat}{f:Obj->Obj}(I:Inv X pins σ H s)(h:H p=Vo (.lst xs))
  (ho:s.heap.get? p=Vo { cls:=.type "list",data:=.seq a.toArray n }) (d:f { cls:=.type "list",data:=.seq a.toArray n }={ cls:=.type "list",data:=.seq its'.toArray c }) (r:Vals ys its') (g:ys.length<=sizeLine) (t:Nat) :
  Inv X pins σ (upd H p (.lst ys)) { s with heap:=s.heap.update p f,toks:=t }:=by
 have e:(s.heap.update p f).get? p=Vo { cls:=.type "list",data:=.seq its'.toArray c }:=by rw[Heap.get?_update_self f ho (by rw[d]<;>rfl),d]
 refine I.write (x:=p) (e:=p) (by rw[h];trivial) (.inl rfl) (λb u hb q=>(Heap.get?_update_other _ _ (Ne.symm hb)).trans q) ⟨_,e⟩ ?_;exact⟨g,its',c,r,e⟩
def s9:V->V->V->Hp->(Hp->Prop)->Prop:=λo i v H Q=>∃p xs k j,o=.ref p/\i=.int k/\H p=Vo (.lst xs)/\eY xs.length k=Vo j/\Q (upd H p (.lst (xs.set j v)))
def set_list:vA X s9:=by
 intro pins s σ H o i v B C u Q I w x y h;obtain⟨p,xs,k,j,rfl,rfl,d,z,q⟩:=h;cases w;obtain⟨t,rfl⟩:=x;obtain⟨a,n,r,ho,A⟩:=I.lst d;obtain⟨h1,h2,e,g⟩:=rW z;have b:=r.length;have E:=i6;have l:Inv X pins σ (upd H p (.lst (xs.set j v))) { s with heap:=s.heap.update p (Obj.mapSeq (·.setIfInBounds j u)) }:=
  I.lstUpd d ho (yp a n j u) (r.set y j) (by rw[List.length_set];exact A) s.toks
 by_cases m:0<=k
 ·have c:k.toNat=j:=by rw[seqIndex_of m g]at h1;exact F8 h1
  exact PySem.W.ki_setAt ho m (by omega) (by rw[Fx,←b];exact g) (by rw[c];exact⟨_,l,q⟩)
 ·have c:(k+(a.toArray.size:Int)).toNat=j:=by rw[seqIndex_neg (by omega) e]at h1;rw[Fx,←b];exact F8 h1
  exact PySem.W.ki_setBack ho (by omega) (by rw[Fx,←b];exact e) (by omega) (by rw[c];exact⟨_,l,q⟩)
def yR(lo hi:Option Int)(n:Nat):(sliceBounds lo hi Vp n).1=((HT.cz n 0 lo:Nat):Int)/\(sliceBounds lo hi Vp n).2.1=((HT.cz n n hi:Nat):Int)/\(sliceBounds lo hi Vp n).2.2=1:=by
 refine⟨?_,?_,rfl⟩
 ·cases lo with
  | none=>simp[sliceBounds,HT.cz]
  | some i=>
   simp only[sliceBounds,HT.cz,Option.getD_none,show (1:Int)>0 by decide,if_true];by_cases h:i<0
   ·simp only[h,if_true]<;>omega
   ·simp only[h,if_false]<;>omega
 ·cases hi with
  | none=>simp[sliceBounds,HT.cz]
  | some i=>
   simp only[sliceBounds,HT.cz,Option.getD_none,show (1:Int)>0 by decide,if_true];by_cases h:i<0
   ·simp only[h,if_true]<;>omega
   ·simp only[h,if_false]<;>omega
def EJ(a:List Va)(lo hi:Option Int):slicePick a.toArray lo hi Vp=((a.drop (HT.cz a.length 0 lo)).take (HT.cz a.length a.length hi-HT.cz a.length 0 lo)).toArray:=by obtain⟨h1,h2,b⟩:=yR lo hi a.toArray.size;unfold slicePick;rw[h1,h2,b];simp only[sliceRange_one,pick_run,Fx]<;>rfl
def nB(K:Fn):V->Option Int->Option Int->Hp->VK->Prop:=λx lo hi H Q=>∃a xs,x=.ref a/\ag K H a xs/\∀p,H p=Vp->Q (.ref p) (upd H p (.lst (dO xs lo hi)))
def B0:oh X (nB X.K):=by intro pins s σ H x v j k lo hi sl Q I d hs pl pu h;obtain⟨a,xs,rfl,e,q⟩:=h;cases d;obtain⟨g,r,c,i⟩:=I.list e;have hlen:=r.length;refine⟨"list",_,slot_list_getitem.lookup,c.isList.typeIs,?_⟩;refine wpAny_getItem_list_slice c.isList hs pl pu .none (by simp) ?_ (by rw[Fx]<;>omega);rw[EJ,←hlen];refine⟨.ref s.heap.objs.size,_,I.laid (t':=s.toks) (o:=.lst (dO xs lo hi)) (λb l q=>Fo _ q) (FN _) ?_,rfl,q _ (I.hok.fresh (FN _))⟩;exact⟨FY (CF xs lo hi) i,_,0,(r.drop (HT.cz xs.length 0 lo)).take (HT.cz xs.length xs.length hi-HT.cz xs.length 0 lo),Fp _ rfl⟩
def eV:V->Bool
 | .non=>true
 | .bl _=>true
 | .int _=>true
 | .str _=>true
 | _=>false
def gL:V->V->Bool
 | .non,.non=>true
 | .bl a,.bl b=>a == b
 | .bl a,.int b=>(if a then 1 else 0) == b
 | .int a,.bl b=>a == (if b then 1 else 0)
 | .int a,.int b=>a == b
 | .str a,.str b=>a == b
 | _,_=>false
def AN{A:Vi}{s:Vc}{y x:V}{u v:Va}(e:RelV y u)(c:RelV x v)(h:eV y=true)(g:eV x=true):SeqAt.EqAt A s u v (gL y x):=by
 cases y with
 | non=>
  cases e;cases x with
  | non=>cases c;exact SeqAt.EqAt.same _
  | bl b=>cases c;exact SeqAt.EqAt.none_bool b
  | int b=>obtain⟨t,rfl⟩:=c;exact SeqAt.EqAt.none_int b t
  | str b=>obtain⟨t,rfl⟩:=c;exact SeqAt.EqAt.none_str b t
  | _=>exact absurd (show false=true from g) FI
 | bl a=>
  cases e;cases x with
  | non=>cases c;exact SeqAt.EqAt.bool_none a
  | bl b=>cases c;exact SeqAt.EqAt.bool_bool a b
  | int b=>obtain⟨t,rfl⟩:=c;exact SeqAt.EqAt.bool_int a b t
  | str b=>obtain⟨t,rfl⟩:=c;exact SeqAt.EqAt.bool_str a b t
  | _=>exact absurd (show false=true from g) FI
 | int a=>
  obtain⟨d,rfl⟩:=e;cases x with
  | non=>cases c;exact SeqAt.EqAt.int_none a d
  | bl b=>cases c;exact SeqAt.EqAt.int_bool a d b
  | int b=>obtain⟨t,rfl⟩:=c;exact SeqAt.EqAt.int_int a d b t
  | str b=>obtain⟨t,rfl⟩:=c;exact SeqAt.EqAt.int_str a d b t
  | _=>exact absurd (show false=true from g) FI
 | str a=>
  obtain⟨d,rfl⟩:=e;cases x with
  | non=>cases c;exact SeqAt.EqAt.str_none a d
  | bl b=>cases c;exact SeqAt.EqAt.str_bool a d b
  | int b=>obtain⟨t,rfl⟩:=c;exact SeqAt.EqAt.str_int a d b t
  | str b=>obtain⟨t,rfl⟩:=c;exact SeqAt.EqAt.str_str a d b t
  | _=>exact absurd (show false=true from g) FI
 | _=>exact absurd (show false=true from h) FI
def f6(x:V)(u:Va):Bool:=match u with
 | .none=>gL .non x
 | .bool b=>gL (.bl b) x
 | .int i _=>gL (.int i) x
 | .str z _=>gL (.str z) x
 | _=>false
def xK{x y:V}{u:Va}(r:RelV y u)(f:eV y=true):f6 x u=gL y x:=by
 cases y with
 | non=>cases r;rfl
 | bl b=>cases r;rfl
 | int i=>obtain⟨t,rfl⟩:=r;rfl
 | str z=>obtain⟨t,rfl⟩:=r;rfl
 | _=>exact absurd (show false=true from f) FI
theorem nK{x:V}:∀{xs:List V} {us:List Va},Vals xs us->xs.all eV=true->us.any (f6 x)=xs.any λy=>gL y x
 | _,_,.nil,_=>rfl
 | y::xs,u::us,.cons r t,f=>by rw[List.all_cons,F5]at f;rw[List.any_cons,List.any_cons,xK r f.1,nK t f.2]
theorem mY{A:Vi}{s:Vc}{x:V}{v:Va}(b:RelV x v)(c:eV x=true):∀{xs:List V} {us:List Va},Vals xs us->xs.all eV=true->∀u∈us,SeqAt.EqAt A s u v (f6 x u)
 | _,_,.nil,_=>λu a=>by cases a
 | y::xs,u::us,.cons r t,f=>λd a=>by
  rw[List.all_cons,F5]at f;rcases FH.mp a with rfl|a
  ·rw[xK r f.1];exact AN r b f.1 c
  ·exact mY b c t f.2 d a
def iY(x:V)(xs:List V):Bool:=xs.any λy=>gL y x
def lX(K:Fn)(neg:Bool):R2:=λx y H Q=>∃p xs,y=.ref p/\(ag K H p xs\/aj K H p xs)/\eV x=true/\xs.all eV=true/\Q (.bl (if neg then !iY x xs else iY x xs)) H
def CT:bJ X (compareOp .In) (lX X.K false):=by
 intro pins s σ H x y v u Q I d g h;obtain⟨p,xs,rfl,b,e,fs,q⟩:=h;cases g;rcases b with b|b
 ·obtain⟨a,r,pl,i⟩:=I.list b;refine SeqAt.in_listAt (f6 x) pl.isList (λw c=>mY d e r fs w (by simpa using c)) ⟨.bl _,H,I,rfl,?_⟩;rw[show a.toArray.any (f6 x)=a.any (f6 x) by simp,nK r fs];exact q
 ·obtain⟨a,r,pl,i⟩:=I.tuple b;refine SeqAt.in_tupleAt (f6 x) pl (λw c=>mY d e r fs w (by simpa using c)) ⟨.bl _,H,I,rfl,?_⟩;rw[show a.toArray.any (f6 x)=a.any (f6 x) by simp,nK r fs];exact q
def EA:cy X (.builtin "len") (λxs H Q=>∃p ys,xs=[.ref p]/\(ag X.K H p ys\/aj X.K H p ys)/\Q (.int ys.length) H):=by
 intro pins s σ H xs us Q I r h;obtain⟨p,ys,rfl,a,q⟩:=h;obtain⟨u,rfl,d⟩:=vals1 r;cases d;have g:=i6;rcases a with a|a
 ·obtain⟨b,c,pl,e⟩:=I.list a;have hlen:=c.length;exact Calls.call_len_list pl.isList (by simp only[Fx]<;>omega) ⟨.int ys.length,H,I.tok _,⟨s.toks+1,by rw[Fx,hlen]⟩,q⟩
 ·obtain⟨b,c,pl,e⟩:=I.tuple a;have hlen:=c.length;exact len_tuple pl (by simp only[Fx]<;>omega) ⟨.int ys.length,H,I.tok _,⟨s.toks+1,by rw[Fx,hlen]⟩,q⟩
def yw:cy X (.builtin "len") (λxs H Q=>∃z,xs=[.str z]/\z.length<=sizeLine/\Q (.int z.length) H):=by intro pins s σ H xs us Q I r h;obtain⟨z,rfl,a,q⟩:=h;obtain⟨u,rfl,t,rfl⟩:=vals1 r;have b:=i6;exact len_str (by omega) ⟨.int z.length,H,I.tok _,⟨_,rfl⟩,q⟩
def Ba:cy X (.type "tuple") (λxs H Q=>∃p ys,xs=[.ref p]/\((ag X.K H p ys/\∀l,H l=Vp->Q (.ref l) (upd H l (.tup ys)))\/(aj X.K H p ys/\Q (.ref p) H))):=by
 intro pins s σ H xs us Q I r h;obtain⟨p,ys,rfl,h⟩:=h;obtain⟨u,rfl,j⟩:=vals1 r;cases j;rcases h with⟨c,q⟩|⟨c,q⟩
 ·obtain⟨a,d,pl,g⟩:=I.list c;have hlen:=d.length;refine call_tuple_list pl.isList (λh' kp=>?_) (by simp only[Fx]<;>omega);have i:Inv X pins σ H { s with heap:=h' }:=I.kept (t':=s.toks) kp;have k:Inv X pins σ (upd H h'.objs.size (.tup ys)) { s with heap:=h'.push { cls:=.type "tuple",data:=.seq a.toArray } }:=
   i.laid (t':=s.toks) (λb o e=>Fo _ e) (FN _) (show bE X.prog X.w _ _ _ (.tup ys)from⟨g,a,d,IsTup.new _ _⟩)
  exact⟨.ref h'.objs.size,_,k,rfl,q _ (i.hok.fresh (FN _))⟩
 ·obtain⟨a,d,pl,g⟩:=I.tuple c;exact call_tuple_same pl ⟨.ref p,H,I,rfl,q⟩
def iw(K:Fn)(T:String)(x:V)(H:Hp):Prop:=match x with
 | .str _=>T = "str"
 | .int _=>T = "int"
 | .ref p=>(T = "list"/\∃xs,ag K H p xs)\/(T = "tuple"/\∃o,K.lookup p=Vo o/\o.cls=.type "tuple"/\o.dict=Vp) ∨
   (T = "dict"/\((∃kvs,H p=Vo (.dK kvs))\/∃kvs,H p=Vo (.dT kvs)))\/(T = "set"/\∃S n,H p=Vo (.set S n))
 | _=>False
def sf{pins:List (Vb×Obj)}{σ:St}{H:Hp}{s:Vc}{T:String}{x:V}{v:Va}(I:Inv X pins σ H s)(r:RelV x v)(ty:iw X.K T x H):
  s.TypeIs v T/\∀a,v=.ref a->∃g,s.heap.get? a=Vo g/\g.dict=Vp:=by
 cases x with
 | str z=>
  obtain⟨t,rfl⟩:=r;cases(show T = "str" from ty);exact⟨typeIs_str s z t,λ_ e=>nomatch e⟩
 | int i=>
  obtain⟨t,rfl⟩:=r;cases(show T = "int" from ty);exact⟨typeIs_int s i t,λ_ e=>nomatch e⟩
 | ref p=>
  cases r;rcases ty with⟨rfl,xs,h⟩|⟨rfl,o,b,j,hd⟩|⟨rfl,b⟩|⟨rfl,S,n,b⟩
  ·obtain⟨k,_,pl,_⟩:=I.list h;refine⟨pl.isList.typeIs,λa e=>?_⟩;cases e;obtain⟨o,n,e,c,hd,_⟩:=pl;exact⟨o,e,hd⟩
  ·refine⟨⟨o,I.kIn p o b,j⟩,λa e=>?_⟩;cases e;exact⟨o,I.kIn _ o b,hd⟩
  ·have z:∃o,s.heap.get? p=Vo o/\o.ExactDict:=by
    rcases b with⟨kvs,b⟩|⟨kvs,b⟩
    ·obtain⟨_,_,_,_,o,_,_,e,ex,_⟩:=I.hok p _ b;exact⟨o,e,ex⟩
    ·obtain⟨_,_,_,_,o,_,_,e,ex,_⟩:=I.hok p _ b;exact⟨o,e,ex⟩
   obtain⟨o,e,ex⟩:=z;refine⟨⟨o,e,ex.1⟩,λa d=>?_⟩;cases d;exact⟨o,e,ex.2.1⟩
  ·obtain⟨o,_,_,_,e,ex,_⟩:=I.hok p _ b;refine⟨⟨o,e,ex.1⟩,λa d=>?_⟩;cases d;exact⟨o,e,ex.2.1⟩
 | _=>exact False.elim ty
def ou(K:Fn)(T:String)(r:V->List V->Hp->VK->Prop)(to:TE):TE:=λσ H Q=>to σ H λx H1=>iw K T x H1/\r x [] H1 Q
def oE(K:Fn)(T:String)(r:V->List V->Hp->VK->Prop)(to:TE)(t:TA):TE:=λσ H Q=>to σ H λx H1=>iw K T x H1/\t σ H1 λxs H2=>r x xs H2 Q
variable {o e:Vk} {es:List Vk} {to:TE} {t:TA} {name:Vn} {apos cpos:Pos} {T id:String} {r:V->List V->Hp->VK->Prop}
def Ad(e:PlainAttrs T)(slot:Slot T name id)(c:typeOf (.builtin id)=pure (.type "method_descriptor"))(g:jm X id r)(ho:PE X o to)
  (a:attributeBase o name X.env (eval o X.env)=eval o X.env:=by rfl) (b:(apos.endLine == cpos.line)=true:=by rfl):PE X (.Call (.Attribute o name apos) [] [] cpos) (ou X.K T r to):=by
 intro pins s σ H Q I h;refine wpAny_Call_method0_late a b (aD (ho pins s σ H _ I h) λv s1 ⟨x,H1,d,r1,ty,i⟩=>?_);obtain⟨h1,h2⟩:=sf d r1 ty;exact⟨T,id,e,slot,c,h1,h2,Calls.callWith_builtin rfl (PySem.evalArgs_none (g pins s1 σ H1 x [] v [] Q d r1 .nil i))⟩
def DE(j:PlainAttrs T)(slot:Slot T name id)(g:typeOf (.builtin id)=pure (.type "method_descriptor"))(k:jm X id r)(ho:PE X o to)(ha:PA X (e::es) t)
  (b:attributeBase o name X.env (eval o X.env)=eval o X.env:=by rfl)
  (d:((backTo cpos (starEach (e::es) X.env)).all (λx=>!x.1) && (backToKw cpos (keywordEach [] X.env)).all (λx=>x.1.isSome)
   && decide ((e::es).length+([]:List Keyword).length+(if([]:List Keyword).isEmpty then 0 else 1)<30))=true:=by rfl)
  (c:(apos.endLine == cpos.line)=true:=by rfl) (hs:starEach (e::es) X.env=(false,eval e X.env)::starEach es X.env:=by rfl) (a:(backTo cpos (starEach es X.env)).any (·.1)=false:=by rfl) :
  PE X (.Call (.Attribute o name apos) (e::es) [] cpos) (oE X.K T r to t):=by
 intro pins s σ H Q I h;refine wpAny_Call_method_late b d c rfl (aD (ho pins s σ H _ I h) λv s1 ⟨x,H1,i,r1,ty,l⟩=>?_);obtain⟨h1,h2⟩:=sf i r1 ty;refine⟨T,id,j,slot,g,h1,h2,?_⟩;have hA:=ha cpos pins s1 σ H1 _ i l;rw[hs]at hA ⊢;refine Calls.callWith_builtin (by show(false || (backTo cpos (starEach es X.env)).any (·.1))=false;rw[a]<;>rfl) (Calls.evalArgs_plain ?_);exact aD hA λus s2 ⟨vs,H2,m,n,p⟩=>k pins s2 σ H2 x vs v us Q m r1 n p
end
def md(X:Cx)(id:String)(r:V->List V->Hp->VK->Prop):Prop:=
 ∀(pins:List (Vb×Obj)) (s:Vc) (σ:St) (H:Hp) (x:V) (xs:List V) (v:Va) (us:List Va) (Q:VK),Inv X pins σ H s->RelV x v->Vals xs us->r x xs H Q →
  Vf (Vg X.prog X.w) X.A (call (.builtin id) (v::us)) (EP X pins σ Q) X.xe s
def Vals.one:∀{x:V} {us:List Va},Vals [x] us->∃u,us=[u]/\RelV x u:=vals1
def Vals.zero:∀{us:List Va},Vals [] us->us=[]
 | _,.nil=>rfl
theorem Vals.dropLast{xs:List V}{us:List Va}(h:Vals xs us):Vals xs.dropLast us.dropLast:=by
 induction h with
 | nil=>exact .nil
 | cons r t a=>
  cases t with
  | nil=>exact .nil
  | cons q b=>exact .cons r a
theorem Vals.rep{xs:List V}{us:List Va}(h:Vals xs us):∀k:Nat,Vals (Gb k xs).flatten (Gb k us).flatten
 | 0=>.nil
 | k+1=>by rw[List.replicate_succ,List.replicate_succ,List.flatten_cons,List.flatten_cons];exact Vals.append h (Vals.rep h k)
def yG{α:Type}(l:List α):l.eraseIdx (l.length-1)=l.dropLast:=by
 induction l with
 | nil=>rfl
 | cons a r c=>
  cases r with
  | nil=>rfl
  | cons b r=>
   have e:(a::b::r).length-1=((b::r).length-1)+1:=by have h1:(a::b::r).length=r.length+2:=rfl;have h2:(b::r).length=r.length+1:=rfl;omega
   rw[e,List.eraseIdx_cons_succ,c]
   all_goals rfl
theorem foldl_rep(a:List Va):∀(k:Nat) (acc:List Va),
  List.foldl (λx1 b=>x1++b) acc.toArray (Gb k a.toArray)=(acc++(Gb k a).flatten).toArray
 | 0,acc=>by simp
 | k+1,acc=>by
  have e:acc.toArray++a.toArray=(acc++a).toArray:=by simp
  have c:(acc++a)++(Gb k a).flatten=acc++(Gb (k+1) a).flatten:=by rw[List.replicate_succ,List.flatten_cons,List.append_assoc]
  rw[←c,←foldl_rep a k (acc++a),←e,List.replicate_succ,List.foldl_cons]
section
variable {X:Cx} {pins:List (Vb×Obj)} {σ:St} {H:Hp} {s:Vc} {l b:Vb} {xs ys zs:List V}
def Inv.lset{a its':List Va}{n:Nat}{f:Array Va->Array Va}{t':Nat}(I:Inv X pins σ H s)(b:H l=Vo (.lst xs))
  (e:s.heap.get? l=Vo { cls:=.type "list",data:=.seq a.toArray n }) (c:f a.toArray=its'.toArray) (d:Vals ys its') (g:ys.length<=sizeLine) :
  Inv X pins σ (upd H l (.lst ys)) { s with heap:=s.heap.update l (Obj.mapSeq f),toks:=t' }:=by
 have q:=PySem.IsL.update e f;rw[c]at q;refine I.write (x:=l) (e:=l) (by rw[b];exact trivial) (.inl rfl) (λi u hb h=>(Heap.get?_update_other s.heap (Obj.mapSeq f) (Ne.symm hb)).trans h) ⟨_,q⟩ ?_;exact⟨g,its',_,d,q⟩
def Inv.lnew{a:List Va}{t':Nat}(I:Inv X pins σ H s)(b:Vals ys a)(c:ys.length<=sizeLine):
  Inv X pins σ (upd H s.heap.objs.size (.lst ys)) { s with heap:=s.heap.push { cls:=.type "list",data:=.seq a.toArray },toks:=t' }:=
 I.laid (λ_ _ q=>Fo _ q) (FN _) ⟨c,a,0,b,Fp _ rfl⟩
theorem Inv.fresh(I:Inv X pins σ H s):H s.heap.objs.size=Vp:=I.hok.fresh (FN _)
def Inv.lstM(I:Inv X pins σ H s)(b:H l=Vo (.lst xs)):xs.length<=sizeLine/\∃(a:List Va) (n:Nat),Vals xs a/\xs.length=a.length/\s.heap.get? l=Vo { cls:=.type "list",data:=.seq a.toArray n }:=by obtain⟨z,a,n,r,e⟩:=I.hok l _ b;exact⟨z,a,n,r,r.length,e⟩
def sA{n:Nat}(h:n<=sizeLine):Builtin.List.listTooLong n=false:=by unfold Builtin.List.listTooLong;exact Gn (by omega)
end
section
variable {X:Cx}
def rS:V->List V->Hp->VK->Prop:=λx vs H Q=>∃l xs y,x=.ref l/\vs=[y]/\H l=Vo (.lst xs)/\xs.length<sizeLine/\Q .non (upd H l (.lst (xs++[y])))
def bZ:md X "list.append" rS:=by intro pins s σ H x vs v us Q I c d h;obtain⟨l,xs,y,rfl,rfl,b,i,q⟩:=h;cases c;obtain⟨u,rfl,g⟩:=d.one;obtain⟨z,a,n,r,j,e⟩:=I.lstM b;refine call_meets F.slot_list_append ⟨_,e,rfl⟩ F.entry_list_append (F.args_list_append_2 _ _) (PySem.list_append l a.toArray n u (by rw[Fx];omega)) ⟨e,?_⟩;refine⟨.non,_,I.lset (its':=a++[u]) b e (by simp) (r.append (.cons g .nil)) ?_,rfl,q⟩;rw[FK,List.length_singleton];omega
def AE:V->List V->Hp->VK->Prop:=λx vs H Q=>∃l b xs zs,x=.ref l/\vs=[.ref b]/\H l=Vo (.lst xs)/\H b=Vo (.lst zs)/\xs.length+zs.length<=sizeLine/\Q .non (upd H l (.lst (xs++zs)))
def Bb:md X "list.extend" AE:=by
 intro pins s σ H x vs v us Q I j k h;obtain⟨l,b,xs,zs,rfl,rfl,i,m,B,q⟩:=h;cases j;obtain⟨u,rfl,o⟩:=k.one;cases o;obtain⟨z,c,n,r,C,e⟩:=I.lstM i;obtain⟨z2,a,p,w,y,A⟩:=I.lstM m;have g:c.toArray.size+a.toArray.size<=sizeLine:=by rw[Fx,Fx];omega
 have d:¬(!c.toArray.isEmpty && Builtin.List.listTooLong (c.toArray.size+a.toArray.size))=true:=by rw[sA g,Bool.and_false];exact FI
 refine call_meets F.slot_list_extend ⟨_,e,rfl⟩ F.entry_list_extend (F.args_list_extend_2 _ _)
  (AutoSeq1.list_extend_list_list_0 l c.toArray n b a.toArray p d (by rw[Fx];omega) (by omega)) ⟨e,A,?_⟩
 refine⟨.non,_,I.lset (its':=c++a) i e (by simp) (r.append w) ?_,rfl,q⟩;rw[FK];omega
def CS:V->List V->Hp->VK->Prop:=λx vs H Q=>∃l xs y,x=.ref l/\vs=[]/\H l=Vo (.lst xs)/\xs[xs.length-1]?=Vo y/\Q y (upd H l (.lst xs.dropLast))
def BL:md X "list.pop" CS:=by
 intro pins s σ H x vs v us Q I g i h;obtain⟨l,xs,y,rfl,rfl,d,j,q⟩:=h;cases g;have b:=i.zero;subst b;obtain⟨z,a,n,r,k,e⟩:=I.lstM d;obtain⟨u,m,o⟩:=r.get j;have c:a.toArray[a.toArray.size-1]?=some u:=by show a.toArray[a.length-1]?=some u;rw[←Array.getElem?_toList,←k];exact m
 refine call_meets F.slot_list_pop ⟨_,e,rfl⟩ F.entry_list_pop (F.args_list_pop_1 _) (MeetsSeq.list_pop_last l a.toArray n u c (by rw[Fx];omega)) ⟨e,?_⟩;refine⟨y,_,I.lset (its':=a.dropLast) d e ?_ r.dropLast ?_,o,q⟩
 ·show a.toArray.eraseIdxIfInBounds (a.toArray.size-1)=a.dropLast.toArray;rw[Fx,List.eraseIdxIfInBounds_toArray,yG]
 ·rw[List.length_dropLast];omega
def uN:R2:=λx y H Q=>∃l b xs zs,x=.ref l/\y=.ref b/\H l=Vo (.lst xs)/\H b=Vo (.lst zs)/\xs.length+zs.length<=sizeLine/\∀p,H p=Vp->Q (.ref p) (upd H p (.lst (xs++zs)))
def lY:bJ X (binaryOp .Add) uN:=by
 intro pins s σ H x y v u Q I d g h;obtain⟨l,b,xs,zs,rfl,rfl,i,j,w,q⟩:=h;cases d;cases g;obtain⟨z,c,n,r,A,e⟩:=I.lstM i;obtain⟨z2,a,B,k,m,o⟩:=I.lstM j;refine PySem.P.add_list e o ?_ (by rw[Fx,Fx];omega);have p:c.toArray++a.toArray=(c++a).toArray:=by simp
 rw[p];exact⟨.ref _,_,I.lnew (t':=s.toks) (r.append k) (by rw[FK];omega),rfl,q _ I.fresh⟩
def vy:R2:=λx y H Q=>∃l k xs,x=.ref l/\y=.int k/\H l=Vo (.lst xs)/\-(2 ^ 63)<=k/\k<2 ^ 63/\xs.length*k.toNat<=sizeLine ∧
 ∀p,H p=Vp->Q (.ref p) (upd H p (.lst (Gb k.toNat xs).flatten))
def len_rep{α:Type}(xs:List α)(k:Nat):(Gb k xs).flatten.length=k*xs.length:=by
 induction k with
 | zero=>simp
 | succ k a=>rw[List.replicate_succ,List.flatten_cons,FK,a,Nat.succ_mul,Nat.add_comm]
def iZ:bJ X (binaryOp .Mult) vy:=by
 intro pins s σ H x y v u Q I p w h;obtain⟨l,k,xs,rfl,rfl,A,h1,h2,o,q⟩:=h;cases p;obtain⟨t,rfl⟩:=w;obtain⟨z,b,n,r,B,e⟩:=I.lstM A;have hlen:b.toArray.size*k.toNat<=sizeLine:=by rw[Fx,←B];exact o
 have d:¬b.toArray.size*k.toNat>(2 ^ 63-1) / 8:=by
  have:(sizeLine:Nat)<=(2 ^ 63-1) / 8:=by decide
  omega
 have g:¬(!Builtin.List.listFitsIndex k)=true:=by rw[fitsIndex_both h1 h2];exact FI
 have c:¬Builtin.List.listTooLong (b.toArray.size*k.toNat)=true:=by rw[sA hlen];exact FI
 have i:List.foldl (λx1 j=>x1++j) #[] (Gb (if b.toArray.isEmpty=true then 0 else k.toNat) b.toArray)=(Gb k.toNat b).flatten.toArray:=by
  have C:∀m:Nat,List.foldl (λx1 j=>x1++j) #[] (Gb m b.toArray)=(Gb m b).flatten.toArray:=λm=>by have:=foldl_rep b m [];rw[List.nil_append]at this;exact this
  rw[C];cases b with
  | nil=>simp
  | cons a E=>rw[Gq (by simp)]
 refine wpAny_binaryOp_repeat_ref (T:="list") (U:="int") (by decide) ⟨_,e,rfl⟩ (λs'=>typeIs_int s' k t) noFill_list_mul F.fills_int_mul F.slot_int_rmul repeat_list F.slot_int_index.lookup
  (call_meets F.slot_int_rmul (typeIs_int s k t) F.entry_int_rmul (F.args_int_rmul_2 _ _) (int___rmul___int_list k t l b.toArray n)
   ⟨e,rfl,⟨_,e,rfl⟩,call_meets F.slot_list_mul ⟨_,e,rfl⟩ F.entry_list_mul (F.args_list_mul_2 _ _) (AutoListH.list___mul___list_int_3 l b.toArray n k t g d c) ⟨e,?_⟩⟩)
 rw[i];exact⟨.ref _,_,I.lnew (t':=s.toks) (r.rep k.toNat) (by rw[len_rep,Nat.mul_comm];exact o),rfl,q _ I.fresh⟩
end
section
variable {prog:Vd} {w:Ve} {A:Vi} {E:Va->Vc->Prop} {s:Vc}
end
section
variable {X:Cx}
end
end L2
namespace Att
open PySem PySem.W PySem.Calls PyProof.Rows
def Ab{P:Params}{h:Vh}:∀(ns:List Int) (vs:List Va),WellAll P h vs (ns.map WData.int)->IntsAre vs ns:=by
 intro ns;induction ns with
 | nil=>
  intro vs w;rw[List.map_nil]at w;cases w;exact .nil
 | cons n ns c=>
  intro vs w;rw[List.map_cons]at w;cases w with
  | cons a b=>
   cases a;exact .cons _ _ (c _ b)
def zF{l:OpenLaw}{n:Nat}(k:l.most=Vo n){P:Params}{h:Vh}{args:List WData}{vals:List Va}
  (b:l.row.toRowW.claim.pre args=true) (g:WellAll P h vals args) :
  ∃a vs ns,vals=[Value.ref a]/\args=[WData.list (ns.map WData.int)]/\h.get? a=Vo { cls:=.type "list",data:=.seq vs.toArray }/\IntsAre vs ns/\ns.length<=n:=by
 have i:WShape.hasAll [] args [.list .int]=true:=(pre_splitW b).1;have j:l.pre.holds [] { args:=args }=true:=(pre_splitW b).2;obtain⟨d,r,rfl,h1,h2⟩:=hasAllW_cons i;obtain rfl:=hasAllW_nil h2;obtain⟨xs,rfl,m⟩:=hasW_list h1;obtain⟨ns,rfl⟩:=items_int m;have hlen:ns.length<=n:=by
  unfold OpenLaw.pre at j;have c:(WTm.not (.lt (.lit (.int (n:Int))) (.len (.arg 0)))).holds [] { args:=[.list (ns.map .int)] }=true:=by have c:=(holds_andW j).1;rw[k]at c;exact c
  have e:=condW_of c (w_not (w_lt w_lit (w_len_list (w_arg rfl))));rw[Fs]at e;refine Nat.le_of_not_lt λq=>?_;have o:(n:Int)<((ns.length:Nat):Int):=by omega
  first
   | (rw[Gp o]at e;exact absurd e (by decide))
   | (simp at e;omega)
 cases g with
 | cons w1 p=>
  cases p;cases w1 with
  | list ho hall=>exact⟨_,_,ns,rfl,rfl,ho,Ab ns _ hall,hlen⟩
def A1(l:OpenLaw)(args:List WData):l.row.toRowW.claim.post args (.bool true) args=true:=
 postW_of (r:=l.row.toRowW) (X:=(true == true))
  (show WShape.has [] (.bool true) .bool=true by first|rfl|decide|simp [WShape.has,WShape.arms,WShape.armsAll])
  (show(WTm.eq .res (.lit (.bool true))).value [] { args:=args,res:=Vo (.bool true),after:=args }=Vo (.bool (true == true))from w_eq_bool (w_res rfl) w_lit) rfl
def Bk{l:OpenLaw}{n:Nat}{q:Vd}{loose:List Vn}{m:(Vn->Option Va)->Vh->Prop}{p:Ve->Vh->Prop}{d:DefRec}
  (v:l.most=Vo n) (h:d.params.defaults=[])
  (call:∀(w:Ve) (s₀ b:Vc) (mg mb:Vn->Option Va) (c:Vb) (o:Obj) (pm cd doc:Va) (a:Vb) (vs:List Va) (ns:List Int),
   Ground q loose [] m w s₀ mg mb b.heap->p w b.heap →
   b.heap.get? c=Vo o->o.data=.func (docDef d.name d.params d.body d.scope pm cd doc)->b.heap.CodeRec cd d.name->mg d.name=Vo (.ref c) →
   b.heap.get? a=Vo { cls:=.type "list",data:=.seq vs.toArray }->IntsAre vs ns->ns.length<=n->b.gens = #[] →
   codeAny (Vg l.prog w) callerA (.call (.ref c) ⟨[.ref a],[]⟩) (λr s'=>r=.ok (.ret (.bool true))/\OldK b.heap s'.heap/\s'.os=b.os/\AllBare s'.gens) b) :
  WalkO q loose m p l.row.toRowW d [] (λf vs=>PySem.call f vs):=by
 intro w s₀ b mg mb G Y c o pm cd doc x kV ho hd i s j y args vals as e u z k A;obtain rfl:x=.none:=Dflts.none s h;obtain rfl:kV=.none:=Dflts.noKw s;obtain⟨a,vs,ns,rfl,rfl,g,hints,hlen⟩:=zF v e k;refine enter_call (codeAny_mono (call w s₀ b mg mb c o pm cd doc a vs ns G Y ho (fd_plain hd) i j g hints hlen y) λr s' B=>?_);obtain⟨rfl,h2,C,E⟩:=B;exact⟨.inl ⟨.bool true,.bool true,[],rfl,λ_=>rfl,.bool true,A1 l _,λ_=>⟨List.Pairwise.nil,λ_ F=>(nomatch F)⟩⟩,h2,C,E⟩
section
variable {prog:Vd} {w:Ve} {A:Vi} {E:Va->Vc->Prop} {s:Vc} {K:Frag}
end
end Att
namespace L2
open PySem PySem.Spec PyProof.Rows
theorem tK:∀{vs:List Va} {ns:List Int},IntsAre vs ns->Vals (ns.map V.int) vs
 | _,_,.nil=>.nil
 | _,_,.cons n t h=>.cons ⟨t,rfl⟩ (tK h)
def gq(s:Vl):Arguments:=match s with
 | .FunctionDef _ a _ _ _ _ _ _ _ _=>a
 | _=>{ posonlyargs:=[],args:=[],vararg:=Vp,kwonlyargs:=[],kw_defaults:=[],kwarg:=Vp,defaults:=[] }
def eR(s:Vl):List Vl:=match s with
 | .FunctionDef _ _ b _ _ _ _ _ _ _=>b
 | _=>[]
def aH(s:Vl):Scope:=match s with
 | .FunctionDef _ _ _ _ _ _ sc _ _ _=>sc
 | _=>{ kind:=.function,names:=[],isGenerator:=false,isCoroutine:=false }
abbrev dI:fZ:=λ_ _ _ _ _ _=>False
abbrev E0:XK:=λ_ _ _=>False
def CD{X:Cx}:Passes dI X E0:=λ_ _ _ _ _ _ _ h=>h.elim
structure Fun(K:Fn)(x qual:Vn)(st:Vl)(f:Vb)(fd:Vm):Prop where
 ex:∃(oc:Va) (od:Option Vb) (kV doc pm:Va) (an:Option Vb) (cdv ct:Va) (osl:Array (Option Va)),
  fd=PySem.W.fnOf x qual (gq st) (eR st) (aH st) .none kV doc pm an cdv ct/\K.lookup f=Vo ⟨oc,od,.func fd,osl⟩/\PySem.W.codeIn K cdv qual=true
 kp:PySem.W.keepIn K (.ref f)=true
section
variable {P:Vd} {w:Ve} {K:Fn} {mg:Vn->Option Va} {base:Vh}
def Fun.ok{x qual:Vn}{st:Vl}{f:Vb}{fd:Vm}{N ps:List Vn}{k:Nat}{sp:Sp}(F:Fun K x qual st f fd)(S:FnScope N ps (aH st))(len:∀vs H Q E,sp vs H Q E->vs.length=ps.length)
  (a:∀(cdv:Va) (A:Vi) (outer:List Env) (s:Vc) (H:Hp) (vs:List V) (Q:VK) (E:XK),Room k (A.deeper (envOfC qual (aH st) s.heap.objs.size f cdv))->sp vs H Q E →
   ∃t,cP (gG dI P w K mg base N qual (aH st) f cdv A outer s H E).nox (eR st) t/\t { nx:=λ_ H'=>Q .non H',rt:=Q } (start N vs) H):FnOk P w K mg base dI (k+1) f fd ps sp:=by
 obtain⟨oc,od,kV,doc,pm,an,cdv,ct,osl,rfl,c,b⟩:=F.ex;refine vv c b S len λA outer s H vs Q E d hsp=>?_;obtain⟨t,h,q⟩:=a cdv A outer s H vs Q E d hsp;exact⟨t,h.nox,q⟩
def Fun.binds{x qual:Vn}{st:Vl}{f:Vb}{fd:Vm}{ps:List Vn}(F:Fun K x qual st f fd)
  (h:∀(kV doc pm:Va) (an:Option Vb) (cdv ct:Va) (us:List Va),us.length=ps.length->bindArgs (PySem.W.fnOf x qual (gq st) (eR st) (aH st) .none kV doc pm an cdv ct) ⟨us,[]⟩=pure (ps.zip us)):Binds K fd ps []:=by
 obtain⟨oc,od,kV,doc,pm,an,cdv,ct,osl,rfl,b,a⟩:=F.ex;exact .all (h kV doc pm an cdv ct)
def vY{x qual:Vn}{st:Vl}{f:Vb}{oc:Va}{od an:Option Vb}{osl:Array (Option Va)}{kV doc pm cdv ct:Va}(l:K.lookup f=Vo ⟨oc,od,.func (PySem.W.fnOf x qual (gq st) (eR st) (aH st) .none kV doc pm an cdv ct),osl⟩)
  (c:PySem.W.codeIn K cdv qual=true) (k:PySem.W.keepIn K (.ref f)=true):Fun K x qual st f (PySem.W.fnOf x qual (gq st) (eR st) (aH st) .none kV doc pm an cdv ct):=⟨⟨oc,od,kV,doc,pm,an,cdv,ct,osl,rfl,l,c⟩,k⟩
end
def qM{A:Vi}{k:Nat}(a:Room k A):A.units+1<cLine:=Nat.lt_of_le_of_lt (Nat.add_le_add_left (by decide:1<=64) _) a.units
section
variable {X:Cx}
def pv(i:Nat){x:Vn}{pos:Pos}(b:X.N[i]?=Vo x:=by rfl)(c:lQ X.env.scope x:=by first|exact Or.inl rfl|exact Or.inr (Or.inl rfl)|exact Or.inr (Or.inr rfl))(hd:(x == ("__debug__":Vn))=false:=by decide)
  (a:(x == ("__classdict__":Vn))=false:=by decide):PE X (.Name x pos) (n5 i):=AD b c hd a
end
def aw{A B:Prop}(h:B):if false=true then A else B:=by rw[Gq FI];exact h
def av{A B:Prop}(h:A):if true=true then A else B:=by rw[Gr rfl];exact h
def fP{c A B:Prop}[Decidable c](h1:c->A)(h2:¬c->B):if c then A else B:=by
 by_cases h:c
 ·rw[Gr h];exact h1 h
 ·rw[Gq h];exact h2 h
structure Blk where
 s:Vc
 H:Hp
 fp:List Vb
 C:Vb
def cX(names:List (Vn×NameKind))(cells:List (Vn×Vb)):List (Vn×Vb):=
 names.foldl (λacc p=>if p.2 == .free then(p.1,(cells.lookup p.1).getD 0)::acc else acc) []
def Aa(sc out:Scope):Bool:=sc.names.all λp=>p.2 != .cell && (p.2 != .local || sc.names.lookup p.1 == Vo .local) && (p.2 != .free || out.names.lookup p.1 == Vo .cell || out.names.lookup p.1 == Vo .free)
def kA(sc:Scope)(N:List Vn)(js:List Nat):Bool:=js.all λj=>decide (j<N.length) && (sc.names.lookup (N.getD j "") == Vo .free)
def df(n:Nat)(js:List Nat)(σ:St):St:=Gb n Vp++js.map λj=>(σ[j]?).join
theorem kX(cells:List (Vn×Vb)):∀(names:List (Vn×NameKind)) (acc:List (Vn×Vb)) (x:Vn) (c:Vb),
  (names.foldl (λacc p=>if p.2 == .free then(p.1,(cells.lookup p.1).getD 0)::acc else acc) acc).lookup x=Vo c →
  ((x,NameKind.free)∈names/\c=(cells.lookup x).getD 0)\/acc.lookup x=Vo c
 | [],acc,x,c,h=>.inr h
 | (n,k)::r,acc,x,c,h=>by
  rw[List.foldl_cons]at h;rcases kX cells r _ x c h with⟨h1,h2⟩|h1
  ·exact .inl ⟨Fv _ h1,h2⟩
  ·cases a:(k == NameKind.free)with
   | false=>
    simp only[a]at h1;exact .inr h1
   | true=>
    simp only[a,if_true]at h1;rw[Gh]at h1;cases b:(x == n)with
    | false=>rw[b]at h1;exact .inr h1
    | true=>
     rw[b]at h1;have d:x=n:=by simpa using b
     have e:k=.free:=by simpa using a
     subst d e;exact .inl ⟨Fy,(F8 h1).symm⟩
theorem vD(cells:List (Vn×Vb)):∀(names:List (Vn×NameKind)) (acc:List (Vn×Vb)) (x:Vn),
  ((x,NameKind.free)∈names\/(acc.lookup x).isSome=true)->((names.foldl (λacc p=>if p.2 == .free then(p.1,(cells.lookup p.1).getD 0)::acc else acc) acc).lookup x).isSome=true
 | [],acc,x,h=>by
  rcases h with h|h
  ·simp at h
  ·exact h
 | (n,k)::r,acc,x,h=>by
  rw[List.foldl_cons];apply vD cells r;rcases h with h|h
  ·rcases FH.mp h with e|h
   ·right;cases e;simp[Gh]
   ·exact .inl h
  ·right;cases a:(k == NameKind.free)with
   | false=>simpa[a]using h
   | true=>
    simp only[a,if_true,Gh];cases b:(x == n)with
    | true=>rfl
    | false=>exact h
def nR{env:Env}{sc:Scope}(h:∀p∈sc.names,p.2=.free->∃c,env.cells.lookup p.1=Vo c):closureFor sc env=pure (cX sc.names env.cells):=by
 have go:∀(names:List (Vn×NameKind)) (acc:List (Vn×Vb)),(∀p∈names,p.2=NameKind.free->∃c,env.cells.lookup p.1=Vo c) →
   (forIn names acc λ(p:Vn×NameKind) (r:List (Vn×Vb))=>(match p with|(name,kind)=>if(kind == NameKind.free)=true then do let c ←cellOf env name;pure (ForInStep.yield ((name,c)::r))else pure (ForInStep.yield r):Sem _)) =
   pure (names.foldl (λacc p=>if p.2 == .free then(p.1,(env.cells.lookup p.1).getD 0)::acc else acc) acc):=by
  intro names;induction names with
  | nil=>intro acc _;rfl
  | cons p r i=>
   intro acc a;obtain⟨n,k⟩:=p;rw[List.forIn_cons,List.foldl_cons];cases b:(k == NameKind.free)with
   | false=>
    simp only[b,Ge,if_false];exact i acc λq d=>a q (Fv _ d)
   | true=>
    obtain⟨c,j⟩:=a (n,k) Fy (by simpa using b);have e:cellOf env n=pure c:=by unfold cellOf;rw[show env.cells.lookup n=Vo c from j]
    simp only[b,if_true,e];have g:env.cells.lookup n=Vo c:=j;rw[g];exact i _ λq d=>a q (Fv _ d)
 unfold closureFor cX;have:=go sc.names [] h;simp only[this];rfl
def jD(X:Cx)(ifs:List Vk)(t:TT):Prop:=
 ∀(pins:List (Vb×Obj)) (s:Vc) (σ:St) (H:Hp) (Q:Bool->Hp->Prop),Inv X pins σ H s->t σ H Q →
  Vf (Vg X.prog X.w) X.A (forIn ifs true λc r=>if r=true then do let ok ←isTrue c X.env (eval c X.env);pure (ForInStep.yield ok)else pure (ForInStep.yield r)) (TP X pins σ Q) X.xe s
def vN:TT:=λ_ H Q=>Q true H
def cn{X:Cx}:jD X [] vN:=λ_ _ _ H _ I h=>wpAny_tests_nil ⟨H,I,h⟩
def dw{X:Cx}{c:Vk}{t:TT}(h:PT X c t):jD X [c] t:=λpins s σ H Q I a=>wpAny_tests_one (h pins s σ H Q I a)
def BB{prog:Vd}{w:Ve}{A:Vi}{R:Result->Vc->Prop}{j:Vc}{elt a iter:Vk}{ifs:List Vk}{sc:Scope}{ps:Pos}{b acc:Va}{ce:Env}(d:Nat->Vc->Prop)
  (step:∀k t,d k t->Vf (Vg prog w) A (pyNext b) (λgot g=>
   match got with
   | none=>R (.ok .next) g
   | some u=>Vf (Vg prog w) A (letOwnedTupleGo a b u) (λ_ l=>Vf (Vg prog w) A (assign a ce u) (λ_ n=>
     Vf (Vg prog w) A (forIn ifs true λc r=>if r=true then do let ok ←isTrue c ce (eval c ce);pure (ForInStep.yield ok)else pure (ForInStep.yield r)) (λyes i=>
      if yes=true then Vf (Vg prog w) A (eval elt ce) (λval o=>Vf (Vg prog w) A (call (.builtin "list.append") [acc,val]) (λ_ p=>∃m,m<k/\d m p) (λ_ _=>False) o) (λ_ _=>False) i
      else ∃m,m<k/\d m i) (λ_ _=>False) n) (λ_ _=>False) l) (λ_ _=>False) g) (λ_ _=>False) t)
  (k0:Nat) (start:d k0 j):codeAny (Vg prog w) A (.compLoop (.ListComp elt [⟨a,iter,ifs,0⟩] sc ps) 0 b acc ce) R j:=by
 refine codeAny_loop rfl d (λk t s=>?turn) k0 start
 case turn=>
  have nox:∀{α:Type} {m:Sem α} {Q:α->Vc->Prop} {E:Va->Vc->Prop} {z:Vc},Vf (Vg prog w) A m Q (λ_ _=>False) z->Vf (Vg prog w) A m Q E z:=λh=>wpAny_mono h (λ_ _ q=>q) λ_ _ f=>f.elim;show Vf _ A ((compTurn (.ListComp elt [⟨a,iter,ifs,0⟩] sc ps) 0 b acc ce).onRaise (λx=>do noteFrame x ce;theTreesLotGoes x)) _ _ t;apply wpAny_noted;rw[compTurn_list];refine Fl (wpAny_standAt (Fl (nox (wpAny_mono (step k t s) (λgot g h1=>?_) λ_ _ f=>f))));cases got with
  | none=>exact Fm h1
  | some u=>
   refine Fl (nox (wpAny_mono h1 (λ_ l h2=>?_) λ_ _ f=>f));refine Fl (nox (wpAny_mono h2 (λ_ n v=>?_) λ_ _ f=>f));refine Fl (nox (wpAny_mono v (λyes i e=>?_) λ_ _ f=>f));cases yes with
   | false=>
    rw[Gq FI]at e;exact Fm ⟨rfl,e⟩
   | true=>
    rw[Gr rfl]at e;refine Fl (Fl (nox (wpAny_mono e (λval o y=>?_) λ_ _ f=>f)));exact Fl (nox (wpAny_mono y (λ_ p B=>Fm (Fm ⟨rfl,B⟩)) λ_ _ f=>f))
section
variable {X:Cx} {pins:List (Vb×Obj)} {σ:St} {H:Hp} {s:Vc}
def dX(a:List Va)(n:Nat):Obj:={ cls:=.type "list",data:=.seq a.toArray n }
def Fh{sc out:Scope}(h:Aa sc out=true){p:Vn×NameKind}(a:p∈sc.names)(b:p.2=.free):out.names.lookup p.1=Vo .cell\/out.names.lookup p.1=Vo .free:=by have:=F0.mp h p a;simp only[b,F5,F6,beq_iff_eq,bne_iff_ne,ne_eq,not_true,false_or]at this;exact this.2
theorem lN{sc:Scope}{env:Env}{x:Vn}:∀{names:List (Vn×NameKind)} {k:NameKind},(names.map λ(p:Vn×NameKind)=>match p with|(n,k)=>if(k == NameKind.free && env.scope.kind == .function && env.kindOf n == Vo .cell)then(n,NameKind.cell)else(n,k)).lookup x=Vo k →
  ∃c,names.lookup x=Vo c/\(c=k\/(c=.free/\k=.cell))
 | [],_,h=>by simp at h
 | (n,q)::r,k,h=>by
  rw[List.map_cons]at h;rw[Gh];cases b:(x == n)with
  | true=>
   refine⟨q,rfl,?_⟩;by_cases a:(q == NameKind.free && env.scope.kind == .function && env.kindOf n == Vo .cell)=true
   ·simp only[a,if_true,Gh,b]at h;right;simp only[F5,beq_iff_eq]at a;exact⟨a.1.1,(F8 h).symm⟩
   ·left;have h2:List.lookup x ((n,q)::(r.map λ(p:Vn×NameKind)=>match p with|(n,k)=>if(k == NameKind.free && env.scope.kind == .function && env.kindOf n == Vo .cell)then(n,NameKind.cell)else(n,k)))=Vo k:=by have d:=h;dsimp only at d;rw[Gq a]at d;exact d
    rw[Gh,b]at h2;exact F8 h2
  | false=>
   have:List.lookup x (r.map λ(p:Vn×NameKind)=>match p with|(n,k)=>if(k == NameKind.free && env.scope.kind == .function && env.kindOf n == Vo .cell)then(n,NameKind.cell)else(n,k))=Vo k:=by
    by_cases a:(q == NameKind.free && env.scope.kind == .function && env.kindOf n == Vo .cell)=true
    ·simpa only[a,if_true,Gh,b]using h
    ·dsimp only at h;rw[Gq a,Gh,b]at h;exact h
   exact lN (sc:=sc) this
def i8{names:List (Vn×NameKind)}{x:Vn}{k:NameKind}(h:names.lookup x=Vo k):(x,k)∈names:=PySem.mem_of_lookup h
def vK{sc:Scope}{x:Vn}{cells:List (Vn×Vb)}(h:(x,NameKind.free)∈sc.names):∃c,(cX sc.names cells).lookup x=Vo c:=
 Option.isSome_iff_exists.mp (vD cells sc.names [] x (.inl h))
def Inv.stk_lt(I:Inv X pins σ H s){b:Vb}(hb:b∈dm X.stack):b<s.heap.objs.size:=by
 rcases FH.mp (I.stkSub b hb)with e|h
 ·rw[e];exact I.lt
 ·obtain⟨_,o,ho,_⟩:=I.ok.funs.mem h;exact FX (Fq ho) I.sz
def Inv.cell_lt(I:Inv X pins σ H s){x:Vn}{c:Vb}(h:X.env.cells.lookup x=Vo c):c<s.heap.objs.size:=by obtain⟨v,q⟩:=I.cell x c h;exact q.lt
def Inv.pin_lt(I:Inv X pins σ H s){p:Vb×Obj}(h:p∈X.pn++pins):p.1<s.heap.objs.size:=Fq (I.pin p h).1
def t9{n:Nat}{js:List Nat}{i:Nat}{v:V}(h:(df n js σ)[i]?=Vo (Vo v)):∃k j,i=n+k/\js[k]?=Vo j/\σ[j]?=Vo (Vo v):=by
 unfold df at h;by_cases hi:i<n
 ·rw[FT (by simpa using hi),List.getElem?_replicate]at h;split at h<;>cases h
 ·rw[FR (by simpa using Nat.le_of_not_lt hi),List.length_replicate,Fu]at h;cases e:js[i-n]? with
  | none=>rw[e]at h;cases h
  | some j=>
   rw[e]at h;refine⟨i-n,j,by omega,e,?_⟩;have h':(σ[j]?).join=Vo v:=by simpa using h
   cases q:σ[j]? with
   | none=>rw[q]at h';cases h'
   | some o=>
    rw[q]at h';have:o=Vo v:=h';rw[this]
def ij(J:It)(n:Nat)(js:List Nat)(g:TG)(tc:TT)(te:TE)(σ:St)(H:Hp)(Q:VK):Prop:=
 ∃W:Nat->Nat->List V->Hp->Prop,(∃m,W 0 m [] H)/\∀i m ys H',W i m ys H' →
  (J.stop i H'/\∀p,H' p=Vp->Q (.ref p) (upd H' p (.lst ys))) ∨
  (J.go i H'/\ys.length<sizeLine/\∃N:List V->Hp->Prop,(∀a H2,N a H2->∃d,d<m/\W (i+1) d a H2)/\∀x H2,J.yld i H' x H2->g x (df n js σ) H2 λc h=>tc c h λb e=>
   if b=true then te c e λv j=>N (ys++[v]) j else N ys e)
def pR(n:Nat)(js:List Nat)(a:TI)(g:TG)(tc:TT)(te:TE):TE:=λσ H Q=>a σ H λJ H1=>ij J n js g tc te σ H1 Q
structure TurnAt(X:Cx)(tg:Vk)(J:It)(fp:List Vb)(it:Vb)(tn:Nat->Vh->Prop):Prop where
 obj:∀i h,tn i h->∀b∈fp,∃o,h.get? b=Vo o/\∀v,o.data≠.cell v
 keep:∀i h h',tn i h->(∀b∈fp,∀o,h.get? b=Vo o->h'.get? b=Vo o)->tn i h'
 item:∀(i:Nat) (pins:List (Vb×Obj)) (s:Vc) (σ:St) (H:Hp) (E:Va->Vc->Prop),Inv X pins σ H s->(∀b∈fp,cH X pins H b)->tn i s.heap->J.go i H →
  Vf (Vg X.prog X.w) X.A (pyNext (.ref it)) (λr s1=>∃u,r=Vo u ∧
   Vf (Vg X.prog X.w) X.A (letOwnedTupleGo tg (.ref it) u) (λ_ s2=>∃x H',Inv X pins σ H' s2/\RelV x u/\J.yld i H x H'/\tn (i+1) s2.heap/\∀b∈fp,H' b=Vp) E s1) E s
 done:∀(i:Nat) (pins:List (Vb×Obj)) (s:Vc) (σ:St) (H:Hp) (E:Va->Vc->Prop),Inv X pins σ H s->(∀b∈fp,cH X pins H b)->tn i s.heap->J.stop i H →
  Vf (Vg X.prog X.w) X.A (pyNext (.ref it)) (λr s1=>r=Vp/\Inv X pins σ H s1) E s
 self:∀(A:Vi) (i:Nat) (s:Vc) (Q:Va->Vc->Prop) (E:Va->Vc->Prop),tn i s.heap->Q (.ref it) s->Vf (Vg X.prog X.w) A (pyIter (.ref it)) Q E s
def Turn.at_{Y:Cx}{tg:Vk}{J:It}{fp:List Vb}{it:Vb}{tn:Nat->Vh->Prop}(T:Turn Y.prog Y.w Y.K tg J fp it tn)(a:Y.calm=true):TurnAt Y tg J fp it tn:=⟨T.obj,T.keep,T.item Y rfl rfl rfl a,T.done Y rfl rfl rfl a,T.self⟩
end
def dn{K:Fn}{a:Vb}{xs:List V}{n:Nat}{js:List Nat}{g:TG}{tc:TT}{te:TE}{Q:VK}{σ:St}{H:Hp}(Pv:Nat->List V->Hp->Prop)(u:xs.length<=sizeLine)(j:Pv 0 [] H)(k:∀i ys H,i<=xs.length->Pv i ys H->ag K H a xs/\ys.length<=i)
  (hs:∀i x ys H,xs[i]?=Vo x->Pv i ys H->g x (df n js σ) H λc l=>tc c l λb h=>if b=true then te c h λv o=>Pv (i+1) (ys++[v]) o else Pv (i+1) ys h)
  (hd:∀ys H p,Pv xs.length ys H->H p=Vp->Q (.ref p) (upd H p (.lst ys))):ij (cY K a) n js g tc te σ H Q:=by
 refine⟨λi m ys H=>m=xs.length-i/\i<=xs.length/\Pv i ys H,⟨xs.length,by simp,Nat.zero_le _,j⟩,?_⟩;rintro i m ys H ⟨rfl,hi,p⟩;have q:=k i ys H hi p;by_cases hlt:i<xs.length
 ·refine .inr ⟨⟨xs,xs[i],q.1,by simp[hlt]⟩,by have:=q.2;omega,Pv (i+1),λr H' d=>⟨xs.length-(i+1),by omega,rfl,hlt,d⟩,λx H' y=>?_⟩;obtain⟨e,y⟩:=y;subst e;exact hs i x ys _ (y xs q.1) p
 ·have e:i=xs.length:=by omega
  subst e;exact .inl ⟨⟨xs,q.1,FN _⟩,λd s=>hd ys H d p s⟩
def lZ{K:Fn}{a:Vb}{xs:List V}{n:Nat}{js:List Nat}{g:TG}{tc:TT}{te:TE}{Q:VK}{σ:St}{H:Hp}(Pv:Nat->List V->Hp->Prop)(u:xs.length<=sizeLine)(j:Pv 0 [] H)(k:∀i ys H,i<=xs.length->Pv i ys H->aj K H a xs/\ys.length<=i)
  (hs:∀i x ys H,xs[i]?=Vo x->Pv i ys H->g x (df n js σ) H λc l=>tc c l λb h=>if b=true then te c h λv o=>Pv (i+1) (ys++[v]) o else Pv (i+1) ys h)
  (hd:∀ys H p,Pv xs.length ys H->H p=Vp->Q (.ref p) (upd H p (.lst ys))):ij (dG K a) n js g tc te σ H Q:=by
 refine⟨λi m ys H=>m=xs.length-i/\i<=xs.length/\Pv i ys H,⟨xs.length,by simp,Nat.zero_le _,j⟩,?_⟩;rintro i m ys H ⟨rfl,hi,p⟩;have q:=k i ys H hi p;by_cases hlt:i<xs.length
 ·refine .inr ⟨⟨xs,xs[i],q.1,by simp[hlt]⟩,by have:=q.2;omega,Pv (i+1),λr H' d=>⟨xs.length-(i+1),by omega,rfl,hlt,d⟩,λx H' y=>?_⟩;obtain⟨e,y⟩:=y;subst e;exact hs i x ys _ (y xs q.1) p
 ·have e:i=xs.length:=by omega
  subst e;exact .inl ⟨⟨xs,q.1,FN _⟩,λd s=>hd ys H d p s⟩
def dD{lo:Int}{N n:Nat}{js:List Nat}{g:TG}{tc:TT}{te:TE}{Q:VK}{σ:St}{H:Hp}(Pv:Nat->List V->Hp->Prop)(s:N<=sizeLine)(h:Pv 0 [] H)(j:∀i ys H,i<=N->Pv i ys H->ys.length<=i)
  (hs:∀i ys H,i<N->Pv i ys H->g (.int (lo+i)) (df n js σ) H λa k=>tc a k λb d=>if b=true then te a d λv l=>Pv (i+1) (ys++[v]) l else Pv (i+1) ys d)
  (hd:∀ys H p,Pv N ys H->H p=Vp->Q (.ref p) (upd H p (.lst ys))):ij (dJ lo N) n js g tc te σ H Q:=by
 refine⟨λi m ys H=>m=N-i/\i<=N/\Pv i ys H,⟨N,by simp,Nat.zero_le _,h⟩,?_⟩;rintro i m ys H ⟨rfl,hi,p⟩;have q:=j i ys H hi p;by_cases hlt:i<N
 ·refine .inr ⟨hlt,by omega,Pv (i+1),λo H' c=>⟨N-(i+1),by omega,rfl,hlt,c⟩,λx H' y=>?_⟩;obtain⟨e,y⟩:=y;subst e y;exact hs i ys _ hlt p
 ·have e:i=N:=by omega
  subst e;exact .inl ⟨FN _,λc r=>hd ys H c p r⟩
structure Cal(P:Vd)(w:Ve)(K:Fn)(mg:Vn->Option Va)(base:Vh)(x:Vn)(k:Nat)(ps:List Vn)(sp:Sp):Prop where
 ex:∃(f:Vb) (fd:Vm),mg x=Vo (.ref f)/\PySem.W.keepIn K (.ref f)=true/\Binds K fd ps []/\FnOk P w K mg base dI k f fd ps sp
structure Dfn(K:Fn)(mg:Vn->Option Va)(x:Vn)(st:Vl)(ps:List Vn):Prop where
 ex:∃(f:Vb) (fd:Vm),mg x=Vo (.ref f)/\Fun K x x st f fd/\Binds K fd ps []
section
variable {P:Vd} {w:Ve} {K:Fn} {mg:Vn->Option Va} {base:Vh}
theorem Dfn.ok{x:Vn}{st:Vl}{N ps:List Vn}{k:Nat}{sp:Sp}(D:Dfn K mg x st ps)(S:FnScope N ps (aH st))(len:∀vs H Q E,sp vs H Q E->vs.length=ps.length)
  (a:∀(X:Cx) (d:∃f cdv A outer s H E,X=(gG dI P w K mg base N x (aH st) f cdv A outer s H E).nox/\Room k X.A) (H:Hp) (vs:List V) (Q:VK) (E:XK),sp vs H Q E →
   ∃t,cP X (eR st) t/\t { nx:=λ_ H'=>Q .non H',rt:=Q } (start N vs) H):Cal P w K mg base x (k+1) ps sp:=by
 obtain⟨f,fd,b,F,hb⟩:=D.ex;exact⟨f,fd,b,F.kp,hb,F.ok S len λcdv A outer s H vs Q E c h=>a _ ⟨f,cdv,A,outer,s,H,E,rfl,c⟩ H vs Q E h⟩
end
section
variable {X:Cx}
def ax{x:Vn}{k j:Nat}{ps:List Vn}{sp:Sp}{e:Vk}{es:List Vk}{t:TA}{p pos:Pos}(C:Cal X.prog X.w X.K X.mg X.base x j ps sp)(d:Room k X.A)(ha:PA X (e::es) t)(a:j<=k:=by decide)(g:Gl X x:=by rfl)(b:(x == ("__debug__":Vn))=false:=by decide)
  (h:starEach (e::es) X.env=(false,eval e X.env)::starEach es X.env:=by rfl) (c:(backTo pos (starEach es X.env)).any (·.1)=false:=by rfl) :
  PE X (.Call (.Name x p) (e::es) [] pos) (ky sp [] E0 t):=by
 obtain⟨f,fd,i,l,hb,F⟩:=C.ex;exact Be F (d.mono a) g i l hb .nil CD ha b h c
def lT:bJ X (binaryOp .FloorDiv) (rI (λ_ j=>0<j/\j<2 ^ 64) λi j=>.int (i / j)):=kP λi j _ _ _ _ _ b q=>by
 have h1:(0:Int)<j:=b.1;have h2:j<2 ^ 64:=b.2;refine floordiv_int (by omega) (by rw[Int.fdiv_eq_ediv_of_nonneg i (by omega)];exact q) (.inl (PyProof.noPylong_of_log2 ?_));have c:j.natAbs≠0:=by omega
 have a:j.natAbs<2 ^ 64:=by omega
 have:=(Nat.log2_lt c).mpr a;omega
def ib(H:Hp):V->String->Prop
 | .non,n=>n = "NoneType"
 | .bl _,n=>n = "bool"
 | .int _,n=>n = "int"
 | .str _,n=>n = "str"
 | .ref a,n=>(n = "list"/\∃xs,H a=Vo (.lst xs))\/(n = "tuple"/\∃xs,H a=Vo (.tup xs))
 | _,_=>False
def ib.ty{K:Fn}{H:Hp}{x:V}{n:String}(h:ib H x n):TyOf K H x (.type n):=by
 cases x with
 | non=>cases(show n = "NoneType" from h);exact .non
 | bl b=>cases(show n = "bool" from h);exact .bl b
 | int i=>cases(show n = "int" from h);exact .int i
 | str z=>cases(show n = "str" from h);exact .str z
 | ref a=>
  rcases h with⟨rfl,xs,e⟩|⟨rfl,xs,e⟩
  ·exact .lst e
  ·exact .tup e
 | _=>exact False.elim h
def gQ(a b c d e:Bool):String->Option Bool
 | "tuple"=>Vo a|"int"=>Vo b|"bool"=>Vo c|"list"=>Vo d|"str"=>Vo e|_=>Vp
def jb:String->String->Option Bool
 | "NoneType"=>gQ false false false false false
 | "bool"=>gQ false true true false false
 | "int"=>gQ false true false false false
 | "str"=>gQ false false false false true
 | "list"=>gQ false false false true false
 | "tuple"=>gQ true false false false false
 | _=>λ_=>Vp
def yX{K:Fn}{n T:String}{b:Bool}(h:jb n T=Vo b):PySem.W.kitOne K (.type n) (.type T)=Vo b:=by
 unfold jb at h;split at h<;>first
  | (unfold gQ at h;split at h<;>first|(cases h;kernel_rfl)|cases h)
  | cases h
def wq:List V->Hp->VK->Prop:=λxs H Q=>∃x n T b,xs=[x,.ty T]/\ib H x n/\jb n T=Vo b/\Q (.bl b) H
def eF:cy X (.builtin "isinstance") wq:=by intro pins s σ H xs us Q I r h;obtain⟨x,n,T,b,rfl,a,hb,q⟩:=h;obtain⟨u,c,rfl,r1,d⟩:=vals2 r;cases(show c=Value.type T from d);exact Ax I r1 a.ty (yX hb) λtk=>⟨.bl b,H,I.tok tk,rfl,q⟩
def rj:bJ X (compareOp .IsNot) (λx y H Q=>∃a b,x=.bl a/\y=.bl b/\Q (.bl (!(a == b))) H):=by intro pins s σ H x y v u Q I c d h;obtain⟨a,b,rfl,rfl,q⟩:=h;cases c;cases d;exact wpAny_isNot_plain rfl (bG I q (by cases a<;>cases b<;>rfl))
def gm(lo c:Int)(n:Nat):It:=⟨λi _=>i<n,λi H x H'=>H'=H/\x=.int (lo+i*c),λi _=>n<=i⟩
def AA{P:Vd}{w:Ve}{K:Fn}{tg:Vk}(it:Vb)(lo c:Int)(n:Nat):Turn P w K tg (gm lo c n) [it] it (λi h=>IsRangeIter h it (lo+(i:Nat)*c) ((n:Int)-(i:Nat)) c) where
 mem:=by simp
 obj:=λi h st b hb=>by
  have e:b=it:=by simpa using hb
  subst e;exact⟨_,st,λv z=>by have A:Data.fields _=Data.cell v:=z;cases A⟩
 keep:=λi h h' st k=>k it (by simp) _ st
 item:=by intro X g j l m i pins s σ H E I d st p;subst g j l;obtain⟨q,r,B,u,x,y⟩:=d it (by simp);have W:=Walks.range (prog:=X.prog) (w:=X.w) (I.ok.hd m) it lo c n;refine W.item i s _ _ p st λv h' tk C a F=>?_;obtain⟨t,rfl⟩:=C;have G:Inv X pins σ H { s with heap:=h',toks:=tk }:=I.turned (λb o hb e=>F b o (by simpa using hb) e) q r u x y;exact⟨_,rfl,lE (s:={ s with heap:=h',toks:=tk }) (n:="range_iterator") a rfl rfl (by decide) ⟨.int (lo+i*c),H,G,⟨t,rfl⟩,⟨rfl,rfl⟩,a,λb hb=>(d b hb).1⟩⟩
 done:=by intro X g j l m i pins s σ H E I d st p;subst g j l;obtain⟨q,r,B,u,x,y⟩:=d it (by simp);exact wpAny_pyNext_range_end (I.ok.hd m) st (by have:n<=i:=p;omega) λh' J=>⟨rfl,I.turned (t':=s.toks) (λb o hb e=>J b o hb e) q r u x y⟩
 self:=λ_ _ _ _ _ st h=>wpAny_pyIter_rangeiter st h
def g9(i j c:Int):Prop:=(-(2 ^ 40)<=i/\i<2 ^ 40)/\(-(2 ^ 40)<=j/\j<2 ^ 40)/\(-(2 ^ 29)<c/\c<2 ^ 29)/\c≠0
def eh(i j c:Int):Nat:=if 0<c then(if i<j then((j-i-1) / c+1).toNat else 0)else(if j<i then((i-j-1) / (-c)+1).toNat else 0)
def EB(i j c:Int)(a:c≠0):Builtin.Range.rangeSize i j c=(eh i j c:Nat):=by
 unfold Builtin.Range.rangeSize eh;by_cases h:0<c
 ·rw[Gr h,Gr h];by_cases h2:i<j
  ·rw[Gr h2,Gr h2];have:0<=(j-i-1) / c:=Int.ediv_nonneg (by omega) (by omega);omega
  ·rw[Gq h2,Gq h2];rfl
 ·rw[Gq h,Gq h];by_cases h2:j<i
  ·rw[Gr (show i>j from h2),Gr h2];have:0<=(i-j-1) / (-c):=Int.ediv_nonneg (by omega) (by omega);omega
  ·rw[Gq (show ¬i>j from h2),Gq h2];rfl
def Bw{i j c:Int}(h:g9 i j c):Builtin.Range.small i j c=true:=by
 obtain⟨⟨h1,h2⟩,⟨e,g⟩,⟨k,l⟩,m⟩:=h;have hb:Builtin.Range.rangeSize i j c<=2 ^ 42/\0<=Builtin.Range.rangeSize i j c:=by
  unfold Builtin.Range.rangeSize;by_cases a:c>0
  ·rw[Gr a];by_cases h':i<j
   ·rw[Gr h'];have b:(j-i-1) / c<=j-i-1:=Int.ediv_le_self _ (by omega);have d:0<=(j-i-1) / c:=Int.ediv_nonneg (by omega) (by omega);omega
   ·rw[Gq h'];omega
  ·rw[Gq a];by_cases h':i>j
   ·rw[Gr h'];have b:(i-j-1) / (-c)<=i-j-1:=Int.ediv_le_self _ (by omega);have d:0<=(i-j-1) / (-c):=Int.ediv_nonneg (by omega) (by omega);omega
   ·rw[Gq h'];omega
 unfold Builtin.Range.small;generalize Builtin.Range.rangeSize i j c=z at hb ⊢;have f:∀x:Int,-(2 ^ 62)<=x->x<2 ^ 62->Builtin.Range.rangeFitsLong x=true:=λx h1 h2=>by unfold Builtin.Range.rangeFitsLong;rw[Gp (show -(2 ^ 63)<=x by omega),Gp (show x<2 ^ 63 by omega)];rfl
 rw[f i (by omega) (by omega),f j (by omega) (by omega),f c (by omega) (by omega),f z (by omega) (by omega)];by_cases a:c>0
 ·rw[Gr a,f (j+(c-1)) (by omega) (by omega),Bool.or_true];rfl
 ·rw[Gq a,f (j+(c+1)) (by omega) (by omega),Bool.or_true];rfl
def wX(ta:TA):TI:=λσ H R=>ta σ H λvs H1=>∃i j c:Int,vs=[.int i,.int j,.int c]/\g9 i j c/\R (gm i c (eh i j c)) H1
def vp{tg a b c:Vk}{ta:TA}{p pos:Pos}(v:Gl X "range")(w:X.mg "range" = Vp)(ha:PA X [a,b,c] ta)(hs:starEach [a,b,c] X.env=[(false,eval a X.env),(false,eval b X.env),(false,eval c X.env)]:=by rfl)
  (g:starEach [b,c] X.env=[(false,eval b X.env),(false,eval c X.env)]:=by rfl) :
  PI X tg (.Call (.Name "range" p) [a,b,c] [] pos) (wX ta):=by
 intro pins s σ H R I h;refine Call_ (gg I v w boot_range (PyProof.Rows.callWith_type1 (aD (ha pos pins s σ H _ I h) λus s1 ⟨vs,H1,x,r1,y⟩=>?_) (by rw[hs,g]) (by rw[g];rfl)));obtain⟨i,j,c,e,d,q⟩:=y;subst e;cases r1 with
 | cons r k=>
  cases k with
  | cons z k=>
   cases k with
   | cons l k=>
    cases k;obtain⟨t,rfl⟩:=r;obtain⟨t',rfl⟩:=z;obtain⟨m,rfl⟩:=l;have u:c≠0:=d.2.2.2;have A:c.natAbs<1073741824:=by have:=d.2.2.1;omega
    refine call_range_3 u ?_ (.inl (PyProof.noPylong_small A));refine wpAny_pyIter_range (IsRange.new ..) (Bw d) ?_;have n:Inv X pins σ H1 { s1 with heap:=s1.heap.push { cls:=.type "range",data:=.fields #[.int i t,.int j t',.int c m] },toks:=s1.toks }:=x.kept λb o e=>Fo _ e;refine⟨_,[_],_,_,H1,rfl,n.kept (t':=s1.toks) λb o e=>Fo _ e,AA _ i c (eh i j c),?_,λb hb=>?_,q⟩
    ·show IsRangeIter _ _ (i+((0:Nat):Int)*c) (((eh i j c:Nat):Int)-((0:Nat):Int)) c;rw[show i+((0:Nat):Int)*c=i by simp,show ((eh i j c:Nat):Int)-((0:Nat):Int)=Builtin.Range.rangeSize i j c by rw[EB i j c u];simp];exact Fp _ rfl
    ·have e:=FD.mp hb;subst e;exact n.fpOk (FN _) (n.hok.fresh (FN _))
def Bn{lo c:Int}{n:Nat}{g:TG}{tb:TS}{D:Ends}{σ:St}{H:Hp}(Pv:Nat->St->Hp->Prop)(h:Pv 0 σ H)
  (hs:∀i σ H,i<n->Pv i σ H->g (.int (lo+i*c)) σ H λa H2=>tb { D with nx:=Pv (i+1),ct:=Pv (i+1),bk:=D.nx } a H2) (hd:∀σ H,Pv n σ H->D.nx σ H) :
  ∃W:Nat->Nat->St->Hp->Prop,(∃m,W 0 m σ H)/\∀i m σ H,W i m σ H →
   ((gm lo c n).stop i H/\D.nx σ H)\/((gm lo c n).go i H/\∃N:St->Hp->Prop,(∀b H',N b H'->∃d,d<m/\W (i+1) d b H')/\∀x H',(gm lo c n).yld i H x H'->g x σ H' λa H2=>tb { D with nx:=N,ct:=N,bk:=D.nx } a H2):=by
 refine⟨λi m σ H=>m=n-i/\i<=n/\Pv i σ H,⟨n,by simp,Nat.zero_le _,h⟩,?_⟩;rintro i m σ H ⟨rfl,hi,p⟩;by_cases hlt:i<n
 ·refine .inr ⟨hlt,Pv (i+1),λb H' j=>⟨n-(i+1),by omega,rfl,hlt,j⟩,λx H' y=>?_⟩;obtain⟨e,y⟩:=y;subst e y;exact hs i σ _ hlt p
 ·have e:i=n:=by omega
  subst e;exact .inl ⟨FN _,hd σ H p⟩
def wo(K:Fn):List V->Hp->VK->Prop:=λxs H Q=>∃(p:Vb) (ns:List Int),xs=[.ref p]/\ag K H p (ns.map V.int)/\0<ns.length/\∀M,M∈ns->(∀a,a∈ns->a<=M)->Q (.int M) H
def zZ(l:X.calm=true):cy X (.builtin "max") (wo X.K):=by
 intro pins s σ H xs us Q I r h;obtain⟨p,ns,rfl,m,A,q⟩:=h;obtain⟨u,rfl,n⟩:=vals1 r;cases n;obtain⟨c,o,pl,d⟩:=I.list m;have i1:IntsAre c ns:=intsAre_of o;obtain⟨a,i⟩:=i1.allInts.items;have e:ns=a.toList.map (·.1):=(i1.numsOf.symm.trans (by rw[←i])).trans (nums_intItems a);have g:a.toList.length=a.size:=Fw;have ln:ns.length=a.size:=by rw[e,Fs,g]
 have v:s.heap.IsList p (intItems a):=i ▸ pl.isList;refine max_intList (I.ok.hd l) v (by omega) λbest h' tk b kept=>?_;obtain⟨tok,w⟩:=intItems_at b;subst w;have am:=argBest_gt (numAt a) (a.size-1);refine⟨.int _,H,I.kept kept,⟨tok,rfl⟩,q _ ?_ λz d=>?_⟩
 ·rw[e];have:=am.1;rw[numAt_eq];exact getD_mem (by rw[Fs,g];omega)
 ·rw[e]at d;obtain⟨k,j,x⟩:=mem_getD d;subst x;have y:k<a.size:=by rw[Fs,g]at j;exact j
  have:=am.2 k (by omega);rw[numAt_eq]at this;exact this
def kY(K:Fn):List V->Hp->VK->Prop:=λxs H Q=>∃p ys,xs=[.ref p]/\(ag K H p ys\/aj K H p ys)/\Q (.int ys.length) H
def zB:cy X (.builtin "len") (kY X.K):=EA
def pN(K:Fn):List V->Hp->VK->Prop:=λxs H Q=>∃p ys,xs=[.ref p]/\((ag K H p ys/\∀l,H l=Vp->Q (.ref l) (upd H l (.tup ys)))\/(aj K H p ys/\Q (.ref p) H))
def zj:cy X (.type "tuple") (pN X.K):=Ba
def xu:List V->Hp->VK->Prop:=λxs H Q=>(∃i,xs=[.int i]/\Q (.int i) H)\/∃k,xs=[.bl k]/\Q (.int (if k then 1 else 0)) H
def yV:cy X (.type "int") xu:=zI
def tF:List V->Hp->VK->Prop:=λxs H Q=>∃i j,xs=[.int i,.int j]/\Q (.int (if j>i then j else i)) H
def kG(a:X.calm=true):cy X (.builtin "max") tF:=yU a
end
def Ext(H H':Hp):Prop:=∀b o,H b=Vo o->H' b=Vo o
def Ext.rfl'(H:Hp):Ext H H:=λ_ _ h=>h
def Ext.trans{H H1 H2:Hp}(a:Ext H H1)(b:Ext H1 H2):Ext H H2:=λx o h=>b x o (a x o h)
theorem Ext.none{H H':Hp}(e:Ext H H'){l:Vb}(h:H' l=Option.none):H l=Option.none:=by
 cases q:H l with
 | none=>rfl
 | some o=>rw[e l o q]at h;cases h
section
variable {X:Cx} (K:Fn)
def aF(h:X.K=K:=by rfl):iW X (nv K):=by subst h;exact Dw
def ay(h:X.K=K:=by rfl):iW X (lU K):=by subst h;exact E8
def hJ(h:X.K=K:=by rfl):oh X (nB K):=by subst h;exact B0
def lB(h:X.K=K:=by rfl):bJ X (compareOp .In) (lX K false):=by subst h;exact CT
def dh(h:X.K=K:=by rfl):cy X (.builtin "len") (kY K):=by subst h;exact zB
def fA(h:X.K=K:=by rfl):cy X (.type "tuple") (pN K):=by subst h;exact zj
def jj(a:X.calm=true)(h:X.K=K:=by rfl):cy X (.builtin "max") (wo K):=by subst h;exact zZ a
def bP{tg l:Vk}{tl:TE}(a:PE X l tl)(h:X.K=K:=by rfl):PI X tg l (oy K tl):=by subst h;exact BA a
def ft{tg l:Vk}{tl:TE}(a:PE X l tl)(h:X.K=K:=by rfl):PI X tg l (qO K tl):=by subst h;exact Dn a
def dS{es:List Vk}{k:Nat}{t:dR}{n:Nat}{pos:Pos}(a:X.calm=true)(b:iC X es t)(h:X.K=K:=by rfl)
  (c:(assignEach es X.env).length=n:=by rfl) (hst:(assignEach es X.env).findIdx? (·.1)=Vp:=by rfl):PG X (.Tuple es k pos) (qx K n t):=by subst h;exact yT a b c hst
def bT{o e:Vk}{es:List Vk}{to:TE}{t:TA}{name:Vn}{apos cpos:Pos}{T id:String}{r:V->List V->Hp->VK->Prop}(i:PlainAttrs T)(slot:Slot T name id)(g:typeOf (.builtin id)=pure (.type "method_descriptor"))(j:jm X id r)(ho:PE X o to)(ha:PA X (e::es) t)(h:X.K=K:=by rfl)
  (b:attributeBase o name X.env (eval o X.env)=eval o X.env:=by rfl)
  (d:((backTo cpos (starEach (e::es) X.env)).all (λx=>!x.1) && (backToKw cpos (keywordEach [] X.env)).all (λx=>x.1.isSome)
   && decide ((e::es).length+([]:List Keyword).length+(if([]:List Keyword).isEmpty then 0 else 1)<30))=true:=by rfl)
  (c:(apos.endLine == cpos.line)=true:=by rfl) (hs:starEach (e::es) X.env=(false,eval e X.env)::starEach es X.env:=by rfl) (a:(backTo cpos (starEach es X.env)).any (·.1)=false:=by rfl) :
  PE X (.Call (.Attribute o name apos) (e::es) [] cpos) (oE K T r to t):=by subst h;exact DE i slot g j ho ha b d c hs a
end
def tm(ns:List Int):TA:=λ_ H Q=>Q (ns.map V.int) H
inductive IntsE:List Vk->List Int->Prop
 | n:IntsE [] []
 | c {i j pos es ns}:IntsE es ns->IntsE (.Constant (.int i) j pos::es) (i::ns)
def gR{X:Cx}{es:List Vk}{ns:List Int}(h:IntsE es ns):PA X es (tm ns):=by
 induction h with
 | n=>exact ae
 | @c i j pos es ns _ a=>
  intro p pins s σ H Q I b;exact aa (e:=.Constant (.int i) j pos) af a rfl p pins s σ H Q I b
def rd_ints{σ:St}{H:Hp}{ns:List Int}{R:List V->Hp->Prop}(h:R (ns.map V.int) H):tm ns σ H R:=h
def oA(c:TT)(t u:TS):TS:=λD σ H=>∃R:St->Hp->Prop,(c σ H λb H1=>if b=true then t { D with nx:=R } σ H1 else u { D with nx:=R } σ H1)/\∀a H',R a H'->D.nx a H'
def cF{X:Cx}{c:Vk}{a b:List Vl}{tc:TT}{t u:TS}{pos:Pos}(e:PT X c tc)(ha:cP X a t)(hb:cP X b u):PS X (.If c a b pos) (oA tc t u):=by
 intro pins s σ H D I h;obtain⟨R,h,g⟩:=h;refine aD (aZ e ha hb pins s σ H { D with nx:=R } I h) λf s1 q=>?_;cases f with
 | next=>
  obtain⟨d,H',i,q⟩:=q;exact⟨d,H',i,g d H' q⟩
 | ret v=>exact q
 | brk=>exact q
 | cont=>exact q
def u9(K:Fn):V->Hp->(It->Hp->Prop)->Prop:=λx H R=>∃a,x=.ref a/\(∃xs,ag K H a xs)/\R (cY K a) H
def vz(K:Fn):V->Hp->(It->Hp->Prop)->Prop:=λx H R=>∃a,x=.ref a/\(∃xs,aj K H a xs)/\R (dG K a) H
def vP:List V->Hp->(It->Hp->Prop)->Prop:=λvs H R=>∃j:Int,vs=[.int j]/\-(2 ^ 62)<=j/\j<2 ^ 62/\R (dJ 0 j.toNat) H
def r9:List V->Hp->(It->Hp->Prop)->Prop:=λvs H R=>∃i j:Int,vs=[.int i,.int j]/\(-(2 ^ 62)<=i/\i<2 ^ 62/\-(2 ^ 62)<=j/\j<2 ^ 62)/\R (dJ i (j-i).toNat) H
def sr:List V->Hp->(It->Hp->Prop)->Prop:=λvs H R=>∃i j c:Int,vs=[.int i,.int j,.int c]/\g9 i j c/\R (gm i c (eh i j c)) H
def jf(J:It)(g:TG)(tb:TS)(D:Ends)(σ:St)(H:Hp):Prop:=∃W:Nat->Nat->St->Hp->Prop,(∃m,W 0 m σ H)/\∀i m σ H,W i m σ H →
 (J.stop i H/\D.nx σ H)\/(J.go i H/\∃N:St->Hp->Prop,(∀a H',N a H'->∃c,c<m/\W (i+1) c a H')/\∀x H',J.yld i H x H'->g x σ H' λb H2=>tb { D with nx:=N,ct:=N,bk:=D.nx } b H2)
def forL{K:Fn}{a:Vb}{xs:List V}{g:TG}{tb:TS}{D:Ends}{σ:St}{H:Hp}(Pv:Nat->St->Hp->Prop)(c:Pv 0 σ H)(d:∀i σ H,i<=xs.length->Pv i σ H->ag K H a xs)
  (hs:∀i x σ H,xs[i]?=Vo x->Pv i σ H->g x σ H λb H2=>tb ⟨Pv (i+1),D.rt,D.nx,Pv (i+1)⟩ b H2) (hd:∀σ H,Pv xs.length σ H->D.nx σ H):jf (cY K a) g tb D σ H:=zN Pv c d hs hd
def gK{K:Fn}{a:Vb}{xs:List V}{g:TG}{tb:TS}{D:Ends}{σ:St}{H:Hp}(Pv:Nat->St->Hp->Prop)(c:Pv 0 σ H)(d:∀i σ H,i<=xs.length->Pv i σ H->aj K H a xs)
  (hs:∀i x σ H,xs[i]?=Vo x->Pv i σ H->g x σ H λb H2=>tb ⟨Pv (i+1),D.rt,D.nx,Pv (i+1)⟩ b H2) (hd:∀σ H,Pv xs.length σ H->D.nx σ H):jf (dG K a) g tb D σ H:=yl Pv c d hs hd
def forR{lo:Int}{n:Nat}{g:TG}{tb:TS}{D:Ends}{σ:St}{H:Hp}(Pv:Nat->St->Hp->Prop)(b:Pv 0 σ H)
  (hs:∀i σ H,i<n->Pv i σ H->g (.int (lo+i)) σ H λa H2=>tb ⟨Pv (i+1),D.rt,D.nx,Pv (i+1)⟩ a H2) (hd:∀σ H,Pv n σ H->D.nx σ H):jf (dJ lo n) g tb D σ H:=Cu Pv b hs hd
def sX{lo c:Int}{n:Nat}{g:TG}{tb:TS}{D:Ends}{σ:St}{H:Hp}(Pv:Nat->St->Hp->Prop)(b:Pv 0 σ H)
  (hs:∀i σ H,i<n->Pv i σ H->g (.int (lo+i*c)) σ H λa H2=>tb ⟨Pv (i+1),D.rt,D.nx,Pv (i+1)⟩ a H2) (hd:∀σ H,Pv n σ H->D.nx σ H):jf (gm lo c n) g tb D σ H:=Bn Pv b hs hd
def eB(H:Hp)(o:HO)(R:VK):Prop:=∀p,H p=Vp->R (.ref p) (upd H p o)
section
variable {K:Fn} {D:Ends} {σ:St} {H:Hp} {Q:VK} {ta tb tc te:TE} {t u:TS} {c c':TT}
def rd_seq(h:t ⟨u D,D.rt,D.bk,D.ct⟩ σ H):v8 t u D σ H:=h
def rd_next(h:D.nx σ H):sZ D σ H:=h
def rd_ret(h:te σ H D.rt):vf te D σ H:=h
def rd_asg{g:TG}(h:te σ H λx H1=>g x σ H1 D.nx):kO te g D σ H:=h
def rd_drop(h:te σ H λ_ H1=>D.nx σ H1):vJ te D σ H:=h
def rd_ifS(h:c σ H λb H1=>if b=true then t D σ H1 else u D σ H1):tW c t u D σ H:=h
def eZ(R:St->Hp->Prop)(h:c σ H λb H1=>if b=true then t ⟨R,D.rt,D.bk,D.ct⟩ σ H1 else u ⟨R,D.rt,D.bk,D.ct⟩ σ H1)(k:∀a H',R a H'->D.nx a H'):oA c t u D σ H:=⟨R,h,k⟩
def fY(h:c σ H λb H1=>if b=true then t D σ H1 else u D σ H1):oA c t u D σ H:=⟨D.nx,h,λ_ _ h=>h⟩
def rd_name{i:Nat}{v:V}{R:St->Hp->Prop}(h:R (σ.set i (Vo v)) H):jR i v σ H R:=h
def rd_var{i:Nat}{v:V}(e:σ[i]?=Vo (Vo v))(h:Q v H):n5 i σ H Q:=⟨v,e,h⟩
def rd_c{v:V}(h:Q v H):tC v σ H Q:=h
def rd_op{r:R2}(h:ta σ H λx H1=>tb σ H1 λy H2=>r x y H2 Q):iV r ta tb σ H Q:=h
def rd_un{r:V->Hp->VK->Prop}(h:ta σ H λx H1=>r x H1 Q):xt r ta σ H Q:=h
def rd_CB{r:List V->Hp->VK->Prop}{a:TA}(h:a σ H λvs H1=>r vs H1 Q):kq r a σ H Q:=h
def rd_cons{a:TA}{R:List V->Hp->Prop}(h:ta σ H λx H1=>a σ H1 λxs H2=>R (x::xs) H2):mn ta a σ H R:=h
def rd_nil{R:List V->Hp->Prop}(h:R [] H):qE σ H R:=h
def rd_test{R:Bool->Hp->Prop}(h:te σ H λx H'=>∃k,x=.bl k/\R k H'):sq te σ H R:=h
def rd_B{R:Bool->Hp->Prop}(h:te σ H λx H'=>∃k,x=.bl k/\R k H'):tB te σ H R:=h
def rd_exb{b:Bool}{R:Bool->Prop}(h:R b):∃k,V.bl b=V.bl k/\R k:=⟨b,rfl,h⟩
def rd_not{R:Bool->Hp->Prop}(h:c σ H λb H1=>R (!b) H1):uE c σ H R:=h
def rd_and{R:Bool->Hp->Prop}(h:c σ H λb H1=>if b=true then c' σ H1 R else R false H1):wN c c' σ H R:=h
def rd_or{R:Bool->Hp->Prop}(h:c σ H λb H1=>if b=true then R true H1 else c' σ H1 R):uk c c' σ H R:=h
def rd_andV(h:ta σ H λx H1=>∃k,x=.bl k/\if k=true then tb σ H1 Q else Q (.bl false) H1):xg ta tb σ H Q:=h
def rd_orV(h:ta σ H λx H1=>∃k,x=.bl k/\if k=true then Q (.bl true) H1 else tb σ H1 Q):tj ta tb σ H Q:=h
def rd_notV(h:ta σ H λx H1=>∃k,x=.bl k/\Q (.bl (!k)) H1):uH ta σ H Q:=h
def rd_yes{R:Bool->Hp->Prop}(h:R true H):vN σ H R:=h
def rd_I0{g:Int->Int->V}{i j:Int}(h:Q (g i j) H):fR g (.int i) (.int j) H Q:=⟨i,j,rfl,rfl,h⟩
def rd_I{C:Int->Int->Prop}{g:Int->Int->V}{i j:Int}(a:C i j)(h:Q (g i j) H):rI C g (.int i) (.int j) H Q:=⟨i,j,rfl,rfl,a,h⟩
def rd_U{g:Int->V}{i:Int}(h:Q (g i) H):rU g (.int i) H Q:=⟨i,rfl,h⟩
def rd_EqI{i j:Int}(h:Q (.bl (decide (i=j))) H):j4 (.int i) (.int j) H Q:=⟨rfl,by
 have e:decide (V.int i=V.int j)=decide (i=j):=by rw[F4];simp
 rw[e];exact h⟩
def rd_NeI{i j:Int}(h:Q (.bl (!decide (i=j))) H):kM (.int i) (.int j) H Q:=⟨rfl,by
 have e:decide (V.int i=V.int j)=decide (i=j):=by rw[F4];simp
 rw[e];exact h⟩
def rd_EqB{i j:Bool}(h:Q (.bl (i == j)) H):j4 (.bl i) (.bl j) H Q:=⟨rfl,by rw[kD];exact h⟩
def rd_NeB{i j:Bool}(h:Q (.bl (!(i == j))) H):kM (.bl i) (.bl j) H Q:=⟨rfl,by rw[kD];exact h⟩
def aE{p:Vb}{xs:List V}{i:Int}{v:V}(e:ag K H p xs)(a:bF xs i=Vo v)(h:Q v H):nv K (.ref p) (.int i) H Q:=⟨p,xs,i,v,rfl,rfl,e,a,h⟩
def az{p:Vb}{xs:List V}{i:Int}{v:V}(e:aj K H p xs)(a:bF xs i=Vo v)(h:Q v H):lU K (.ref p) (.int i) H Q:=⟨p,xs,i,v,rfl,rfl,e,a,h⟩
def fK{p:Vb}{xs:List V}(e:ag K H p xs)(h:Q (.int xs.length) H):kY K [.ref p] H Q:=⟨p,xs,rfl,.inl e,h⟩
def iB{p:Vb}{xs:List V}(e:aj K H p xs)(h:Q (.int xs.length) H):kY K [.ref p] H Q:=⟨p,xs,rfl,.inr e,h⟩
def fG{p:Vb}{xs:List V}(e:ag K H p xs)(h:eB H (.tup xs) Q):pN K [.ref p] H Q:=⟨p,xs,rfl,.inl ⟨e,h⟩⟩
def eI{x:V}{n T:String}{b:Bool}(a:ib H x n)(hb:jb n T=Vo b)(h:Q (.bl b) H):wq [x,.ty T] H Q:=⟨x,n,T,b,rfl,a,hb,h⟩
def rd_intB{k:Bool}(h:Q (.int (if k then 1 else 0)) H):xu [.bl k] H Q:=.inr ⟨k,rfl,h⟩
def rd_max2{i j:Int}(h:Q (.int (if j>i then j else i)) H):tF [.int i,.int j] H Q:=⟨i,j,rfl,h⟩
def rd_call{sp:Sp}{a:TA}{E:XK}(h:a σ H λvs H1=>sp (vs++[]) H1 Q E):ky sp [] E a σ H Q:=h
def rd_BM{T:String}{r:V->List V->Hp->VK->Prop}{a:TA}(h:te σ H λx H1=>iw K T x H1/\a σ H1 λxs H2=>r x xs H2 Q):oE K T r te a σ H Q:=h
def rd_tup{a:TA}(h:a σ H λxs H1=>xs.length<=sizeLine/\eB H1 (.tup xs) Q):oJ a σ H Q:=h
def rd_lst{a:TA}(h:a σ H λxs H1=>xs.length<=sizeLine/\eB H1 (.lst xs) Q):wj a σ H Q:=h
def rd_sl{r:V->Option Int->Option Int->Hp->VK->Prop}{tl th:TO}(h:te σ H λx H1=>tl σ H1 λl H2=>th σ H2 λv a=>r x l v a Q):tN r te tl th σ H Q:=h
def rd_noPart{R:Option Int->Hp->Prop}(h:R Vp H):tQ σ H R:=h
def rd_part{R:Option Int->Hp->Prop}(h:te σ H λx H1=>∃i,x=.int i/\R (Vo i) H1):vw te σ H R:=h
def rd_exi{i:Int}{R:Int->Prop}(h:R i):∃k,V.int i=V.int k/\R k:=⟨i,rfl,h⟩
def rd_chain{r a:R2}(h:ta σ H λx H1=>tb σ H1 λy H2=>r x y H2 λz b=>∃k,z=.bl k/\(if k=true then tc σ b λc d=>a y c d Q else Q (.bl false) b)):ub r a ta tb tc σ H Q:=h
def rd_comp{n:Nat}{js:List Nat}{a:TI}{g:TG}(h:a σ H λJ H1=>ij J n js g c te σ H1 Q):pR n js a g c te σ H Q:=h
def rd_iL{R:It->Hp->Prop}(h:te σ H λx H1=>u9 K x H1 R):oy K te σ H R:=h
def rd_iT{R:It->Hp->Prop}(h:te σ H λx H1=>vz K x H1 R):qO K te σ H R:=h
def bN{p:Vb}{xs:List V}{R:It->Hp->Prop}(e:ag K H p xs)(h:R (cY K p) H):u9 K (.ref p) H R:=⟨p,rfl,⟨xs,e⟩,h⟩
def eT{p:Vb}{xs:List V}{R:It->Hp->Prop}(e:aj K H p xs)(h:R (dG K p) H):vz K (.ref p) H R:=⟨p,rfl,⟨xs,e⟩,h⟩
def rd_i1{a:TA}{R:It->Hp->Prop}(h:a σ H λvs H1=>vP vs H1 R):yg a σ H R:=h
def cj{j:Int}{R:It->Hp->Prop}(h1:-(2 ^ 62)<=j/\j<2 ^ 62)(h:R (dJ 0 j.toNat) H):vP [.int j] H R:=⟨j,rfl,h1.1,h1.2,h⟩
def rd_i2{a:TA}{R:It->Hp->Prop}(h:a σ H λvs H1=>r9 vs H1 R):tM a σ H R:=h
def jX{i j:Int}{R:It->Hp->Prop}(h1:-(2 ^ 62)<=i/\i<2 ^ 62/\-(2 ^ 62)<=j/\j<2 ^ 62)(h:R (dJ i (j-i).toNat) H):r9 [.int i,.int j] H R:=⟨i,j,rfl,h1,h⟩
def rd_i3{a:TA}{R:It->Hp->Prop}(h:a σ H λvs H1=>sr vs H1 R):wX a σ H R:=h
def vF{i j c:Int}{R:It->Hp->Prop}(h1:g9 i j c)(h:R (gm i c (eh i j c)) H):sr [.int i,.int j,.int c] H R:=⟨i,j,c,rfl,h1,h⟩
def rd_for{a:TI}{g:TG}(h:a σ H λJ H1=>jf J g t D σ H1):sF a g t D σ H:=h
def bX{l:Vb}{xs:List V}{y:V}(e:H l=Vo (.lst xs))(a:xs.length<sizeLine)(h:Q .non (upd H l (.lst (xs++[y])))):rS (.ref l) [y] H Q:=⟨l,xs,y,rfl,rfl,e,a,h⟩
def cJ{p:Vb}{xs:List V}(e:ag K H p xs):iw K "list" (.ref p) H:=.inl ⟨rfl,xs,e⟩
def rd_sub{to a:TE}{w:lx}{v:V}{R:St->Hp->Prop}(h:to σ H λo H1=>a σ H1 λi H2=>w o i v H2 λb=>R σ b):sQ to a w v σ H R:=h
def fI{p:Vb}{xs:List V}{k:Int}{j:Nat}{v:V}{R:Hp->Prop}(e:H p=Vo (.lst xs))(a:eY xs.length k=Vo j)(h:R (upd H p (.lst (xs.set j v)))):s9 (.ref p) (.int k) v H R:=⟨p,xs,k,j,rfl,rfl,e,a,h⟩
def dH{n:Nat}{g:dR}{a:Vb}{xs:List V}{R:St->Hp->Prop}(e:aj K H a xs)(b:xs.length=n)(h:g xs σ H R):qx K n g (.ref a) σ H R:=⟨a,xs,rfl,e,b,h⟩
def rd_gcons{g:TG}{b:dR}{v:V}{r:List V}{R:St->Hp->Prop}(h:g v σ H λa H'=>b r a H' R):sC g b (v::r) σ H R:=⟨v,r,rfl,h⟩
def rd_gnil{R:St->Hp->Prop}(h:R σ H):wL [] σ H R:=⟨rfl,h⟩
def ni{l b:Vb}{xs zs:List V}(a:H l=Vo (.lst xs))(c:H b=Vo (.lst zs))(d:xs.length+zs.length<=sizeLine)(h:eB H (.lst (xs++zs)) Q):uN (.ref l) (.ref b) H Q:=⟨l,b,xs,zs,rfl,rfl,a,c,d,h⟩
def iH{l:Vb}{k:Int}{xs:List V}(e:H l=Vo (.lst xs))(b:0<=k/\k<10 ^ 6)(a:xs.length*k.toNat<=sizeLine)(h:eB H (.lst (Gb k.toNat xs).flatten) Q):vy (.ref l) (.int k) H Q:=
 ⟨l,k,xs,rfl,rfl,e,by omega,by omega,a,h⟩
def ia{a:Vb}{xs:List V}{lo hi:Option Int}(e:ag K H a xs)(h:eB H (.lst (dO xs lo hi)) Q):nB K (.ref a) lo hi H Q:=⟨a,xs,rfl,e,h⟩
def kh{neg:Bool}{x:V}{p:Vb}{xs:List V}(e:ag K H p xs\/aj K H p xs)(f:eV x=true)(fs:xs.all eV=true)(h:Q (.bl (if neg then !iY x xs else iY x xs)) H):lX K neg x (.ref p) H Q:=⟨p,xs,rfl,e,f,fs,h⟩
def bL{o:HO}{R:VK}(h:∀p H',Ext H H'->H' p=Vo o->H p=Vp->R (.ref p) H'):eB H o R:=λp a=>
 h p _ (λb u e=>by rw[aG (cQ e a)];exact e) aI a
def aV{p:Vb}{o:HO}(a:H p=Vp):Ext H (upd H p o):=λb u e=>by rw[aG (cQ e a)];exact e
def ag.ext{H':Hp}{p:Vb}{xs:List V}(e:Ext H H')(h:ag K H p xs):ag K H' p xs:=by
 rcases h with(h|⟨o,h⟩)|h
 ·exact .inl (.inl (e _ _ h))
 ·exact .inl (.inr ⟨o,e _ _ h⟩)
 ·exact .inr h
end
def eD{α:Type}{xs:List α}{i:Int}{v:α}(a:0<=i)(h:xs[i.toNat]?=Vo v):bF xs i=Vo v:=by
 have:=fk h
 rwa [FG a]at this
def fB{n:Nat}{i:Int}(a:0<=i)(h:i<n):eY n i=Vo i.toNat:=by unfold eY;rw[Gr a,Gr h]
def eA:V->PyData->Prop
 | .non,.none=>True
 | .bl b,.bool c=>b=c
 | .int i,.int j=>i=j
 | .str x,.str y=>x=y/\(PyData.str y).canLay0=true
 | _,_=>False
def aW(H:Hp):Nat->V->PyData->Prop
 | 0,x,d=>eA x d
 | n+1,x,d=>eA x d\/∃a xs ds,x=.ref a/\((H a=Vo (.tup xs)/\d=.tuple ds)\/(H a=Vo (.lst xs)/\d=.list ds))/\Paired (aW H n) xs ds
section
variable {X:Cx} {pins:List (Vb×Obj)} {σ:St} {H:Hp} {s:Vc}
def eA.reads{x:V}{d:PyData}{u:Va}(h:eA x d)(r:RelV x u):∃as,Reads s.heap u d as:=by
 cases x with
 | non=>cases d<;>first|exact False.elim h|(cases r;exact⟨_,.none⟩)
 | bl b=>cases d<;>first|exact False.elim h|(cases(show b=_ from h);cases r;exact⟨_,.bool _⟩)
 | int i=>cases d<;>first|exact False.elim h|(cases(show i=_ from h);obtain⟨t,rfl⟩:=r;exact⟨_,.int _ t⟩)
 | str z=>cases d<;>first|exact False.elim h|(cases(show z=_/\_ from h).1;obtain⟨t,rfl⟩:=r;exact⟨_,.str _ t⟩)
 | _=>cases d<;>exact False.elim h
def eA.lay{x:V}{d:PyData}(h:eA x d):d.canLay0=true/\d.depth=0:=by cases x<;>cases d<;>first|exact False.elim h|exact ⟨rfl,rfl⟩|exact ⟨h.2,rfl⟩
theorem nW{R:V->PyData->Prop}(a:∀{x:V} {d:PyData} {u:Va},R x d->RelV x u->∃as,Reads s.heap u d as):∀{xs:List V} {ds:List PyData} {us:List Va},Paired R xs ds->Vals xs us->∃as,ReadsAll s.heap us ds as
 | _,_,_,.nil,.nil=>⟨_,.nil⟩
 | _,_,_,.cons h t,.cons r rt=>by obtain⟨as,ha⟩:=a h r;obtain⟨bs,hb⟩:=nW a t rt;exact⟨_,.cons ha hb⟩
theorem aW.reads(I:Inv X pins σ H s):∀(n:Nat) {x:V} {d:PyData} {u:Va},aW H n x d->RelV x u->∃as,Reads s.heap u d as
 | 0,_,_,_,h,r=>eA.reads h r
 | n+1,x,d,u,h,r=>by
  rcases h with h|⟨a,xs,ds,rfl,i,g⟩
  ·exact eA.reads h r
  ·cases r;rcases i with⟨e,rfl⟩|⟨e,rfl⟩
   ·obtain⟨b,c,⟨o,ho,j,k,hd⟩,_⟩:=I.tuple (aj.of e);obtain⟨as,ha⟩:=nW (λ{x d u}=>aW.reads I n) g c;exact⟨_,.tuple ho j hd (by simpa using ha)⟩
   ·obtain⟨b,k,c,ho,_⟩:=I.lst e;obtain⟨as,ha⟩:=nW (λ{x d u}=>aW.reads I n) g c;exact⟨_,.list ho rfl rfl (by simpa using ha)⟩
theorem jC{R:V->PyData->Prop}{m:Nat}(a:∀{x:V} {d:PyData},R x d->d.canLay0=true/\d.depth<=m):∀{xs:List V} {ds:List PyData},Paired R xs ds->PyData.canLayAll0 ds=true/\PyData.depthAll ds<=m
 | _,_,.nil=>⟨rfl,Nat.zero_le _⟩
 | _,_,.cons h t=>by
  obtain⟨h1,h2⟩:=a h;obtain⟨b,c⟩:=jC a t;refine⟨?_,?_⟩
  ·simp only[PyData.canLayAll0,h1,b,Bool.and_self]
  ·simp only[PyData.depthAll];exact Nat.max_le.mpr ⟨h2,c⟩
theorem aW.lay:∀(n:Nat) {x:V} {d:PyData},aW H n x d->d.canLay0=true/\d.depth<=n
 | 0,_,_,h=>⟨(eA.lay h).1,Nat.le_of_eq (eA.lay h).2⟩
 | n+1,x,d,h=>by
  rcases h with h|⟨a,xs,ds,rfl,b,c⟩
  ·exact⟨(eA.lay h).1,by rw[(eA.lay h).2];exact Nat.zero_le _⟩
  ·obtain⟨h1,h2⟩:=jC (λ{x d}=>aW.lay n) c;rcases b with⟨e,rfl⟩|⟨e,rfl⟩
   ·exact⟨h1,Nat.succ_le_succ h2⟩
   ·exact⟨h1,Nat.succ_le_succ h2⟩
def wH(neg:Bool):R2:=λx y H Q=>∃n m d e,aW H n x d/\aW H m y e/\n<=50/\Q (.bl (if neg then !PyData.eqv d e else PyData.eqv d e)) H
def Fg{k:Nat}(a:Room k X.A):bJ X (compareOp .Eq) (wH false):=by intro pins s σ H x y v u Q I b c h;obtain⟨n,m,d,e,h1,h2,g,q⟩:=h;obtain⟨as,i⟩:=aW.reads I n h1 b;obtain⟨bs,j⟩:=aW.reads I m h2 c;have l1:=aW.lay n h1;have l2:=aW.lay m h2;have l:=a.units;have o:min d.depth e.depth<=50:=FY (Nat.min_le_left _ _) (FY l1.2 g);exact SeqAt.compareEq_reads i j l1.1 l2.1 (by omega) ⟨.bl _,H,I,rfl,q⟩
def xP{k:Nat}(a:Room k X.A):bJ X (compareOp .NotEq) (wH true):=by intro pins s σ H x y v u Q I b c h;obtain⟨n,m,d,e,h1,h2,g,q⟩:=h;obtain⟨as,i⟩:=aW.reads I n h1 b;obtain⟨bs,j⟩:=aW.reads I m h2 c;have l1:=aW.lay n h1;have l2:=aW.lay m h2;have l:=a.units;have o:min d.depth e.depth<=50:=FY (Nat.min_le_left _ _) (FY l1.2 g);exact SeqAt.compareNe_reads i j l1.1 l2.1 (by omega) ⟨.bl _,H,I,rfl,q⟩
end
def ER(K:Fn):List V->Hp->VK->Prop:=λxs H Q=>∃(p:Vb) (bs:List Bool),xs=[.ref p]/\ag K H p (bs.map V.bl)/\Q (.bl (bs.all id)) H
theorem nh:∀{bs:List Bool} {us:List Va},Vals (bs.map V.bl) us->us=bs.map Value.bool
 | [],_,r=>by cases r;rfl
 | b::bs,_,r=>by
  cases r with
  | cons r t=>cases r;rw[nh t];rfl
def all_range(bs:List Bool):((Gm bs.length).all λi=>bs.getD i false)=bs.all id:=by
 rw[F4,F0,F0];constructor
 ·intro h b hb;obtain⟨i,hi,e⟩:=List.mem_iff_getElem.mp hb;have:=h i (List.mem_range.mpr hi);rw[List.getD_eq_getElem?_getD,Ft hi]at this;rw[←e];exact this
 ·intro h i hi;have a:=List.mem_range.mp hi;rw[List.getD_eq_getElem?_getD,Ft a];exact h _ (FU a)
def og{X:Cx}(K:Fn)(w:X.calm=true)(x:X.K=K:=by rfl):cy X (.builtin "all") (ER K):=by
 subst x;intro pins s σ H xs us Q I r h;obtain⟨p,bs,rfl,y,q⟩:=h;obtain⟨u,rfl,z⟩:=vals1 r;cases z;obtain⟨d,k,pl,R⟩:=I.list y;have B:=nh k;have hne:p≠s.heap.objs.size:=FL (by obtain⟨o,n,e,_⟩:=pl;exact Fq e);refine call_all_walk (wpAny_pyIter_list pl.isList ?_);have C:Inv X pins σ H { s with heap:=s.heap.push { cls:=.type "list_iterator",data:=.fields #[.ref p,.int 0 0] } }:=I.kept (t':=s.toks) λb o e=>Fo _ e;have E:=I.fpOk (H':=H) (FN s.heap.objs.size) I.fresh;refine⟨s.heap.objs.size,_,_,_,_,_,(λi=>bs.getD i false),rfl,Walks.list (A:=X.A.in1) (I.ok.hd w) _ p hne d.toArray,⟨⟨_,Fp _ rfl,rfl,rfl⟩,?_⟩,?_,λh' tk F=>?_⟩
 ·exact pl.isList.push _
 ·intro i v s' G S l J;rw[B]at l;have a:(bs.map Value.bool)[i]?=Vo v:=by simpa using l
  rw[Fu]at a;cases g:bs[i]? with
  | none=>rw[g]at a;cases a
  | some b=>
   rw[g]at a;cases a;have j:bs.getD i false=b:=by rw[List.getD_eq_getElem?_getD,g];rfl
   have c:G (bs.getD i false) s':=J;rw[j]at c;exact wpAny_truthy_bool c
 ·obtain⟨L,M,T,N,O,P⟩:=E;have m:=k.length;rw[Fs]at m;refine⟨.bl (bs.all id),H,C.turned (it:=s.heap.objs.size) (λb o hb e=>F b o (by simpa using hb) e) L M N O P,?_,q⟩;show Value.bool _=Value.bool _;rw[Fx,←m,all_range]
def uV(c:TT)(tb:TS):TS:=λD σ H=>∃(W:Nat->St->Hp->Prop) (R:St->Hp->Prop),(∃m,W m σ H)/\(∀m σ H,W m σ H →
 c σ H λb H1=>if b=true then ∃N:St->Hp->Prop,(∀a H',N a H'->∃d,d<m/\W d a H')/\tb ⟨N,D.rt,R,N⟩ σ H1 else R σ H1)/\∀σ H,R σ H->D.nx σ H
def fF{X:Cx}{pos:Pos}{c:Vk}{body:List Vl}{tc:TT}{tb:TS}(b:PassesOwn (Vg X.prog X.w) X.A X.env X.xe)(d:PT X c tc)(hb:cP X body tb):PS X (.While c body [] pos) (uV tc tb):=by
 intro pins s σ H D I h;obtain⟨W,R,w0,hs,e⟩:=h;refine aD (Dp b d hb pins s σ H { D with nx:=R } I ⟨W,w0,hs⟩) λf s1 q=>?_;cases f with
 | next=>
  obtain⟨a,H',g,q⟩:=q;exact⟨a,H',g,e a H' q⟩
 | ret v=>exact q
 | brk=>exact q
 | cont=>exact q
section
variable {D:Ends} {σ:St} {H:Hp} {Q:VK} {te:TE} {t:TS} {c:TT}
def fE(W:Nat->St->Hp->Prop)(R:St->Hp->Prop)(m:Nat)(e:W m σ H)(hs:∀m σ H,W m σ H->c σ H λb H1=>if b=true then ∃N:St->Hp->Prop,(∀a H',N a H'->∃d,d<m/\W d a H')/\t ⟨N,D.rt,R,N⟩ σ H1 else R σ H1)(k:∀σ H,R σ H->D.nx σ H):uV c t D σ H:=⟨W,R,⟨m,e⟩,hs,k⟩
def rd_aug{i:Nat}{a:jL}{x:V}(e:σ[i]?=Vo (Vo x))(h:te σ H λy H1=>a x y H1 λz H2=>D.nx (σ.set i (Vo z)) H2):uP i te a D σ H:=⟨x,e,h⟩
def rd_ipI{f:Int->Int->Int}{i j:Int}(h:Q (.int (f i j)) H):oU f (.int i) (.int j) H Q:=⟨i,j,rfl,rfl,h⟩
end
section
variable {prog:Vd} {w:Ve} {A:Vi} {E:Va->Vc->Prop} {s:Vc}
def BG{it t:Vb}{i:Nat}{ys:Array Va}{x:Va}{Q:Va->Vc->Prop}(c:s.heap.IsTupleIter it t i)(gt:s.heap.IsTuple t ys)(d:ys[i]?=Vo x)
  (q:∀h',h'.IsTupleIter it t (i+1)->Heap.SameBut it s.heap h'->Q x { s with heap:=h' }):Vf (Vg prog w) A (Builtin.SmallTypes.nextOf (.ref it)) Q E s:=by
 obtain⟨u,b,e,a⟩:=id c;obtain⟨v,g,_,k,h⟩:=gt;unfold Builtin.SmallTypes.nextOf;refine Fl (Gk (name:=F7 "__next__") c.typeIs F.slot_tuple_iterator_next (wpAny_call_entry F.slot_tuple_iterator_next c.typeIs F.entry_tuple_iterator_next ?_ (F.args_tuple_iterator_next_1 _)));show Vf _ _ (field (Value.ref it) 0 >>= _) _ _ s;refine Fl (wpAny_field b a (x:=Value.ref t) rfl ?_);show Vf _ _ (if(Value.ref t == Value.none)=true then _ else _) _ _ s;rw[Gq (show ¬(Value.ref t == Value.none)=true from FI)];show Vf _ _ (field (Value.ref it) 1 >>= _) _ _ s;refine Fl (wpAny_field b a (x:=Value.int i 0) rfl ?_);show Vf _ _ (seqItems? (Value.ref t) >>= _) _ _ s;refine Fl (wpAny_seqItems g h ?_);simp only[FF,d];refine Fl (wpAny_setField b a (by simp) (Fm ⟨x,rfl,Fm (q _ ?_ (Heap.SameBut.update ..))⟩));exact⟨_,Heap.get?_update_self _ b (Obj.isFreed_of_fields (Obj.data_mapFields a _)),(Obj.cls_mapFields ..).trans e,by rw[Obj.data_mapFields a];simp[rawInt]⟩
def BW{it t:Vb}{i:Nat}{ys:Array Va}{Q:Va->Vc->Prop}(hA:A.handled=Vp)(b:s.heap.IsTupleIter it t i)(gt:s.heap.IsTuple t ys)(g:ys[i]?=Vp)
  (q:∀h' e,Heap.ExtBut it s.heap h'->(∃o,h'.get? e=Vo o/\o.cls=.type "StopIteration")->E (.ref e) { s with heap:=h' }):Vf (Vg prog w) A (Builtin.SmallTypes.nextOf (.ref it)) Q E s:=by
 obtain⟨u,c,l,d⟩:=id b;obtain⟨v,h,_,k,j⟩:=gt;unfold Builtin.SmallTypes.nextOf;refine Fl (Gk (name:=F7 "__next__") b.typeIs F.slot_tuple_iterator_next (wpAny_call_entry F.slot_tuple_iterator_next b.typeIs F.entry_tuple_iterator_next ?_ (F.args_tuple_iterator_next_1 _)));show Vf _ _ (field (Value.ref it) 0 >>= _) _ _ s;refine Fl (wpAny_field c d (x:=Value.ref t) rfl ?_);show Vf _ _ (if(Value.ref t == Value.none)=true then _ else _) _ _ s;rw[Gq (show ¬(Value.ref t == Value.none)=true from FI)];show Vf _ _ (field (Value.ref it) 1 >>= _) _ _ s;refine Fl (wpAny_field c d (x:=Value.int i 0) rfl ?_);show Vf _ _ (seqItems? (Value.ref t) >>= _) _ _ s;refine Fl (wpAny_seqItems h j ?_);simp only[FF,g];refine Fl (wpAny_rule (Fl (wpAny_setField c d (by simp) ?_)));show Vf _ _ (newExc (Value.type "StopIteration") [] >>= _) _ _ _;refine Fl ?_;simp only[newExc,newTuple];refine Fl (wpAny_newObj_type (hd:=by size_fits) ?_);refine Fl (m:=firstArgMember _ _) (wpAny_of_eq (a:=Value.none) (by first|rfl|(unfold firstArgMember;rfl)) ?_);refine wpAny_newObj_type (hd:=by size_fits) ?_;simp only[raiseNew];refine Fl (wpAny_handled ?_)
 first|rw [show Around.handled A.in1=Vp from hA]|rw [hA]
 refine Fl (Fm (wpAny_throw ?_));exact q _ _ (((Heap.SameBut.update ..).extBut.push _).push _) ⟨_,Fp _ rfl,rfl⟩
end
structure Sub(P:Vd)(w:Ve)(K:Fn)(J:It)(it:Vb)(tn:Nat->Vh->Prop):Prop where
 obj:∀i h,tn i h->∃o,h.get? it=Vo o/\∀v,o.data≠.cell v
 keep:∀i h h',tn i h->(∀o,h.get? it=Vo o->h'.get? it=Vo o)->tn i h'
 item:∀(X:Cx),X.prog=P->X.w=w->X.K=K->∀(A:Vi) (i:Nat) (pins:List (Vb×Obj)) (s:Vc) (σ:St) (H:Hp) (Q:Va->Vc->Prop) (E:Va->Vc->Prop),Inv X pins σ H s->cH X pins H it->tn i s.heap->J.go i H →
  (∀x u h',Inv X pins σ H { s with heap:=h' }->RelV x u->J.yld i H x H->tn (i+1) h'->Heap.SameBut it s.heap h'->Q u { s with heap:=h' })->Vf (Vg P w) A (Builtin.SmallTypes.nextOf (.ref it)) Q E s
 done:∀(X:Cx),X.prog=P->X.w=w->X.K=K->∀(A:Vi),A.handled=Vp->∀(i:Nat) (pins:List (Vb×Obj)) (s:Vc) (σ:St) (H:Hp) (Q:Va->Vc->Prop) (E:Va->Vc->Prop),Inv X pins σ H s->cH X pins H it->tn i s.heap->J.stop i H →
  (∀h' e,Heap.ExtBut it s.heap h'->(∃o,h'.get? e=Vo o/\o.cls=.type "StopIteration")->E (.ref e) { s with heap:=h' })->Vf (Vg P w) A (Builtin.SmallTypes.nextOf (.ref it)) Q E s
def sD{P:Vd}{w:Ve}{K:Fn}(a it:Vb):Sub P w K (cY K a) it (λi h=>h.IsListIter it a i) where
 obj:=λi h st=>by obtain⟨o,e,c,d⟩:=st;exact⟨o,e,λv z=>by rw[d]at z;cases z⟩
 keep:=λi h h' st k=>st.at k
 item:=by intro X j l m A i pins s σ H Q E I C st n G;subst j l m;obtain⟨xs,x,g,q⟩:=n;obtain⟨r,y,p,J⟩:=I.list g;obtain⟨u,L,M⟩:=y.get q;obtain⟨N,O,Y,R,S,T⟩:=C;exact wpAny_nextOf_list_item st p.isList (x:=u) (by simpa using L) λh' B F=>G x u h' (I.turned (t':=s.toks) (it:=it) (λb o hb e=>(F.2 b hb).trans e) N O R S T) M ⟨rfl,λys U=>by rw[I.list_inj U g];exact q⟩ B F
 done:=by intro X j l m A hA i pins s σ H Q E I C st n W;subst j l m;obtain⟨xs,g,q⟩:=n;obtain⟨r,y,p,J⟩:=I.list g;have Z:=y.length;exact wpAny_nextOf_list_end hA st p.isList (by simp;omega) W
def tZ{P:Vd}{w:Ve}{K:Fn}(a it:Vb):Sub P w K (dG K a) it (λi h=>h.IsTupleIter it a i) where
 obj:=λi h st=>by obtain⟨o,e,c,d⟩:=st;exact⟨o,e,λv z=>by rw[d]at z;cases z⟩
 keep:=λi h h' st k=>st.at k
 item:=by intro X l m n A i pins s σ H Q E I C st q G;subst l m n;obtain⟨xs,x,j,r⟩:=q;obtain⟨g,y,p,J⟩:=I.tuple j;obtain⟨u,L,M⟩:=y.get r;obtain⟨N,O,Y,R,S,T⟩:=C;exact BG st (show s.heap.IsTuple a g.toArray from p) (x:=u) (by simpa using L) λh' B F=>G x u h' (I.turned (t':=s.toks) (it:=it) (λb o hb e=>(F.2 b hb).trans e) N O R S T) M ⟨rfl,λys U=>by rw[I.tuple_inj U j];exact r⟩ B F
 done:=by intro X l m n A hA i pins s σ H Q E I C st q W;subst l m n;obtain⟨xs,j,r⟩:=q;obtain⟨g,y,p,J⟩:=I.tuple j;have Z:=y.length;exact BW hA st (show s.heap.IsTuple a g.toArray from p) (by simp;omega) W
def ir(a b:It):It:=⟨λi H=>a.go i H/\b.go i H,λi H x H'=>∃p u v,x=.ref p/\H p=Vp/\H'=upd H p (.tup [u,v])/\a.yld i H u H/\b.yld i H v H,λi H=>a.stop i H\/(a.go i H/\b.stop i H)⟩
structure Apart(z TI TO i1 i2:Vb):Prop where
 a:TI≠z
 b:TO≠z
 c:i1≠z
 d:i2≠z
 e:TI≠TO
 f:TI≠i1
 g:TI≠i2
 h:TO≠i1
 i:TO≠i2
 j:i1≠i2
section
variable {X:Cx} {pins:List (Vb×Obj)} {σ:St} {H:Hp} {s:Vc}
def Inv.same{it:Vb}{k h':Vh}(I:Inv X pins σ H { s with heap:=k })(f:cH X pins H it)(b:Heap.ExtBut it k h'):Inv X pins σ H { s with heap:=h' }:=by obtain⟨a,d,j,g,h,i⟩:=f;exact Inv.turned (s:={ s with heap:=k }) (t':=s.toks) (it:=it) I (λc o hb e=>b c o hb e) a d g h i
def AU{J1 J2:It}{z TI TO i1 i2:Vb}{R S:Nat->Vh->Prop}{A:Vi}{E:Va->Vc->Prop}{a b:Va}{i:Nat}{Q:Va->Vc->Prop}(F:Sub X.prog X.w X.K J1 i1 R)(T:Sub X.prog X.w X.K J2 i2 S)(N:Apart z TI TO i1 i2)
  (I:Inv X pins σ H s) (U:∀b∈[z,TI,TO,i1,i2],cH X pins H b) (J:IsZip s.heap z TI TO .none) (gI:IsPair s.heap TI (.ref i1) (.ref i2)) (gO:IsPair s.heap TO a b) (g1:R i s.heap) (g2:S i s.heap) (a0:J1.go i H) (go2:J2.go i H)
  (q:∀x y h',Inv X pins σ (upd H s.heap.objs.size (.tup [x,y])) { s with heap:=h' }->J1.yld i H x H->J2.yld i H y H->IsZip h' z TI TO (rawInt s.heap.objs.size)->IsPair h' TI (.ref i1) (.ref i2)->(∃a b,IsPair h' TO a b)->R (i+1) h'->S (i+1) h'->Q (.ref s.heap.objs.size) { s with heap:=h' }) :
  Vf (Vg X.prog X.w) A (Builtin.«zip.__next__» ⟨[.ref z],[]⟩) (λfin s'=>∃v,fin=.done (.ret v)/\Q v s') E s:=by
 have fz:=U z (by simp);have fO:=U TO (by simp);have f1:=U i1 (by simp);have f2:=U i2 (by simp);show Vf _ _ (field (Value.ref z) 2 >>= _) _ _ _;refine Fl (wpAny_field J rfl (x:=Value.bool false) rfl ?_);show Vf _ _ (field (Value.ref z) 3 >>= _) _ _ _;refine Fl (wpAny_field J rfl (x:=Value.ref TI) rfl ?_);refine Fl (wpAny_seqItems gI rfl ?_);show Vf _ _ (Builtin.SmallTypes.ownedTupleIsFree (Value.ref z) >>= _) _ _ _;refine Fl ?_;unfold Builtin.SmallTypes.ownedTupleIsFree;refine Fl (wpAny_field J rfl (x:=Value.none) rfl (Fm ?_));simp only[if_true];refine Fl (wpAny_rule ?_);refine Fl (wpAny_field J rfl (x:=Value.ref TO) rfl ?_);refine Fl (wpAny_setField_rec J (by simp) λk1 p m=>?_)
 replace p:IsZip k1 z TI TO .ellipsis:=p
 have s1:=m.1
 replace m:=m.extBut
 have I1:Inv X pins σ H { s with heap:=k1 }:=Inv.same (show Inv X pins σ H { s with heap:=s.heap }from I) fz m;refine Fl ?_;simp only[List.zipIdx_cons,List.zipIdx_nil,List.forIn_cons,List.forIn_nil];refine Fl (Fl (wpAny_onRaise ?_));show Vf _ _ (Builtin.SmallTypes.nextOf (Value.ref i1) >>= _) _ _ _;refine Fl (F.item X rfl rfl rfl _ i pins _ σ H _ _ I1 f1 (F.keep i _ _ g1 λo e=>m _ _ N.c e) a0 λx G k2 I2 rx yx a1 r=>Fm ?_)
 replace I2:Inv X pins σ H { s with heap:=k2 }:=I2
 have s2:=r.1
 replace r:=r.extBut
 have L:IsPair k2 TO a b:=r _ _ N.h (m _ _ N.b gO);refine Fl (wpAny_seqItems L rfl ?_);refine Fl (wpAny_updateSeq_pair L λk3 u b3=>?_)
 replace u:IsPair k3 TO G b:=u
 have s3:=b3.1
 replace b3:=b3.extBut
 have I3:Inv X pins σ H { s with heap:=k3 }:=Inv.same I2 fO b3;refine Fl (wpAny_letGo (Fm ?_));refine Fl (Fl (wpAny_onRaise ?_));show Vf _ _ (Builtin.SmallTypes.nextOf (Value.ref i2) >>= _) _ _ _;refine Fl (T.item X rfl rfl rfl _ i pins _ σ H _ _ I3 f2 (T.keep i _ _ g2 λo e=>b3 _ _ (Ne.symm N.i) (r _ _ (Ne.symm N.j) (m _ _ N.d e))) go2 λy W k4 I4 ry yy a2 B=>Fm ?_)
 replace I4:Inv X pins σ H { s with heap:=k4 }:=I4
 have s4:=B.1
 replace B:=B.extBut
 have M:IsPair k4 TO G b:=B _ _ N.i u;refine Fl (wpAny_seqItems M rfl ?_);refine Fl (wpAny_updateSeq_pair M λk5 k n=>?_)
 replace k:IsPair k5 TO G W:=k
 have s5:=n.1
 replace n:=n.extBut
 have I5:Inv X pins σ H { s with heap:=k5 }:=Inv.same I4 fO n;refine Fl (wpAny_letGo (Fm (Fm ?_)));refine Fl (wpAny_seqItems k rfl ?_);refine Fl (wpAny_newTuple ?_);have sz:k5.objs.size=s.heap.objs.size:=by rw[s5,s4,s3,s2,s1]
 have O:IsZip k5 z TI TO .ellipsis:=n _ _ (Ne.symm N.b) (B _ _ (Ne.symm N.d) (b3 _ _ (Ne.symm N.b) (r _ _ (Ne.symm N.c) p)));have a3:IsPair k5 TI (.ref i1) (.ref i2):=n _ _ N.e (B _ _ N.g (b3 _ _ N.e (r _ _ N.f (m _ _ N.a gI))));have a4:R (i+1) k5:=F.keep _ _ _ (F.keep _ _ _ (F.keep _ _ _ a1 λo e=>b3 _ _ (Ne.symm N.h) e) λo e=>B _ _ N.j e) λo e=>n _ _ (Ne.symm N.h) e;have a5:S (i+1) k5:=T.keep _ _ _ a2 λo e=>n _ _ (Ne.symm N.i) e;have lz:z<k5.objs.size:=Fq O;have I6:Inv X pins σ (upd H k5.objs.size (.tup [x,y])) { s with heap:=k5.push { cls:=.type "tuple",data:=.seq #[G,W] } }:=
  I5.laid (t':=s.toks) (o:=.tup [x,y]) (λb ob e=>Fo _ e) (FN _) ⟨by show 2<=sizeLine;decide,[G,W],.cons rx (.cons ry .nil),IsTup.new _ _⟩
 have P:cH X pins (upd H k5.objs.size (.tup [x,y])) z:=by obtain⟨c0,c1,c2,c3,c4,c5⟩:=fz;exact⟨by rw[aG (FL lz)];exact c0,c1,c2,c3,c4,c5⟩
 show Vf _ _ (Builtin.SmallTypes.ownedTupleHandOut (Value.ref z) (Value.ref k5.objs.size) >>= _) _ _ _;refine Fl ?_;unfold Builtin.SmallTypes.ownedTupleHandOut;have a6:IsZip (k5.push { cls:=.type "tuple",data:=.seq #[G,W] }) z TI TO .ellipsis:=Fo _ O;refine Fl (wpAny_setField_rec a6 (by simp) λk7 C Y=>?_)
 replace C:IsZip k7 z TI TO (rawInt k5.objs.size):=C
 replace Y:=Y.extBut
 have I7:Inv X pins σ (upd H k5.objs.size (.tup [x,y])) { s with heap:=k7 }:=Inv.same I6 P Y;refine wpAny_setField_rec C (by simp) λk8 l Z=>?_
 replace l:IsZip k8 z TI TO (rawInt k5.objs.size):=l
 replace Z:=Z.extBut
 have I8:Inv X pins σ (upd H k5.objs.size (.tup [x,y])) { s with heap:=k8 }:=Inv.same I7 P Z;have up:∀b o,b≠z->k5.get? b=Vo o->k8.get? b=Vo o:=λb o ne e=>Z _ _ ne (Y _ _ ne (Fo _ e));rw[sz]at I8 l;refine Fm ⟨_,rfl,?_⟩;show Q (.ref k5.objs.size) _;rw[sz];exact q x y k8 I8 yx yy l (up _ _ N.a a3) ⟨_,_,up _ _ N.b k⟩ (F.keep _ _ _ a4 λo e=>up _ o N.c e) (T.keep _ _ _ a5 λo e=>up _ o N.d e)
def B3{F R:It}{z TI TO i1 i2:Vb}{G S:Nat->Vh->Prop}{A:Vi}{E:Va->Vc->Prop}{a b:Va}{i:Nat}{Q:Fin->Vc->Prop}(hA:A.handled=Vp)(J:Sub X.prog X.w X.K F i1 G)(T:Sub X.prog X.w X.K R i2 S)(N:Apart z TI TO i1 i2)
  (I:Inv X pins σ H s) (C:∀b∈[z,TI,TO,i1,i2],cH X pins H b) (p:IsZip s.heap z TI TO .none) (gI:IsPair s.heap TI (.ref i1) (.ref i2)) (gO:IsPair s.heap TO a b) (g1:G i s.heap) (g2:S i s.heap) (st:F.stop i H\/(F.go i H/\R.stop i H))
  (q:∀h' e,Inv X pins σ H { s with heap:=h' }->(∃o,h'.get? e=Vo o/\o.cls=.type "StopIteration")->E (.ref e) { s with heap:=h' }) :
  Vf (Vg X.prog X.w) A (Builtin.«zip.__next__» ⟨[.ref z],[]⟩) Q E s:=by
 have L:=C z (by simp);have fO:=C TO (by simp);have M:=C i1 (by simp);have U:=C i2 (by simp);show Vf _ _ (field (Value.ref z) 2 >>= _) _ _ _;refine Fl (wpAny_field p rfl (x:=Value.bool false) rfl ?_);show Vf _ _ (field (Value.ref z) 3 >>= _) _ _ _;refine Fl (wpAny_field p rfl (x:=Value.ref TI) rfl ?_);refine Fl (wpAny_seqItems gI rfl ?_);show Vf _ _ (Builtin.SmallTypes.ownedTupleIsFree (Value.ref z) >>= _) _ _ _;refine Fl ?_;unfold Builtin.SmallTypes.ownedTupleIsFree;refine Fl (wpAny_field p rfl (x:=Value.none) rfl (Fm ?_));simp only[if_true];refine Fl (wpAny_rule ?_);refine Fl (wpAny_field p rfl (x:=Value.ref TO) rfl ?_);refine Fl (wpAny_setField_rec p (by simp) λk1 l n=>?_)
 replace l:IsZip k1 z TI TO .ellipsis:=l
 replace n:=n.extBut
 have O:Inv X pins σ H { s with heap:=k1 }:=Inv.same (show Inv X pins σ H { s with heap:=s.heap }from I) L n;refine Fl ?_;simp only[List.zipIdx_cons,List.zipIdx_nil,List.forIn_cons,List.forIn_nil];refine Fl (Fl (wpAny_onRaise ?_));show Vf _ _ (Builtin.SmallTypes.nextOf (Value.ref i1) >>= _) _ _ _;have r:G i k1:=J.keep i _ _ g1 λo e=>n _ _ N.c e;rcases st with st|⟨go,st⟩
 ·refine Fl (J.done X rfl rfl rfl _ hA i pins _ σ H _ _ O M r st λk2 e m P=>?_);obtain⟨oe,g,k⟩:=P;have u:IsZip k2 z TI TO .ellipsis:=m _ _ (Ne.symm N.c) l;have v:Inv X pins σ H { s with heap:=k2 }:=Inv.same O M m;have ne:e≠z:=λx=>by subst x;rw[u]at g;cases g;simp at k
  exact wpAny_setField_rec u (by simp) λk3 _ b3=>q k3 e (Inv.same v L b3.extBut) ⟨oe,b3.extBut _ _ ne g,k⟩
 ·refine Fl (J.item X rfl rfl rfl _ i pins _ σ H _ _ O M r go λx ux k2 v rx yx a0 m=>Fm ?_)
  replace v:Inv X pins σ H { s with heap:=k2 }:=v
  replace m:=m.extBut
  have y:IsPair k2 TO a b:=m _ _ N.h (n _ _ N.b gO);refine Fl (wpAny_seqItems y rfl ?_);refine Fl (wpAny_updateSeq_pair y λk3 a1 b3=>?_)
  replace b3:=b3.extBut
  have W:Inv X pins σ H { s with heap:=k3 }:=Inv.same v fO b3;refine Fl (wpAny_letGo (Fm ?_));refine Fl (Fl (wpAny_onRaise ?_));show Vf _ _ (Builtin.SmallTypes.nextOf (Value.ref i2) >>= _) _ _ _;refine Fl (T.done X rfl rfl rfl _ hA i pins _ σ H _ _ W U (T.keep i _ _ g2 λo e=>b3 _ _ (Ne.symm N.i) (m _ _ (Ne.symm N.j) (n _ _ N.d e))) st λk4 e Y P=>?_);obtain⟨oe,g,k⟩:=P;have B:IsZip k4 z TI TO .ellipsis:=Y _ _ (Ne.symm N.d) (b3 _ _ (Ne.symm N.b) (m _ _ (Ne.symm N.c) l));have I4:Inv X pins σ H { s with heap:=k4 }:=Inv.same W U Y;have ne:e≠z:=λx=>by subst x;rw[B]at g;cases g;simp at k
  exact wpAny_setField_rec B (by simp) λk5 _ Z=>q k5 e (Inv.same I4 L Z.extBut) ⟨oe,Z.extBut _ _ ne g,k⟩
end
def zt{P:Vd}{w:Ve}{K:Fn}{elts:List Vk}{kk:Nat}{ps:Pos}{U W:It}{z TI TO i1 i2:Vb}{Y Z:Nat->Vh->Prop}(q:Sub P w K U i1 Y)(r:Sub P w K W i2 Z)(N:Apart z TI TO i1 i2):
  Turn P w K (.Tuple elts kk ps) (ir U W) [z,TI,TO,i1,i2] z (λi h=>IsZip h z TI TO .none/\IsPair h TI (.ref i1) (.ref i2)/\(∃a b,IsPair h TO a b)/\Y i h/\Z i h) where
 mem:=by simp
 obj:=λi h st b hb=>by
  obtain⟨g,j,⟨a,c,l⟩,m,n⟩:=st;simp only[FH,FZ,or_false]at hb;rcases hb with rfl|rfl|rfl|rfl|rfl
  ·exact⟨_,g,λv e=>by cases(show Data.fields _=Data.cell v from e)⟩
  ·exact⟨_,j,λv e=>by cases(show Data.seq _ _=Data.cell v from e)⟩
  ·exact⟨_,l,λv e=>by cases(show Data.seq _ _=Data.cell v from e)⟩
  ·exact q.obj _ _ m
  ·exact r.obj _ _ n
 keep:=λi h h' st k=>by obtain⟨g,j,⟨a,c,l⟩,m,n⟩:=st;exact⟨k z (by simp) _ g,k TI (by simp) _ j,⟨a,c,k TO (by simp) _ l⟩,q.keep _ _ _ m λo e=>k i1 (by simp) o e,r.keep _ _ _ n λo e=>k i2 (by simp) o e⟩
 item:=by
  intro X C G J hc i pins s σ H E I u st B;subst C G J;obtain⟨g,j,⟨a,c,l⟩,m,n⟩:=st;have A:s.TypeIs (.ref z) "zip":=⟨_,g,rfl⟩;unfold pyNext;refine Fl (wpAny_attempt (Gk (name:=F7 "__next__") A F.slot_zip_next (wpAny_call_entry F.slot_zip_next A F.entry_zip_next
   (AU q r N I u g j l m n B.1 B.2 λx y h' L yx yy M O p Q R=>Fm ⟨_,rfl,?_⟩) (F.args_zip_next_1 _))))
  have lt:∀b∈[z,TI,TO,i1,i2],b≠s.heap.objs.size:=λb hb=>by
   obtain⟨f0,f1,f2,f3,f4,f5⟩:=u b hb;simp only[FH,FZ,or_false]at hb;rcases hb with rfl|rfl|rfl|rfl|rfl
   ·exact FL (Fq g)
   ·exact FL (Fq j)
   ·exact FL (Fq l)
   ·obtain⟨o,e,_⟩:=q.obj _ _ m;exact FL (Fq e)
   ·obtain⟨o,e,_⟩:=r.obj _ _ n;exact FL (Fq e)
  have fz:cH X pins (upd H s.heap.objs.size (.tup [x,y])) z:=by obtain⟨c0,c1,c2,c3,c4,c5⟩:=u z (by simp);exact⟨by rw[aG (lt z (by simp))];exact c0,c1,c2,c3,c4,c5⟩
  obtain⟨a',c',p⟩:=p;refine wpAny_letOwnedTupleGo_zip (s:={ s with heap:=h' }) M λk gk bk=>?_;refine⟨.ref s.heap.objs.size,upd H s.heap.objs.size (.tup [x,y]),Inv.same L fz bk.extBut,rfl,⟨_,x,y,rfl,I.hok.fresh (FN _),rfl,yx,yy⟩,
   ⟨gk,bk.extBut _ _ N.a O,⟨_,_,bk.extBut _ _ N.b p⟩,q.keep _ _ _ Q λo e=>bk.extBut _ _ N.c e,r.keep _ _ _ R λo e=>bk.extBut _ _ N.d e⟩,λb hb=>?_⟩
  rw[aG (lt b hb)];exact(u b hb).1
 done:=by
  intro X C G J hc i pins s σ H E I u st B;subst C G J;obtain⟨g,j,⟨a,c,l⟩,m,n⟩:=st;have A:s.TypeIs (.ref z) "zip":=⟨_,g,rfl⟩;unfold pyNext;refine Fl (wpAny_attempt (Gk (name:=F7 "__next__") A F.slot_zip_next (wpAny_call_entry F.slot_zip_next A F.entry_zip_next
   (B3 (I.ok.hd hc) q r N I u g j l m n B λh' e L he=>?_) (F.args_zip_next_1 _))))
  obtain⟨o,ho,S⟩:=he;refine Fl (wpAny_isInstance (s:={ s with heap:=h' }) (T:="StopIteration") (b:=true) ⟨o,ho,S⟩ isSubtype_stop ?_);exact Fm ⟨rfl,L⟩
 self:=λ_ _ _ _ _ st h=>wpAny_pyIter_zip st.1 h
abbrev ka(h:Vh)(a:Vb):Vh:=h.push { cls:=.type "tuple_iterator",data:=.fields #[.ref a,.int 0 0] }
abbrev lL(h:Vh)(a b:Vb):Vh:=(ka h a).push { cls:=.type "tuple_iterator",data:=.fields #[.ref b,.int 0 0] }
abbrev kH(h:Vh)(a b:Vb):Vh:=(lL h a b).push { cls:=.type "tuple",data:=.seq #[.ref h.objs.size,.ref (ka h a).objs.size] }
abbrev kB(h:Vh)(a b:Vb):Vh:=(kH h a b).push { cls:=.type "tuple",data:=.seq #[.none,.none] }
abbrev iQ(h:Vh)(a b:Vb):Vh:=(kB h a b).push { cls:=.type "zip",data:=.fields #[.none,.bool false,.bool false,.ref (lL h a b).objs.size,.ref (kH h a b).objs.size] }
def Dh(a b:Vb)(xs ys:Array Va):Meets (Builtin.«zip.__new__» ⟨[.type "zip",.ref a,.ref b],[]⟩) (λ_ R s=>s.heap.IsTuple a xs/\s.heap.IsTuple b ys/\R (.ok (.ret (.ref (kB s.heap a b).objs.size))) { s with heap:=iQ s.heap a b }):=
 .of_wp λprog w A R s q=>by
  obtain⟨c,g,d,tk,os⟩:=s;obtain⟨ga,e,q⟩:=q;have hsub:=sub_zip;have h:Heap.IsTuple (Shared.heap ⟨c,g,d,tk,os⟩) a xs:=ga;have i:Heap.IsTuple (Shared.heap ⟨c.push { cls:=.type "tuple_iterator",data:=.fields #[.ref a,.int 0 0] },g,d,tk,os⟩) b ys:=Heap.IsTuple.push e _
  wp_walk using wpAny_pyIter_tuple h,wpAny_pyIter_tuple i
  exact⟨_,rfl,q⟩
def EX{prog:Vd}{w:Ve}{A:Vi}{E:Va->Vc->Prop}{s:Vc}{a b:Vb}{xs ys:Array Va}{Q:Va->Vc->Prop}(ga:s.heap.IsTuple a xs)(i:s.heap.IsTuple b ys)
  (q:∀h',IsZip h' (s.heap.objs.size+4) (s.heap.objs.size+2) (s.heap.objs.size+3) .none->IsPair h' (s.heap.objs.size+2) (.ref s.heap.objs.size) (.ref (s.heap.objs.size+1))->IsPair h' (s.heap.objs.size+3) .none .none →
   h'.IsTupleIter s.heap.objs.size a 0->h'.IsTupleIter (s.heap.objs.size+1) b 0->(∀c o,s.heap.get? c=Vo o->h'.get? c=Vo o)->Q (.ref (s.heap.objs.size+4)) { s with heap:=h' }) :
  Vf (Vg prog w) A (call (.type "zip") [.ref a,.ref b]) Q E s:=by
 refine callType_new F.called_zip (by decide) (F.typeCall_zip_2 _ _) (F.newCall_zip_2 _ _) (λj=>F.args_object_init_3 j _ _) F.entry_zip_new (Dh a b xs ys) ⟨ga,i,?_⟩;have d:(ka s.heap a).objs.size=s.heap.objs.size+1:=Heap.size_push ..;have e:(lL s.heap a b).objs.size=s.heap.objs.size+2:=by rw[Heap.size_push,d]
 have g:(kH s.heap a b).objs.size=s.heap.objs.size+3:=by rw[Heap.size_push,e]
 have h:(kB s.heap a b).objs.size=s.heap.objs.size+4:=by rw[Heap.size_push,g]
 have k5:(iQ s.heap a b).get? (kB s.heap a b).objs.size=Vo _:=Fp _ rfl;have k4:(iQ s.heap a b).get? (kH s.heap a b).objs.size=Vo _:=Fo _ (Fp _ rfl);have k3:(iQ s.heap a b).get? (lL s.heap a b).objs.size=Vo _:=Fo _ (Fo _ (Fp _ rfl));have k2:(iQ s.heap a b).get? (ka s.heap a).objs.size=Vo _:=Fo _ (Fo _ (Fo _ (Fp _ rfl)));have k1:(iQ s.heap a b).get? s.heap.objs.size=Vo _:=Fo _ (Fo _ (Fo _ (Fo _ (Fp _ rfl))));show _/\_;rw[e,g,h]at k5;rw[d,e]at k3;rw[g]at k4;rw[d]at k2;rw[h];exact⟨⟨_,k5,rfl⟩,q _ k5 k3 k4 ⟨_,k1,rfl,rfl⟩ ⟨_,k2,rfl,rfl⟩ λc o x=>Fo _ (Fo _ (Fo _ (Fo _ (Fo _ x))))⟩
section
variable {K:Fn} {σ:St} {H:Hp} {Q:VK}
def oM(K:Fn):List V->Hp->(It->Hp->Prop)->Prop:=λvs H R=>∃a b xs ys,vs=[.ref a,.ref b]/\((aj K H a xs/\aj K H b ys/\R (ir (dG K a) (dG K b)) H)\/(ag K H a xs/\ag K H b ys/\R (ir (cY K a) (cY K b)) H))
def vZ(K:Fn)(ta:TA):TI:=λσ H R=>ta σ H λvs H1=>oM K vs H1 R
def kr{X:Cx}{elts:List Vk}{kk:Nat}{ps:Pos}(K:Fn){a b:Vk}{ta:TA}{p pos:Pos}(M:Gl X "zip")(O:X.mg "zip" = Vp)(ha:PA X [a,b] ta)(P:X.K=K:=by rfl)(hs:starEach [a,b] X.env=[(false,eval a X.env),(false,eval b X.env)]:=by rfl)(j:starEach [b] X.env=[(false,eval b X.env)]:=by rfl):
  PI X (.Tuple elts kk ps) (.Call (.Name "zip" p) [a,b] [] pos) (vZ K ta):=by
 subst P;intro pins s σ H R I h;refine Call_ (gg I M O PyProof.Rows.boot_zip (PyProof.Rows.callWith_type1 (aD (ha pos pins s σ H _ I h) λus s1 ⟨vs,H1,g,r1,z⟩=>?_) (by rw[hs,j]) (by rw[j];rfl)));obtain⟨l,m,xs,ys,e,z⟩:=z;subst e;cases r1 with
 | cons r B=>
  cases B with
  | cons Q B=>
   cases B;cases r;cases Q;have mk:∀{C E:It} {F G:Nat->Vh->Prop},Sub X.prog X.w X.K C s1.heap.objs.size F->Sub X.prog X.w X.K E (s1.heap.objs.size+1) G->∀h',IsZip h' (s1.heap.objs.size+4) (s1.heap.objs.size+2) (s1.heap.objs.size+3) .none->IsPair h' (s1.heap.objs.size+2) (.ref s1.heap.objs.size) (.ref (s1.heap.objs.size+1)) →
     IsPair h' (s1.heap.objs.size+3) .none .none->F 0 h'->G 0 h'->(∀c o,s1.heap.get? c=Vo o->h'.get? c=Vo o)->R (ir C E) H1->Vf (Vg X.prog X.w) X.A (pyIter (.ref (s1.heap.objs.size+4))) (nU X pins σ (.Tuple elts kk ps) R) X.xe { s1 with heap:=h' }:=by
    intro C E F G S T h' i n u v x k q;refine wpAny_pyIter_zip (s:={ s1 with heap:=h' }) i ?_;have N:Apart (s1.heap.objs.size+4) (s1.heap.objs.size+2) (s1.heap.objs.size+3) s1.heap.objs.size (s1.heap.objs.size+1):=by constructor<;>(intro h;have h':@Eq Nat _ _:=h;omega)
    refine⟨s1.heap.objs.size+4,[s1.heap.objs.size+4,s1.heap.objs.size+2,s1.heap.objs.size+3,s1.heap.objs.size,s1.heap.objs.size+1],_,_,H1,rfl,g.kept (t':=s1.toks) k,zt S T N,⟨i,n,⟨_,_,u⟩,v,x⟩,λb hb=>?_,q⟩;have le:@LE.le Nat _ s1.heap.objs.size b:=by
     simp only[FH,FZ,or_false]at hb;rcases hb with rfl|rfl|rfl|rfl|rfl
     ·exact Nat.le_add_right _ _
     ·exact Nat.le_add_right _ _
     ·exact Nat.le_add_right _ _
     ·exact FN _
     ·exact Nat.le_add_right _ _
    exact g.fpOk le (g.hok.fresh le)
   rcases z with⟨ga,J,q⟩|⟨ga,J,q⟩
   ·obtain⟨y,_,L,_⟩:=g.tuple ga;obtain⟨d,_,p2,_⟩:=g.tuple J;exact EX (show s1.heap.IsTuple l y.toArray from L) (show s1.heap.IsTuple m d.toArray from p2) λh' i n u v x k=>mk (tZ l _) (tZ m _) h' i n u v x k q
   ·obtain⟨y,_,L,_⟩:=g.list ga;obtain⟨d,_,p2,_⟩:=g.list J;exact call_zip_2 L.isList p2.isList λh' i n u v x _ k=>mk (sD l _) (sD m _) h' i n u v x k q
def rd_zip{a:TA}{R:It->Hp->Prop}(h:a σ H λvs H1=>oM K vs H1 R):vZ K a σ H R:=h
def kn{a b:Vb}{xs ys:List V}{R:It->Hp->Prop}(ha:ag K H a xs)(hb:ag K H b ys)(h:R (ir (cY K a) (cY K b)) H):oM K [.ref a,.ref b] H R:=⟨a,b,xs,ys,rfl,.inr ⟨ha,hb,h⟩⟩
def Fi{a b:Vb}{xs ys:List V}{n:Nat}{js:List Nat}{g:TG}{tc:TT}{te:TE}(Pv:Nat->List V->Hp->Prop)(G:xs.length<=sizeLine)(q:Pv 0 [] H)(r:∀i zs H,Pv i zs H->aj K H a xs/\aj K H b ys/\zs.length<=i)
  (hs:∀i u v zs H p H',xs[i]?=Vo u->ys[i]?=Vo v->Pv i zs H->Ext H H'->H' p=Vo (.tup [u,v])->H p=Vp->g (.ref p) (df n js σ) H' λc s=>tc c s λb l=>if b=true then te c l λv w=>Pv (i+1) (zs++[v]) w else Pv (i+1) zs l)
  (hd:∀zs H p,Pv (min xs.length ys.length) zs H->H p=Vp->Q (.ref p) (upd H p (.lst zs))):ij (ir (dG K a) (dG K b)) n js g tc te σ H Q:=by
 refine⟨λi m zs H=>m=min xs.length ys.length-i/\i<=min xs.length ys.length/\Pv i zs H,⟨min xs.length ys.length,by simp,Nat.zero_le _,q⟩,?_⟩;rintro i m zs H ⟨rfl,hi,p⟩;obtain⟨d,j,I⟩:=r i zs H p;by_cases hlt:i<min xs.length ys.length
 ·have z:i<xs.length:=by omega
  have A:i<ys.length:=by omega
  refine .inr ⟨⟨⟨xs,xs[i],d,by simp[z]⟩,⟨ys,ys[i],j,by simp[A]⟩⟩,by omega,Pv (i+1),λB H' k=>⟨min xs.length ys.length-(i+1),by omega,rfl,hlt,k⟩,λx H' y=>?_⟩;obtain⟨pp,u,v,rfl,o,rfl,C,E⟩:=y;exact hs i u v zs H pp _ (C.2 xs d) (E.2 ys j) p (aV o) aI o
 ·have e:i=min xs.length ys.length:=by omega
  refine .inl ⟨?_,λk F=>hd zs H k (e ▸ p) F⟩;by_cases h:xs.length<=i
  ·exact .inl ⟨xs,d,h⟩
  ·exact .inr ⟨⟨xs,xs[i]'(by omega),d,Ft (by omega)⟩,⟨ys,j,by omega⟩⟩
def lA{a b:Vb}{xs ys:List V}{n:Nat}{js:List Nat}{g:TG}{tc:TT}{te:TE}(Pv:Nat->List V->Hp->Prop)(G:xs.length<=sizeLine)(q:Pv 0 [] H)(r:∀i zs H,Pv i zs H->ag K H a xs/\ag K H b ys/\zs.length<=i)
  (hs:∀i u v zs H p H',xs[i]?=Vo u->ys[i]?=Vo v->Pv i zs H->Ext H H'->H' p=Vo (.tup [u,v])->H p=Vp->g (.ref p) (df n js σ) H' λc s=>tc c s λb l=>if b=true then te c l λv w=>Pv (i+1) (zs++[v]) w else Pv (i+1) zs l)
  (hd:∀zs H p,Pv (min xs.length ys.length) zs H->H p=Vp->Q (.ref p) (upd H p (.lst zs))):ij (ir (cY K a) (cY K b)) n js g tc te σ H Q:=by
 refine⟨λi m zs H=>m=min xs.length ys.length-i/\i<=min xs.length ys.length/\Pv i zs H,⟨min xs.length ys.length,by simp,Nat.zero_le _,q⟩,?_⟩;rintro i m zs H ⟨rfl,hi,p⟩;obtain⟨d,j,I⟩:=r i zs H p;by_cases hlt:i<min xs.length ys.length
 ·have z:i<xs.length:=by omega
  have A:i<ys.length:=by omega
  refine .inr ⟨⟨⟨xs,xs[i],d,by simp[z]⟩,⟨ys,ys[i],j,by simp[A]⟩⟩,by omega,Pv (i+1),λB H' k=>⟨min xs.length ys.length-(i+1),by omega,rfl,hlt,k⟩,λx H' y=>?_⟩;obtain⟨pp,u,v,rfl,o,rfl,C,E⟩:=y;exact hs i u v zs H pp _ (C.2 xs d) (E.2 ys j) p (aV o) aI o
 ·have e:i=min xs.length ys.length:=by omega
  refine .inl ⟨?_,λk F=>hd zs H k (e ▸ p) F⟩;by_cases h:xs.length<=i
  ·exact .inl ⟨xs,d,h⟩
  ·exact .inr ⟨⟨xs,xs[i]'(by omega),d,Ft (by omega)⟩,⟨ys,j,by omega⟩⟩
end
mutual
inductive LitE:Vk->TE->Prop
 | non {j pos}:LitE (.Constant .none j pos) (tC .non)
 | bl {b j pos}:LitE (.Constant (.bool b) j pos) (tC (.bl b))
 | int {i j pos}:LitE (.Constant (.int i) j pos) (tC (.int i))
 | str {x j pos}:LitE (.Constant (.str x) j pos) (tC (.str x))
 | tup {es ta k pos}:LitsE es ta->LitE (.Tuple es k pos) (oJ ta)
inductive LitsE:List Vk->TA->Prop
 | nil:LitsE [] qE
 | cons {e te es ta}:LitE e te->LitsE es ta->LitsE (e::es) (mn te ta)
end
def fV(c:Vb)(q:Vn):HO:=.ext λh=>h.CodeRec (.ref c) q
def Eg{P:Vd}{w:Ve}{H:Hp}{h:Vh}{c:Vb}{q:Vn}(r:h.CodeRec (.ref c) q):bE P w H h c (fV c q):=by
 refine⟨r,?_,λh1 h2 r1 k=>?_⟩
 ·obtain⟨c',o,vs,t,e,g,_⟩:=r;cases e;exact⟨o,g⟩
 ·obtain⟨c',o,vs,t,e,g,d⟩:=r1;cases e;exact⟨c,o,vs,t,rfl,k o g,d⟩
section
variable {X:Cx} {pins:List (Vb×Obj)} {σ:St} {H:Hp} {s:Vc}
end
structure Tab(K:Fn)(mg:Vn->Option Va)(base:Vh)(x:Vn)(c T:Vb):Prop where
 tin:PySem.W.tabIn K x=Vo (c,T)
 hd:PySem.W.CodeHd base c T
 blt:base.BuiltinsAt mg T
 gl:Vj≠T
 kin:K.In base
 ns:base.Ns Vj mg
section
variable {P:Vd} {w:Ve} {K:Fn} {mg:Vn->Option Va} {base:Vh}
def CJ{x:Vn}{c T f:Vb}{o:Obj}{fd:Vm}(a:PySem.W.tabIn K x=Vo (c,T))(e:K.In base)(G:base.Ns Vj mg)(g:mg x=Vo (.ref f))(h:K.lookup f=Vo o)(hd:o.data=.func fd):fd.code=.ref c:=by
 unfold PySem.W.tabIn at a;split at a
 ·rename_i f' hf;have d:=PySem.W.mg_of e G hf;rw[g]at d;cases d;split at a
  ·rename_i b;rw[h]at b;cases b;cases hd;split at a
   ·rename_i c2 hc;split at a
    ·split at a
     ·cases a;exact hc
     ·cases a
    ·cases a
   ·cases a
  ·cases a
 ·cases a
def Dfn.okL{x:Vn}{st:Vl}{N ps:List Vn}{k:Nat}{sp:Sp}{c T:Vb}(D:Dfn K mg x st ps)(B:Tab K mg base x c T)(S:FnScope N ps (aH st))(len:∀vs H Q E,sp vs H Q E->vs.length=ps.length)
  (a:∀(X:Cx) (j:∃f A outer s H E,X=(gG dI P w K mg base N x (aH st) f (.ref c) A outer s H E).nox/\Room k X.A) (H:Hp) (vs:List V) (Q:VK) (E:XK),sp vs H Q E →
   ∃t,cP X (eR st) t/\t { nx:=λ_ H'=>Q .non H',rt:=Q } (start N vs) H):Cal P w K mg base x (k+1) ps sp:=by
 obtain⟨f,fd,d,F,hb⟩:=D.ex;refine⟨f,fd,d,F.kp,hb,?_⟩;obtain⟨oc,od,kV,doc,pm,an,cdv,ct,osl,rfl,g,b⟩:=F.ex;have e:cdv=.ref c:=CJ B.tin B.kin B.ns d g rfl;subst e;refine vv g b S len λA outer s H vs Q E i hsp=>?_;obtain⟨t,h,q⟩:=a _ ⟨f,A,outer,s,H,E,rfl,i⟩ H vs Q E hsp;exact⟨t,h.nox,q⟩
end
def sY(tabs:List (Vb×Vb))(H:Hp):Prop:=∀q∈tabs,H q.2=Vo (.tbl #[])
def zC{P:Vd}{w:Ve}{K:Fn}{mg mb:Vn->Option Va}{k:Nat}{O a:Vb}{fd:Vm}{x:Vn}{sp:Sp}{c:Vc}{vs:List Va}{ns:List Int}{tabs:List (Vb×Vb)}
  (Q:K.In c.heap) (hK:PySem.W.noTabs K=true) (p:PySem.W.TabsAt tabs c.heap) (y:c.heap.Ns Vj mg) (hb:c.heap.Ns builtinsNs mb) (R:∀x:Vn,x≠"__name__"->mb x=bootBuiltins x) (I:c.heap.NoLimit)
  (S:∃bm A,mg "__builtins__" = Vo (.ref bm)/\bm≠builtinsNs/\c.heap.get? bm=Vo A/\A.cls=.type "module"/\A.dict=Vo builtinsNs/\A.data=.plain) (hg:c.gens = #[])
  (ha:c.heap.get? a=Vo { cls:=.type "list",data:=.seq vs.toArray }) (hi:IntsAre vs ns) (X:ns.length<=sizeLine) (hr:Room k callerA)
  (F:∀base:Vh,K.In base->base.Ns Vj mg->(∀q∈tabs,PySem.W.CodeHd base q.1 q.2/\base.BuiltinsAt mg q.2/\Vj≠q.2)->FnOk P w K mg base dI k O fd [x] sp) (hbind:∀(s:Vc) (u:Va),BindsTo s fd ⟨[u],[]⟩ [(x,u)])
  (hsp:∀H:Hp,sY tabs H->ag K H a (ns.map V.int)->sp [.ref a] H (λv _=>v=.bl true) λ_ _ _=>False) :
  codeAny (Vg P w) callerA (.call (.ref O) ⟨[.ref a],[]⟩) (λr s'=>r=.ok (.ret (.bool true))/\OldK c.heap s'.heap/\s'.os=c.os/\AllBare s'.gens) c:=by
 have Y:=tK hi;have J:=hi.length;have na:∀q∈tabs,a≠q.2:=λq i z=>by have:=(p q i).2;rw[←z,ha]at this;cases this
 have noT:∀{b:Vb} {o:Obj},c.heap.get? b=Vo o->o≠PySem.W.tabObj #[]->b∉tabs.map (·.2):=λ{b o} e n j=>by obtain⟨q,i,rfl⟩:=List.mem_map.mp j;have:=(p q i).2;rw[e]at this;exact n (F8 this)
 have core:∀H:Hp,sY tabs H->ag K H a (ns.map V.int)->bj P w H c.heap->(∀b,H b≠Vp->b=a\/b∈tabs.map (·.2))->(H a≠Vp->K.lookup a=Vp/\∃o xs,H a=Vo (.frz o (.lst xs))) →
   codeAny (Vg P w) callerA (.call (.ref O) ⟨[.ref a],[]⟩) (λr s'=>r=.ok (.ret (.bool true))/\OldK c.heap s'.heap/\s'.os=c.os/\AllBare s'.gens) c:=by
  intro H Z hS hok hA hKa;have free:∀{b:Vb} {o:Obj},c.heap.get? b=Vo o->o≠PySem.W.tabObj #[]->b≠a->H b=Vp:=λ{b o} e n nb=>by
   cases q:H b with
   | none=>rfl
   | some u=>
    rcases hA b (by rw[q];simp)with z|z
    ·exact absurd z nb
    ·exact absurd z (noT e n)
  have nsK:∀{b:Vb} {m:Vn->Option Va},c.heap.Ns b m->(fM c.heap H).Ns b m:=λ{b m} ⟨o,es,ep,e,d,r⟩=>⟨o,es,ep,lR e (free e (λz=>by rw[z]at d;cases d) λz=>by rw[z,ha]at e;cases e;cases(show Data.seq vs.toArray _=Data.dict es ep from d)),d,r⟩;have L:K.In (fM c.heap H):=λb o e=>lR (Q b o e) (by
   by_cases z:b=a
   ·subst z;cases q:H b with
    | none=>rfl
    | some u=>
     have:=(hKa (by rw[q];simp)).1;rw[this]at e;cases e
   ·refine free (Q b o e) (λz2=>?_) z;have h2:=F0.mp hK (b,o) (PySem.W.mem_of_lookupK e);subst z2;exact absurd (show false=true from h2) FI)
  have hM:Mod K mg (fM c.heap H):=⟨L,nsK y,⟨mb,nsK hb,R⟩,let ⟨mc,h1,h2⟩:=I;⟨mc,nsK h1,h2⟩⟩;have e0:Env0 P w K mg (fM c.heap H) callerA [] c H:=⟨rfl,hM,λb o e=>Bf e,Nat.le_of_eq (yE _ _),trivial,λb hb=>absurd (show b∈([]:List Vb)from hb) (by simp),hok,.of_eq hg⟩;have G:∀q∈tabs,PySem.W.CodeHd (fM c.heap H) q.1 q.2/\(fM c.heap H).BuiltinsAt mg q.2/\Vj≠q.2:=λq i=>by
   refine⟨?_,?_,?_⟩
   ·obtain⟨o,us,file,tf,flags,tg,T,text,tt,e,M,r⟩:=(p q i).1;exact⟨o,us,file,tf,flags,tg,T,text,tt,lR e (free e (λz=>by rw[z]at M;cases M) λz=>by rw[z,ha]at e;cases e;simp at M),M,r⟩
   ·obtain⟨bm,A,a1,a2,a3,a4,a5⟩:=S;refine⟨bm,A,a1,a2,λz=>?_,λz=>?_,lR a3 (free a3 (λz=>by rw[z]at a4;cases a4) λz=>by rw[z,ha]at a3;cases a3;simp at a4),a4,a5⟩
    ·obtain⟨o,es,ep,e,d,_⟩:=y;rw[←z,a3]at e;cases e;rw[a5.2]at d;cases d
    ·have:=(p q i).2;rw[←z,a3]at this;cases this;cases a4
   ·intro z;obtain⟨o,es,ep,e,d,_⟩:=y;have:=(p q i).2;rw[←z,e]at this;cases this;cases d
  refine codeAny_mono ((F _ L (nsK y) G).run callerA [] c H ⟨[.ref a],[]⟩ [.ref a] [.ref a] _ _ hr e0 (hbind c (.ref a)) (.cons rfl .nil) (hsp H Z hS)) λr s' h=>?_;cases r with
  | error e=>exact False.elim h
  | ok fl=>
   cases fl with
   | next=>exact False.elim h
   | brk=>exact False.elim h
   | cont=>exact False.elim h
   | ret u=>
    obtain⟨v,H',os,bare,un,hok',r',q⟩:=h;have q':v=.bl true:=q;subst q';obtain rfl:u=Value.bool true:=r';have keep:∀b o,c.heap.get? b=Vo o->b∉tabs.map (·.2)->s'.heap.get? b=Vo o:=λb o e nt=>by
     cases q:H b with
     | none=>exact un.keep b o e q (by intro z;exact absurd (show b∈([]:List Vb)from z) (by simp)) (by simp)
     | some u=>
      rcases hA b (by rw[q];simp)with z|z
      ·subst z;obtain⟨_,A,xs,z⟩:=hKa (by rw[q];simp);have z2:=un.frzs b A _ z;obtain⟨e1,_⟩:=hok b _ z;obtain⟨N,_⟩:=hok' b _ z2;rw[e]at e1;cases e1;exact N
      ·exact absurd z nt
    have grown:∀q∈tabs,∃more,s'.heap.get? q.2=Vo (PySem.W.tabObj (#[]++more)):=λq i=>by obtain⟨more,e⟩:=un.tbls q.2 _ (Z q i);exact⟨more,hok' q.2 _ e⟩
    refine⟨rfl,⟨λb o e=>?_,λb o e=>?_⟩,os,bare⟩
    ·by_cases j:b∈tabs.map (·.2)
     ·obtain⟨q,i,rfl⟩:=List.mem_map.mp j;obtain⟨more,g⟩:=grown q i;have N:=(p q i).2;rw[e]at N;cases N;exact .inr (.inl ⟨((p q i).1.tab (p q i).2).isCodeTable,rfl,#[],more,rfl,g⟩)
     ·exact .inl (keep b o e j)
    ·by_cases j:b∈tabs.map (·.2)
     ·obtain⟨q,i,rfl⟩:=List.mem_map.mp j;obtain⟨more,g⟩:=grown q i;exact⟨_,g⟩
     ·exact⟨o,keep b o e j⟩
 have B:∀(H:Hp) b,b∈tabs.map (·.2)->bE P w H c.heap b (.tbl #[]):=λH b j=>by obtain⟨q,i,rfl⟩:=List.mem_map.mp j;exact(p q i).2
 cases U:K.lookup a with
 | some o=>
  have e:=Q a o U;rw[ha]at e;cases e;have at_:∀b,(if b∈tabs.map (·.2)then Vo (HO.tbl #[])else Vp)=(Vp:Option HO)\/b∈tabs.map (·.2):=λb=>by
   by_cases hb:b∈tabs.map (·.2)
   ·exact .inr hb
   ·exact .inl (Gq hb)
  have C:a∉tabs.map (·.2):=λj=>by obtain⟨q,i,e⟩:=List.mem_map.mp j;exact na q i e.symm
  refine core (λb=>if b∈tabs.map (·.2)then Vo (.tbl #[])else Vp) (λq i=>Gr (List.mem_map.mpr ⟨q,i,rfl⟩)) (.inr ⟨_,vs.toArray,_,U,rfl,rfl,rfl,by rw[Fx,J];exact X,by simpa using Y⟩) (λb u z=>?_) (λb z=>?_) λz=>absurd (Gq C) z
  ·by_cases hb:b∈tabs.map (·.2)
   ·have E:=(Gr hb).symm.trans z;cases E;exact B _ b hb
   ·have E:=(Gq hb).symm.trans z;cases E
  ·rcases at_ b with h|h
   ·exact absurd h z
   ·exact .inr h
 | none=>
  have C:a∉tabs.map (·.2):=λj=>by obtain⟨q,i,e⟩:=List.mem_map.mp j;exact na q i e.symm
  refine core (λb=>if b=a then Vo (.frz { cls:=.type "list",data:=.seq vs.toArray } (.lst (ns.map V.int)))else if b∈tabs.map (·.2)then Vo (.tbl #[])else Vp) (λq i=>?_) (.inl (.inr ⟨{ cls:=.type "list",data:=.seq vs.toArray },Gr rfl⟩)) (λb u z=>?_) (λb z=>?_) λ_=>⟨U,_,_,Gr rfl⟩
  ·show(if q.2=a then _ else _)=_;rw[Gq (Ne.symm (na q i)),Gr (List.mem_map.mpr ⟨q,i,rfl⟩)]
  ·by_cases hb:b=a
   ·have E:=(Gr hb).symm.trans z;cases E;subst hb;exact⟨ha,by rw[Fs];exact X,vs,_,Y,ha⟩
   ·have E:=(Gq hb).symm.trans z;by_cases l:b∈tabs.map (·.2)
    ·have z2:=(Gr l).symm.trans E;cases z2;exact B _ b l
    ·have z2:=(Gq l).symm.trans E;cases z2
  ·by_cases hb:b=a
   ·exact .inl hb
   ·by_cases l:b∈tabs.map (·.2)
    ·exact .inr l
    ·exact absurd ((Gq hb).trans (Gq l)) z
section
variable {prog:Vd} {w:Ve} {A:Vi} {E:Va->Vc->Prop}
theorem xD{it l:Vb}{ys:Array Va}(ne:l≠it):∀(n i:Nat) (s:Vc) (Q:List Va->Vc->Prop),s.heap.IsListIter it l i->s.heap.IsList l ys->i+n<=ys.size →
  (∀h',h'.IsListIter it l (i+n)->Heap.SameBut it s.heap h'->Q ((ys.toList.drop i).take n) { s with heap:=h' })->Vf (Vg prog w) A (draw (.ref it) n) Q E s
 | 0,i,s,Q,a,_,_,q=>by show Vf _ _ (pure []) Q E s;exact Fm (by simpa using q s.heap a (Heap.SameBut.refl ..))
 | n+1,i,s,Q,a,gl,le,q=>by
  have lt:i<ys.size:=by omega
  show Vf _ _ (pyNext (Value.ref it) >>= _) Q E s;refine Fl (wpAny_pyNext_list_item a gl (x:=ys[i]) (by simp[lt]) λk1 c b=>?_);refine Fl (wpAny_holding (xD ne n (i+1) _ _ c (gl.extBut b.extBut ne) (by omega) λk2 d g=>Fm ?_));have e:ys.toList.drop i=ys[i]::ys.toList.drop (i+1):=by simp[List.drop_eq_getElem_cons,lt]
  have:=q k2 (by rw[show i+(n+1)=i+1+n by omega];exact d) (b.trans g);rw[e,List.take_succ_cons]at this;exact this
def ze{s:Vc}{l:Vb}{ys:Array Va}{Q:List Va->Vc->Prop}(hA:A.handled=Vp)(gl:s.heap.IsList l ys)
  (q:∀h',Heap.ExtBut s.heap.objs.size s.heap h'->Q ys.toList { s with heap:=h' }):Vf (Vg prog w) A (unpackItems (.ref l) ys.size Vp) Q E s:=by
 have lt:l≠s.heap.objs.size:=by obtain⟨o,e,_⟩:=gl;exact FL (Fq e)
 unfold unpackItems;refine Fl ?_;unfold notIterableAtAll;refine Fl (wpAny_specialOf gl.typeIs slot_list_iter.lookup ?_);refine Fm ?_;simp only[Ge,if_false];refine Fl (wpAny_holding (wpAny_pyIter_list gl ?_));refine Fl (wpAny_holding (xD lt ys.size 0 _ _ ⟨_,Fp _ rfl,rfl,rfl⟩ (gl.push _) (by omega) λk1 c a=>?_));rw[show List.take ys.size (List.drop 0 ys.toList)=ys.toList by rw[List.drop_zero];exact List.take_of_length_le (by simp),Gq (by simp)];refine Fl (wpAny_holding (wpAny_pyNext_list_end hA c ((gl.push _).extBut a.extBut lt) (by simp) λk2 d=>?_));simp only[Option.isSome_none,Ge,if_false];exact Fm (q k2 λb o nb e=>d b o nb (a.extBut b o nb (Fo _ e)))
def zc{s:Vc}{env:Env}{es:List Vk}{k:Nat}{pos:Pos}{l:Vb}{ys:Array Va}{Q:Unit->Vc->Prop}(hA:A.handled=Vp)(gl:s.heap.IsList l ys)(a:(assignEach es env).length=ys.size)(hst:(assignEach es env).findIdx? (·.1)=Vp)
  (h:∀h',Heap.ExtBut s.heap.objs.size s.heap h'->Vf (Vg prog w) A (assignInOrder ((assignEach es env).map (·.2)) ys.toList) Q E { s with heap:=h' }):Vf (Vg prog w) A (assign (.Tuple es k pos) env (.ref l)) Q E s:=by
 rw[arm_assign_Tuple];refine Fl (wpAny_standAt ?_);unfold unpack;rw[a,hst];exact Fl (wpAny_holding (ze hA gl h))
end
section
variable {X:Cx} {pos:Pos}
def xB(K:Fn)(n:Nat)(t:dR):TG:=λv σ H Q=>∃a xs,v=.ref a/\ag K H a xs/\xs.length=n/\t xs σ H Q
def Ed{es:List Vk}{k:Nat}{t:dR}{n:Nat}(K:Fn)(g:X.calm=true)(h:iC X es t)(i:X.K=K:=by rfl)
  (j:(assignEach es X.env).length=n:=by rfl) (hst:(assignEach es X.env).findIdx? (·.1)=Vp:=by rfl):PG X (.Tuple es k pos) (xB K n t):=by
 subst i;intro pins s σ H v u Q I r c;obtain⟨a,xs,l,m,p,c⟩:=c;subst l;cases r;obtain⟨q,d,w,z⟩:=I.list m;refine zc (I.ok.hd g) w.isList (by simp[j,←p,d.length]) hst λh' x=>?_;have y:Inv X pins σ H { s with heap:=h' }:=I.kept (t':=s.toks) λb o e=>x b o (FL (Fq e)) e;exact h pins _ σ H xs _ Q y (by simpa using d) c
end
def DF{K:Fn}{σ:St}{H:Hp}{n:Nat}{g:dR}{a:Vb}{xs:List V}{R:St->Hp->Prop}(e:ag K H a xs)(b:xs.length=n)(h:g xs σ H R):xB K n g (.ref a) σ H R:=⟨a,xs,rfl,e,b,h⟩
def rd_par{i j:Nat}{ta:TA}{D:Ends}{σ:St}{H:Hp}(h:ta σ H λvs H1=>∃v w,vs=[v,w]/\D.nx ((σ.set i (Vo v)).set j (Vo w)) H1):wy i j ta D σ H:=h
def rd_par2{v w:V}{R:V->V->Prop}(h:R v w):∃a b,[v,w]=[a,b]/\R a b:=⟨v,w,rfl,h⟩
def Et(H H':Hp):Prop:=∀b o,H b=Vo o->(∀ps,o≠.tbl ps)->H' b=Vo o
def Ext.et{H H':Hp}(e:Ext H H'):Et H H':=λb o h _=>e b o h
def Et.trans{H H1 H2:Hp}(a:Et H H1)(b:Et H1 H2):Et H H2:=λx o h n=>b x o (a x o h n) n
def dW(K:Fn)(x q:Vn)(line col:Nat)(H:Hp):Prop:=∀c T,PySem.W.tabIn K x=Vo (c,T) →
 H T=Vo (.tbl #[])\/∃c',H T=Vo (.tbl #[rawInt line,rawInt col,.ref c'])/\H c'=Vo (fV c' q)
def dW.ext{K:Fn}{x q:Vn}{line col:Nat}{H H':Hp}(e:Ext H H')(h:dW K x q line col H):dW K x q line col H':=λc T a=>by
 rcases h c T a with h|⟨c',h1,h2⟩
 ·exact .inl (e _ _ h)
 ·exact .inr ⟨c',e _ _ h1,e _ _ h2⟩
section
variable {κ:Type} [DecidableEq κ]
def bR(kvs:List (κ×V))(k:κ):Option V:=(kvs.find? λkv=>decide (kv.1=k)).map (·.2)
def putK(kvs:List (κ×V))(k:κ)(v:V):List (κ×V):=
 if(kvs.any λkv=>decide (kv.1=k))=true then kvs.map (λkv=>if kv.1=k then(kv.1,v)else kv)else kvs++[(k,v)]
def lr{p:κ×V}{r:List (κ×V)}{k:κ}(e:p.1=k):bR (p::r) k=Vo p.2:=by simp[bR,List.find?_cons,e]
def jk{p:κ×V}{r:List (κ×V)}{k:κ}(e:¬p.1=k):bR (p::r) k=bR r k:=by simp[bR,List.find?_cons,e]
theorem m9(k:κ):∀kvs:List (κ×V),(kvs.any λkv=>decide (kv.1=k))=(bR kvs k).isSome
 | []=>rfl
 | p::r=>by
  rw[List.any_cons];by_cases e:p.1=k
  ·simp only[lr e,Gp e,Bool.true_or,Option.isSome_some]
  ·rw[jk e,Gn e,Bool.false_or];exact m9 k r
def xX(kvs:List (κ×V))(k:κ)(v:V):(putK kvs k v).length<=kvs.length+1:=by
 unfold putK;split
 ·rw[Fs];omega
 ·rw[FK,FV,List.length_nil];omega
def CM{kvs:List (κ×V)}{k:κ}(v:V)(h:bR kvs k=Vp):putK kvs k v=kvs++[(k,v)]:=by unfold putK;rw[m9,h];exact Gq (by decide)
def fC.isSome_eq{o:Option V}{u:Option Va}(r:fC o u):o.isSome=u.isSome:=by
 cases o with
 | none=>cases u with
  | none=>rfl
  | some _=>exact(show False from r).elim
 | some _=>cases u with
  | none=>exact(show False from r).elim
  | some _=>rfl
def KV.val{kvs:List (κ×V)}{vs:List (κ×Va)}(r:KV kvs vs)(k:κ):fC (bR kvs k) (valueAt vs k):=by
 unfold KV at r;induction r with
 | nil=>exact True.intro
 | @cons p q ps qs h t c=>
  obtain⟨h1,h2⟩:=h;by_cases e:p.1=k
  ·have a:q.1=k:=h1.symm.trans e;have b:valueAt (q::qs) k=Vo q.2:=by simp[valueAt,List.find?_cons,a]
   rw[lr e,b];exact h2
  ·have a:¬q.1=k:=λz=>e (h1.trans z);have b:valueAt (q::qs) k=valueAt qs k:=by simp[valueAt,List.find?_cons,a]
   rw[jk e,b];exact c
theorem KV.any{kvs:List (κ×V)}{vs:List (κ×Va)}(r:KV kvs vs)(k:κ):(kvs.any λkv=>decide (kv.1=k))=vs.any λkv=>decide (kv.1=k):=by
 unfold KV at r;induction r with
 | nil=>rfl
 | cons h t a=>rw[List.any_cons,List.any_cons,a,h.1]
def KV.repl{kvs:List (κ×V)}{vs:List (κ×Va)}(r:KV kvs vs)(k:κ){y:V}{u:Va}(a:RelV y u):
  KV (kvs.map λkv=>if kv.1=k then(kv.1,y)else kv) (vs.map λkv=>if kv.1=k then(kv.1,u)else kv):=by
 unfold KV at r ⊢;induction r with
 | nil=>exact .nil
 | @cons p q ps qs h t b=>
  rw[List.map_cons,List.map_cons];refine .cons ?_ b;obtain⟨h1,h2⟩:=h;by_cases e:p.1=k
  ·rw[Gr e,Gr (h1.symm.trans e)];exact⟨h1,a⟩
  ·rw[Gq e,Gq (λz=>e (h1.trans z))];exact⟨h1,h2⟩
def KV.put{kvs:List (κ×V)}{vs:List (κ×Va)}(r:KV kvs vs)(k:κ){y:V}{u:Va}(a:RelV y u):KV (putK kvs k y) (stored vs k u):=by
 unfold putK stored;rw[r.any k];by_cases e:(vs.any λkv=>decide (kv.1=k))=true
 ·rw[Gr e,Gr e];exact r.repl k a
 ·rw[Gq e,Gq e];exact Paired.snoc r ⟨rfl,a⟩
def KV.keys{kvs:List (κ×V)}{vs:List (κ×Va)}(r:KV kvs vs):kvs.map (·.1)=vs.map (·.1):=by
 unfold KV at r;induction r with
 | nil=>rfl
 | cons h t a=>rw[List.map_cons,List.map_cons,a,h.1]
theorem KV.length{kvs:List (κ×V)}{vs:List (κ×Va)}(r:KV kvs vs):kvs.length=vs.length:=Paired.length r
end
def jN{P:Vd}{w:Ve}{k:Key}{u:Va}(r:RelV (kV k) u):(cN P w).is k u=true:=by
 cases k with
 | inl i=>obtain⟨t,e⟩:=(show ∃t,u=Value.int i t from r);subst e;exact Aw P w i t
 | inr x=>obtain⟨t,e⟩:=(show ∃t,u=Value.str x t from r);subst e;exact mw P w x t
theorem oX{P:Vd}{w:Ve}:∀{ks:List Key} {us:List Va},Vals (ks.map kV) us->ItemsAre (cN P w) ks us
 | [],_,r=>by rw[List.map_nil]at r;cases r;exact .nil
 | k::ks,_,r=>by
  rw[List.map_cons]at r;cases r with
  | cons h t=>exact .cons (jN h) (oX t)
abbrev KT(H:Hp):List (List Key×V)->List (List Key×Vb×Va)->Prop:=Paired λp q=>p.1=q.1/\H q.2.1=Vo (.tup (p.1.map kV))/\RelV p.2 q.2.2
def KT.val{H:Hp}{kvs:List (List Key×V)}{xs:List (List Key×Vb×Va)}(r:KT H kvs xs)(k:List Key):fC (bR kvs k) ((atKey xs k).map (·.2)):=by
 induction r with
 | nil=>exact True.intro
 | @cons p q ps qs h t c=>
  obtain⟨h1,_,h2⟩:=h;by_cases e:p.1=k
  ·have a:q.1=k:=h1.symm.trans e;have b:atKey (q::qs) k=Vo q.2:=by simp[atKey,List.find?_cons,a]
   rw[lr e,b];exact h2
  ·have a:¬q.1=k:=λz=>e (h1.trans z);have b:atKey (q::qs) k=atKey qs k:=by simp[atKey,List.find?_cons,a]
   rw[jk e,b];exact c
def KT.repl{H:Hp}{kvs:List (List Key×V)}{xs:List (List Key×Vb×Va)}(r:KT H kvs xs)(k:List Key){y:V}{u:Va}(a:RelV y u):
  KT H (kvs.map λkv=>if kv.1=k then(kv.1,y)else kv) (xs.map (putAt k u)):=by
 induction r with
 | nil=>exact .nil
 | @cons p q ps qs h t b=>
  rw[List.map_cons,List.map_cons];refine .cons ?_ b;obtain⟨h1,h2,c⟩:=h;unfold putAt;by_cases e:p.1=k
  ·rw[Gr e,Gr (h1.symm.trans e)];exact⟨h1,h2,a⟩
  ·rw[Gq e,Gq (λz=>e (h1.trans z))];exact⟨h1,h2,c⟩
def KT.put{H:Hp}{kvs:List (List Key×V)}{xs:List (List Key×Vb×Va)}(r:KT H kvs xs)(k:List Key){b:Vb}{y:V}{u:Va}(hb:H b=Vo (.tup (k.map kV)))(a:RelV y u):
  KT H (putK kvs k y) (storedH xs k b u):=by
 have e:(kvs.any λkv=>decide (kv.1=k))=(atKey xs k).isSome:=by rw[m9,(r.val k).isSome_eq,Option.isSome_map]
 unfold putK storedH;rw[e];by_cases q:(atKey xs k).isSome=true
 ·rw[Gr q,Gr q];exact r.repl k a
 ·rw[Gq q,Gq q];exact Paired.snoc r ⟨rfl,hb,a⟩
def KT.keeps{H H':Hp}{kvs:List (List Key×V)}{xs:List (List Key×Vb×Va)}(r:KT H kvs xs)(a:∀b ys,H b=Vo (.tup ys)->H' b=Vo (.tup ys)):KT H' kvs xs:=
 Paired.mapP r λ_ _ z=>⟨z.1,a _ _ z.2.1,z.2.2⟩
section
variable {P:Vd} {w:Ve} {H:Hp} {h:Vh} {a:Vb}
def sh{u:HO}(ok:bj P w H h)(e:Rd H a u):bE P w H h a u:=e.ok ok
def vi{kvs:List (Key×V)}(ok:bj P w H h)(e:Rd H a (.dK kvs)):kvs.length<=sizeLine/\(a == sysModules)=false/\∃vs,KV kvs vs/\h.DictOf (cN P w) a vs:=
 show bE P w H h a (.dK kvs)from sh ok e
def Am{kvs:List (Key×V)}(ok:bj P w H h)(e:H a=Vo (.dK kvs)):kvs.length<=sizeLine/\(a == sysModules)=false/\∃vs,KV kvs vs/\h.DictOf (cN P w) a vs:=vi ok (.inl e)
def kg{ks:List Key}(ok:bj P w H h)(e:H a=Vo (.tup (ks.map kV))):(tupleKind (cN P w)).is h ks a:=by obtain⟨_,b,r,o,h1,h2,n,c⟩:=(show bE P w H h a (.tup (ks.map kV))from ok a _ e);exact⟨o,b.toArray,n,h1,h2,c,by simpa using oX r⟩
def rX{kvs:List (List Key×V)}(ok:bj P w H h)(e:Rd H a (.dT kvs)):kvs.length<=sizeLine/\(a == sysModules)=false ∧
  ∃xs,KT H kvs xs/\h.DictOfH (tupleKind (cN P w)) a xs:=by
 obtain⟨z,y,xs,r,o,es,ep,h1,h2,d,g,i⟩:=(show bE P w H h a (.dT kvs)from sh ok e);refine⟨z,y,xs,r,o,es,ep,h1,h2,d,g,λx b=>?_,i⟩;have all:∀{l:List (List Key×V)} {m:List (List Key×Vb×Va)},KT H l m->∀x∈m,(tupleKind (cN P w)).is h x.1 x.2.1:=by
  intro l m q;induction q with
  | nil=>intro x b;exact nomatch b
  | @cons p q ps qs c t j=>
   intro x b;rcases FH.mp b with e|b
   ·subst e;exact kg ok (by rw[←c.1];exact c.2.1)
   ·exact j x b
 exact all r x b
def uj{kvs:List (List Key×V)}(ok:bj P w H h)(e:H a=Vo (.dT kvs)):kvs.length<=sizeLine/\(a == sysModules)=false ∧
  ∃xs,KT H kvs xs/\h.DictOfH (tupleKind (cN P w)) a xs:=rX ok (.inl e)
end
def iD(H:Hp)(a:Vb)(y:V)(r:Option V):Prop:=
 (∃kvs k,Rd H a (.dK kvs)/\y=kV k/\r=bR kvs k)\/∃kvs k b,Rd H a (.dT kvs)/\y=.ref b/\H b=Vo (.tup (k.map kV))/\r=bR kvs k
def iT(H:Hp)(a:Vb)(y v:V)(H':Hp):Prop:=
 (∃kvs k,H a=Vo (.dK kvs)/\y=kV k/\kvs.length<sizeLine/\H'=upd H a (.dK (putK kvs k v))) ∨
 ∃kvs k b,H a=Vo (.dT kvs)/\y=.ref b/\H b=Vo (.tup (k.map kV))/\kvs.length<sizeLine/\H'=upd H a (.dT (putK kvs k v))
def iD.t{H:Hp}{a b:Vb}{kvs:List (List Key×V)}{k:List Key}(e:H a=Vo (.dT kvs))(c:H b=Vo (.tup (k.map kV))):iD H a (.ref b) (bR kvs k):=.inr ⟨kvs,k,b,.inl e,rfl,c,rfl⟩
def iT.t{H:Hp}{a b:Vb}{kvs:List (List Key×V)}{k:List Key}{v:V}(e:H a=Vo (.dT kvs))(c:H b=Vo (.tup (k.map kV)))(d:kvs.length<sizeLine):
  iT H a (.ref b) v (upd H a (.dT (putK kvs k v))):=.inr ⟨kvs,k,b,e,rfl,c,d,rfl⟩
section
variable {X:Cx} {pins:List (Vb×Obj)} {σ:St} {H:Hp} {s:Vc} {a:Vb} {y v:V} {u r:Va} {o:Option V} {A:Vi} {E:Va->Vc->Prop}
def Inv.big(I:Inv X pins σ H s):sysModules<s.heap.objs.size:=by have h:Vj<s.heap.objs.size:=(I.mod.glob.keeps I.bk).lt;exact Nat.lt_trans (by decide) h
def zT{Q:Va->Vc->Prop}(i:A.units+1<cLine)(I:Inv X pins σ H s)(g:iD H a y o)(d:RelV y u)(h:∀s',Inv X pins σ H s'->Q (.bool (!o.isSome)) s'):
  Vf (Vg X.prog X.w) A (compareOp .NotIn u (.ref a)) Q E s:=by
 rcases g with⟨kvs,k,e,c,l⟩|⟨kvs,k,b,e,c,j,l⟩
 ·subst c;obtain⟨z,hd,vs,rel,dd⟩:=vi I.hok e;refine wpAny_notIn_of (jN d) hd dd.mapOf ?_;rw[←(rel.val k).isSome_eq,←l];exact h _ (I.tok _)
 ·subst c;cases(show u=Value.ref b from d);obtain⟨z,hd,xs,rel,dd⟩:=rX I.hok e;refine wpAny_notIn_heap (tupleKind_room_in1 i) (kg I.hok j) hd dd ?_;have q:=(rel.val k).isSome_eq;rw[Option.isSome_map]at q;rw[←q,←l];exact h _ (I.tok _)
def oT{h':Vh}{t':Nat}{c:HO}(I:Inv X pins σ H s)(d:jg (H a))(hs:Heap.SameBut a s.heap h')(g:∃q,h'.get? a=Vo q)(new:bE X.prog X.w (upd H a c) h' a c):
  Inv X pins σ (upd H a c) { s with heap:=h',toks:=t' }:=
 I.write (x:=a) (e:=a) d (.inl rfl) (λb q hb z=>(hs.2 b hb).trans z) g new
def Cv{P:Vd}{w:Ve}{H':Hp}{h':Vh}{kvs:List (Key×V)}{vs:List (Key×Va)}(z:kvs.length<=sizeLine)(hd:(a == sysModules)=false)(rel:KV kvs vs)(dd:h'.DictOf (cN P w) a vs):
  bE P w H' h' a (.dK kvs):=⟨z,hd,vs,rel,dd⟩
def BR{H':Hp}{Q:Unit->Vc->Prop}(F:A.units+1<cLine)(I:Inv X pins σ H s)(g:iT H a y v H')(p:RelV y u)(x:RelV v r)(h:∀s',Inv X pins σ H' s'->Q () s'):
  Vf (Vg X.prog X.w) A (setItem (.ref a) u r) Q E s:=by
 rcases g with⟨kvs,k,e,j,l,m⟩|⟨kvs,k,b,e,j,B,l,m⟩
 ·subst j m;obtain⟨z,hd,vs,rel,dd⟩:=Am I.hok e;have n:vs.length<=sizeLine:=by rw[←rel.length];exact z
  have o:(putK kvs k v).length<=sizeLine:=by have:=xX kvs k v;omega
  refine wpAny_setItem_pairs (hsz:=n) (jN p) dd λh' d hs=>h _ ?_;have G:∃q,h'.get? a=Vo q:=let ⟨q,_,_,i,_⟩:=d;⟨q,i⟩;exact oT I (by rw[e];exact True.intro) hs G (Cv o hd (rel.put k x) d)
 ·subst j m;cases(show u=Value.ref b from p);obtain⟨z,hd,xs,rel,dd⟩:=uj I.hok e;have n:xs.length<=sizeLine:=by rw[←Paired.length rel];exact z
  have o:(putK kvs k v).length<=sizeLine:=by have:=xX kvs k v;omega
  refine wpAny_setItem_heap (hsz:=n) (tupleKind_room_in1 F) (kg I.hok B) dd λh' d hs=>h _ ?_;obtain⟨q,es,ep,i,h2,J,L,_,M⟩:=d;refine oT I (by rw[e];exact True.intro) hs ⟨q,i⟩ ⟨o,hd,_,(rel.put k B x).keeps λc ys C=>?_,q,es,ep,i,h2,J,L,M⟩;rw[aG (dM C e (λz=>nomatch z))];exact C
end
section
variable {X:Cx} {pins:List (Vb×Obj)} {σ:St} {H:Hp} {s:Vc} {a:Vb} {kvs:List (Key×V)} {k:Key} {u:Va} {A:Vi} {E:Va->Vc->Prop}
end
def wZ(i:Vk):Prop:=∀a b,subscripted i false a b=operate [a,b] (getItem a b)
def yN{prog:Vd}{w:Ve}{A:Vi}{E:Va->Vc->Prop}{s:Vc}{env:Env}{value slice:Vk}{pos:Pos}{T id:String}{Q:Va->Vc->Prop}
  (k:typeLookup (.type T) "__getitem__" = pure (Vo (.builtin id))) (hs:wZ slice)
  (h:Vf (Vg prog w) A (eval value env) (λo c=>Vf (Vg prog w) A (eval slice env) (λi a=>a.TypeIs o T/\Vf (Vg prog w) A (getItem o i) Q E a) E c) E s) :
  Vf (Vg prog w) A (eval (.Subscript value slice pos) env) Q E s:=by
 refine Subscript_ (wpAny_mono h (λo c e=>wpAny_mono e (λi a b=>?_) λ_ _ x=>x) λ_ _ x=>x);obtain⟨j,b⟩:=b;unfold subscriptTail;refine Fl ?_;rw[getitemInPython_of_ne j.not_modules];refine Fl (wpAny_specialOf j k ?_);have fin:Vf (Vg prog w) A (subscripted slice false o i) (λr d=>Vf (Vg prog w) A (letTemporaryGo value o r >>= λ_=>pure r) Q E d) E a:=by rw[hs o i];exact wpAny_operating (wpAny_mono b (λr d g=>Fl (wpAny_letTemporaryGo (Fm g))) λ_ _ x=>x)
 first
  | exact Fm (Fl fin)
  | exact Fl (Fm (Fl fin))
  | exact Fl fin
def xp(ty td:TE):TE:=λσ H Q=>ty σ H λy H1=>td σ H1 λx H2=>∃a o,x=.ref a/\iD H2 a y o/\Q (.bl (!o.isSome)) H2
def wc(td ty tv:TE):TS:=λD σ H=>tv σ H λv H1=>td σ H1 λx H2=>ty σ H2 λy c=>∃a b,x=.ref a/\iT c a y v b/\D.nx σ b
section
variable {X:Cx} {o i e value:Vk} {pos pos' tpos:Pos} {td ty tv:TE}
def Bt(b:X.A.units+1<cLine)(hi:PE X i ty)(ho:PE X o td):PC X .NotIn i o (xp ty td):=by intro pins s σ H Q I h;refine aD (hi pins s σ H _ I h) λp s1 ⟨y,H1,c,d,e⟩=>aD (ho pins s1 σ H1 _ c e) λu s2 ⟨x,H2,j,k,a,l,ex,g,m⟩=>?_;subst ex;obtain rfl:u=Value.ref a:=k;exact zT b j g d λq n=>⟨.bl (!l.isSome),H2,n,rfl,m⟩
def EM(b:X.A.units+1<cLine)(ho:PE X o td)(hi:PE X i ty)(c:PE X value tv)(hs:swapsWith value (Vo (.Subscript o i pos')) pos.line X.env=pure false):
  PS X (.Assign [.Subscript o i pos'] value pos) (wc td ty tv):=by
 intro pins s σ H D I h;refine wpAny_Assign_Subscript (aD (c pins s σ H _ I h) λr s1 ⟨v,H1,d,e,j⟩=>aD (ho pins s1 σ H1 _ d j) λu s2 ⟨x,H2,k,l,m⟩=>aD (hi pins s2 σ H2 _ k m) λB C ⟨y,E,n,p,a,q,ex,g,w⟩=>?_) hs;subst ex;obtain rfl:u=Value.ref a:=l;exact BR b n g p e λF z=>⟨σ,q,z,w⟩
end
def Az{P:Vd}{w:Ve}{H:Hp}(h:Vh)(hb:sysModules<h.objs.size):bE P w H (h.push { cls:=.type "dict",data:=.dict #[] }) h.objs.size (.dT []):=
 ⟨Nat.zero_le _,beq_eq_false_iff_ne.mpr (Ne.symm (FL hb)),[],.nil,_,#[],0,Fp _ rfl,⟨rfl,rfl,rfl⟩,rfl,rfl,List.nodup_nil⟩
section
variable {X:Cx} {pos:Pos}
end
section
variable {X:Cx} {pins:List (Vb×Obj)} {σ:St} {H:Hp} {s:Vc} {a:Vb} {y d:V} {u r:Va} {o:Option V} {A:Vi} {E:Va->Vc->Prop}
end
section
variable {X:Cx} {o e f:Vk} {apos cpos:Pos} {td ty tx:TE}
end
section
variable {X:Cx} {pins:List (Vb×Obj)} {σ:St} {H:Hp} {s:Vc} {a:Vb} {kvs:List (Key×V)} {A:Vi} {E:Va->Vc->Prop}
end
section
variable {X:Cx} {pins:List (Vb×Obj)} {σ:St} {H:Hp} {s:Vc} {a:Vb} {y:V} {u:Va} {A:Vi} {E:Va->Vc->Prop}
end
section
variable {X:Cx}
end
section
variable {κ:Type} [DecidableEq κ]
end
section
variable {prog:Vd} {w:Ve} {A:Vi} {E:Va->Vc->Prop} {s:Vc} {dd:Option Vb}
end
section
variable {M:Model} {A:Vi} {E:Va->Vc->Prop} {s:Vc} {dd:Option Vb}
end
section
variable {P:Vd} {w:Ve} {K:Fn} {mg:Vn->Option Va} {base:Vh} {N:List Vn} {qual:Vn} {scope:Scope} {f:Vb} {cd:Va} {A:Vi} {outer:List Env} {s₀:Vc} {H₀:Hp} {E:XK}
end
section
variable {prog:Vd} {w:Ve} {A:Vi} {E:Va->Vc->Prop} {K:Fn} {x D:Vb} {ox:Obj} {s:Vc}
end
section
variable {X:Cx} {pins:List (Vb×Obj)} {σ:St} {H:Hp} {s:Vc} {x:Vb} {oe:Obj}
end
section
variable {P:Vd} {w:Ve} {K:Fn} {mg:Vn->Option Va} {base:Vh} {N:List Vn} {qual:Vn} {scope:Scope} {f:Vb} {cd:Va} {A:Vi} {outer:List Env} {s₀:Vc} {H₀:Hp} {E:XK}
end
section
end
section
variable {P:Vd} {w:Ve} {K:Fn} {mg:Vn->Option Va} {base:Vh} {N:List Vn} {qual:Vn} {scope:Scope} {f:Vb} {cd:Va} {A:Vi} {outer:List Env} {s₀:Vc} {H₀:Hp} {E:XK}
end
section
variable {K:Fn} {D:Ends} {σ:St} {H:Hp} {Q:VK} {E:XK} {C x:Vb}
end
section
variable {K:Fn} {D:Ends} {σ:St} {H:Hp} {E:St->XK} {C:Vb} {i:Nat} {t u tb:Ends->(St->XK)->St->Hp->Prop} {ts:Vb->Vb->Option Vb->TS} {c:TT}
end
end L2
namespace Tb
open PySem
end Tb
namespace Tb
open PySem
def kT{xs:Array Nat}(h:xs.toList.Pairwise (· < ·)){a b x y:Nat}(ha:xs[a]?=Vo x)(hb:xs[b]?=Vo y)(hab:a<b):x<y:=by obtain⟨h1,c⟩:=Array.getElem?_eq_some_iff.mp ha;obtain⟨h2,d⟩:=Array.getElem?_eq_some_iff.mp hb;have:=List.pairwise_iff_getElem.mp h a b (by simpa using h1) (by simpa using h2) hab;simp only[Array.getElem_toList]at this;rw[c,d]at this;exact this
theorem rg(xs:Array Nat)(j:Nat)(hs:xs.toList.Pairwise (· < ·)):∀fuel lo hi,hi-lo<=fuel->lo<=hi->hi<=xs.size->(∀k x,k<lo->xs[k]?=Vo x->x<j)->(∀k x,hi<=k->xs[k]?=Vo x->j<=x) →
  SetTable.below.go xs j fuel lo hi<=xs.size/\(∀k x,k<SetTable.below.go xs j fuel lo hi->xs[k]?=Vo x->x<j)/\(∀k x,SetTable.below.go xs j fuel lo hi<=k->xs[k]?=Vo x->j<=x)
 | 0,lo,hi,h1,h2,c,d,e=>by
  have:lo=hi:=by omega
  subst this;exact⟨c,d,e⟩
 | fuel+1,lo,hi,h1,h2,c,d,e=>by
  unfold SetTable.below.go;by_cases hlt:lo<hi
  ·rw[Gr hlt];dsimp only;have h:(lo+hi) / 2<xs.size:=by omega
   have em:xs[(lo+hi) / 2]?=Vo xs[(lo+hi) / 2]:=getElem?_pos xs _ h;have i:xs.getD ((lo+hi) / 2) j=xs[(lo+hi) / 2]:=by rw[Array.getD_eq_getD_getElem?,em];rfl
   rw[i];by_cases g:xs[(lo+hi) / 2]<j
   ·rw[Gr g];refine rg xs j hs fuel _ _ (by omega) (by omega) c (λk x l b=>?_) e;rcases Gf k ((lo+hi) / 2)with a|a
    ·have:=kT hs b em a;omega
    ·have:k=(lo+hi) / 2:=by omega
     subst this;rw[em]at b;cases b;exact g
   ·rw[Gq g];refine rg xs j hs fuel _ _ (by omega) (by omega) (by omega) d (λk x l b=>?_);rcases Gf ((lo+hi) / 2) k with a|a
    ·have:=kT hs em b a;omega
    ·have:k=(lo+hi) / 2:=by omega
     subst this;rw[em]at b;cases b;omega
  ·rw[Gq hlt];have:lo=hi:=by omega
   subst this;exact⟨c,d,e⟩
def lO{xs:Array Nat}(hs:xs.toList.Pairwise (· < ·))(j:Nat):SetTable.below xs j<=xs.size/\(∀k x,k<SetTable.below xs j->xs[k]?=Vo x->x<j)/\(∀k x,SetTable.below xs j<=k->xs[k]?=Vo x->j<=x):=
 rg xs j hs xs.size 0 xs.size (by omega) (Nat.zero_le _) (FN _) (λk x a=>by omega) (λk x a e=>by have:=(Array.getElem?_eq_some_iff.mp e).1;omega)
def slot_mem{t:SetTable}(hs:t.place.toList.Pairwise (· < ·)){j i:Nat}(h:t.place[i]?=Vo j):t.slot j=.live i:=by
 obtain⟨h1,h2,d⟩:=lO hs j;have e:SetTable.below t.place j=i:=by
  have hi:=(Array.getElem?_eq_some_iff.mp h).1;rcases Gf i (SetTable.below t.place j)with a|a
  ·have:=h2 i j a h;omega
  ·rcases Gf (SetTable.below t.place j) i with b|b
   ·have c:t.place[SetTable.below t.place j]?=Vo t.place[SetTable.below t.place j]:=getElem?_pos t.place _ (by omega);have c1:=d _ _ (FN _) c;have c2:=kT hs c h b;omega
   ·omega
 unfold SetTable.slot;dsimp only;rw[e,h,Gr (beq_self_eq_true _)]
def BF{α:Type}(xs:Array α)(p:Nat)(x:α):(SetTable.insertAt xs p x).toList=xs.toList.take p++(x::xs.toList.drop p):=by unfold SetTable.insertAt;rw[Array.toList_append,Array.toList_push,Array.toList_extract,Array.toList_extract];show List.take (p-0) (xs.toList.drop 0)++[x]++List.take (xs.size-p) (xs.toList.drop p)=_;rw[List.take_of_length_le (l:=xs.toList.drop p) (by rw[List.length_drop,Fw];exact FN _),List.append_assoc];rfl
def EF{xs:Array Nat}(hs:xs.toList.Pairwise (· < ·)){j:Nat}(h:j∉xs.toList):(SetTable.insertAt xs (SetTable.below xs j) j).toList.Pairwise (· < ·):=by
 obtain⟨h1,h2,i⟩:=lO hs j;rw[BF];have a:=hs;rw[←List.take_append_drop (SetTable.below xs j) xs.toList,List.pairwise_append]at a;rw[List.pairwise_append,List.pairwise_cons];refine⟨a.1,⟨λy b=>?_,a.2.1⟩,λx g y b=>?_⟩
 ·obtain⟨k,c,e⟩:=List.mem_iff_getElem.mp b;rw[List.length_drop,Fw]at c;rw[List.getElem_drop,Array.getElem_toList]at e;have ex:xs[SetTable.below xs j+k]?=Vo y:=by rw[getElem?_pos xs _ (by omega),e]
  have:=i _ _ (by omega) ex;have ne:y≠j:=λz=>h (by rw[←z];exact Array.mem_toList_iff.mpr (Array.mem_of_getElem? ex));omega
 ·have d:x<j:=by obtain⟨k,c,e⟩:=List.mem_iff_getElem.mp g;rw[Gi,Fw]at c;rw[List.getElem_take,Array.getElem_toList]at e;exact h2 k x (by omega) (by rw[getElem?_pos xs _ (by omega),e])
  rcases FH.mp b with rfl|b
  ·exact d
  ·exact a.2.2 x g y b
def DG{t:SetTable}(hs:t.place.toList.Pairwise (· < ·)){j:Nat}(h:j∈t.place.toList):∃i,t.slot j=.live i/\t.place[i]?=Vo j:=by obtain⟨i,hi⟩:=Gg h;rw[Array.getElem?_toList]at hi;exact⟨i,slot_mem hs hi,hi⟩
def BD{t:SetTable}(hs:t.place.toList.Pairwise (· < ·)){j:Nat}(h:t.slot j=.empty):j∉t.place.toList:=λa=>by obtain⟨i,e,_⟩:=DG hs a;rw[h]at e;cases e
theorem mS{α:Type}(es:Array α):∀(l:List Nat),(∀i∈l,i<es.size)->∀n:Nat,(l.filterMap (es[·]?))[n]?=(l[n]?).bind (es[·]?)
 | [],_,n=>by simp
 | x::l,h,n=>by
  have a:=h x Fy;have e:(x::l).filterMap (es[·]?)=es[x]::l.filterMap (es[·]?):=by rw[List.filterMap_cons];simp[a]
  rw[e];cases n with
  | zero=>simp[a]
  | succ n=>simpa using mS es l (λi hi=>h i (Fv _ hi)) n
end Tb
namespace L2
open PySem PySem.Spec PyProof.Rows
section
variable {P:Vd} {w:Ve} {A:Vi} {E:Va->Vc->Prop} {s:Vc} {K:Type} [DecidableEq K] {knd:KeyKind P w K}
end
section
variable {P:Vd} {w:Ve} {A:Vi} {E:Va->Vc->Prop} {s:Vc}
end
section
variable {P:Vd} {w:Ve} {A:Vi} {I:Vb} {fp wr:List Vb} {G:Array GenState->Array GenState->Prop} {n:Nat} {Pz:Nat->Va->Prop} {St:Nat->Vc->Prop}
end
section
variable {P:Vd} {w:Ve} {A:Vi} {E:Va->Vc->Prop} {s:Vc}
abbrev cB(led:Bool):Obj:={ cls:=.type "set",dict:=Vp,data:=.set #[] 0 (.fresh 0 0 led) }
end
namespace SF
def Ae:entryFor table "set.__iter__" = Vo Builtin.«frozenset.__iter__»:=entryFor_alias (id':="frozenset.__iter__") (by kernel_rfl) rfl (by decide +kernel) (by kernel_rfl)
def zk(a:Va):argsOk "set.__iter__" ⟨[a],[]⟩:=by unfold argsOk;kernel_rfl
def slot_next:Slot "set_iterator" "__next__" "set_iterator.__next__":=
 .of (owner:="set_iterator") (n:="__next__") (by rw[typeLookup_type,builtinLookup_eq_fast];kernel_rfl) (by decide +kernel) (by decide +kernel) (by decide +kernel)
  (by first|exact .inl (by decide +kernel)|exact .inr (by decide +kernel)) (by rw[isSubtype_type];kernel_rfl)
def entry_next:entryFor table "set_iterator.__next__" = Vo Builtin.«set_iterator.__next__»:=entryFor_of_fast (by kernel_rfl)
def args_next(a:Va):argsOk "set_iterator.__next__" ⟨[a],[]⟩:=by unfold argsOk;kernel_rfl
def xh:Slot "set_iterator" "__iter__" "set_iterator.__iter__":=
 .of (owner:="set_iterator") (n:="__iter__") (by rw[typeLookup_type,builtinLookup_eq_fast];kernel_rfl) (by decide +kernel) (by decide +kernel) (by decide +kernel)
  (by first|exact .inl (by decide +kernel)|exact .inr (by decide +kernel)) (by rw[isSubtype_type];kernel_rfl)
def Dy:entryFor table "set_iterator.__iter__" = Vo Builtin.«dict_keyiterator.__iter__»:=entryFor_alias (id':="dict_keyiterator.__iter__") (by kernel_rfl) rfl (by decide +kernel) (by kernel_rfl)
def Ef(a:Va):argsOk "set_iterator.__iter__" ⟨[a],[]⟩:=by unfold argsOk;kernel_rfl
end SF
section
variable {P:Vd} {w:Ve} {A:Vi} {E:Va->Vc->Prop} {s:Vc}
def yo{n:Nat}{Q:Nat->Vc->Prop}(a:n≠0)(h:∀i d,i<n->Q i { s with drawn:=d }):Vf (Vg P w) A (choose .order n) Q E s:=λc p b=>by unfold choose;rw[Sem.wp_choose];exact⟨a,by rw[Sem.wp_pure];exact h _ _ (Nat.mod_lt _ (Nat.pos_of_ne_zero a))⟩
theorem pH{α:Type}:∀{l:List α} {i:Nat} (h:i<l.length),(l[i]::l.eraseIdx i).Perm l
 | [],i,h=>by cases h
 | x::l,0,h=>.refl _
 | x::l,i+1,h=>by have:=pH (l:=l) (i:=i) (Nat.lt_of_succ_lt_succ h);exact(List.Perm.swap _ _ _).trans (this.cons x)
theorem sk{α:Type}:∀(n:Nat) (xs:List α) (s:Vc) {Q:List α->Vc->Prop},n=xs.length->(∀ys d,ys.Perm xs->Q ys { s with drawn:=d })->Vf (Vg P w) A (drawOrder n xs) Q E s
 | 0,xs,s,Q,a,h=>by obtain rfl:=List.length_eq_zero_iff.mp a.symm;unfold drawOrder;exact Fm (h [] s.drawn (.refl _))
 | n+1,[],s,Q,a,h=>by cases a
 | n+1,x::xs,s,Q,a,h=>by unfold drawOrder;refine Fl (yo (by simp) λi d hi=>?_);have e:(x::xs)[i]?=some (x::xs)[i]:=Ft hi;rw[e];dsimp only;refine Fl (sk n _ { s with drawn:=d } (by rw[List.length_eraseIdx_of_lt hi,←a];rfl) λys b c=>Fm (h _ b ?_));exact(List.Perm.cons _ c).trans (pH hi)
theorem sJ{α:Type}(next:Nat->Nat):∀(fuel k:Nat) (left:List α) (out:Array α),fuel=left.length->(pickOrder.go next fuel k left out).toList.Perm (out.toList++left)
 | 0,k,left,out,h=>by obtain rfl:=List.length_eq_zero_iff.mp h.symm;unfold pickOrder.go;rw[List.append_nil]
 | fuel+1,k,left,out,h=>by
  unfold pickOrder.go;have hlt:next k % left.length<left.length:=Nat.mod_lt _ (by omega)
  rw[Ft hlt];dsimp only;refine(sJ next fuel (k+1) _ _ (by rw[List.length_eraseIdx_of_lt hlt];omega)).trans ?_;rw[Array.toList_push,List.append_assoc];exact(pH hlt).append_left _
def jZ{α:Type}(next:Nat->Nat)(xs:Array α):(pickOrder next xs).toList.Perm xs.toList:=by
 have:=sJ next xs.size 0 xs.toList #[] (by simp)
 rw[List.nil_append]at this;exact this
abbrev cc(a:Vb)(first:Va)(i n ep:Nat):Obj:={ cls:=.type "set_iterator",data:=.fields #[first,rawInt i,.ref a,rawInt n,rawInt ep] }
def pP{it:Vb}{h1:Vh}{Q:Option Va->Vc->Prop}(c:A.handled=Vp)(d:Heap.ExtBut it s.heap h1)(g:∀h',Heap.ExtBut it s.heap h'->Q Vp { s with heap:=h' }):
  Vf (Vg P w) A.in1 (newExc (.type "StopIteration") [] >>= raiseNew) (λr s'=>∃v,r=Fin.done (.ret v)/\Vf (Vg P w) A (pure (some v)) Q E s') (λe s'=>Vf (Vg P w) A (do if ←isInstance e (.type "StopIteration")then pure none else throw e) Q E s') { s with heap:=h1 }:=by
 refine Fl ?_;simp only[newExc,newTuple];refine Fl (wpAny_newObj_type ?_ (by size_fits));refine Fl (m:=firstArgMember _ _) (wpAny_of_eq (a:=Value.none) (by first|rfl|(simp only[firstArgMember];rfl)) ?_);refine wpAny_newObj_type ?_ (by size_fits);simp only[raiseNew];refine Fl (wpAny_handled ?_);rw[show A.in1.handled=Vp from c];refine Fl (Fm (wpAny_throw ?_));refine Fl (wpAny_isInstance (T:="StopIteration") (b:=true) ⟨_,Fp _ rfl,rfl⟩ isSubtype_stop ?_);exact Fm (g _ ((d.push _).push _))
def jc{it a:Vb}{first x:Va}{i n ep k:Nat}{b:Array Va}{h:Vh}(ho:h.get? it=Vo (cc a first i n ep))(c:(#[first,rawInt i,.ref a,rawInt n,rawInt ep]:Array Va).setIfInBounds k x=b):
  (h.update it (Obj.mapFields (·.setIfInBounds k x))).get? it=Vo { cls:=.type "set_iterator",data:=.fields b }:=by
 have:=Heap.get?_update_self (Obj.mapFields (·.setIfInBounds k x)) ho (Obj.isFreed_of_fields (Obj.data_mapFields rfl _));rw[this,←c];rfl
def AQ{it a:Vb}{i ep:Nat}{o:Obj}{es:Array (Int×Va)}{t:SetTable}{Q:Option Va->Vc->Prop}(e:w.params.followText "set-order" = true)(hit:s.heap.get? it=Vo (cc a (rawInt 0) i es.size ep))(ho:s.heap.get? a=Vo o)(hd:o.data=.set es ep t)(c:t.fits es.size=true)
  {x:Int×Va} (g:(pickOrder (w.params.setOrder a ep) es)[i]?=Vo x) (h:∀h',h'.get? it=Vo (cc a (rawInt 0) (i+1) es.size ep)->Heap.SameBut it s.heap h'->Q (Vo x.2) { s with heap:=h' }):Vf (Vg P w) A (pyNext (.ref it)) Q E s:=by
 have T:s.TypeIs (.ref it) "set_iterator":=⟨_,hit,rfl⟩;unfold pyNext;refine Fl (wpAny_attempt (Gk (name:=F7 "__next__") T SF.slot_next (wpAny_call_entry SF.slot_next T SF.entry_next ?_ (SF.args_next _))));show Vf _ _ (fieldsOf (.ref it) >>= _) _ _ s;refine Fl (wpAny_fieldsOf hit rfl ?_);show Vf _ _ (setEntries a >>= _) _ _ s;unfold setEntries;refine Fl (Fl (Gj ho hd c (Fm ?_)));rw[Gq (by simp)];show Vf _ _ (setNext a 0 _ _ >>= _) _ _ s;unfold setNext;refine Fl (Fl (Gj ho hd c ?_));dsimp only;unfold setsByText;refine Fl (Fl (wpAny_askSetting (Fm ?_)));rw[show (Vg P w).w.params.followText "set-order" = true from e];simp only[if_true];rw[Gq (by simp)];unfold setWalk;refine Fl (Fl (Gj ho hd c ?_));dsimp only;unfold setsByText;refine Fl (Fl (wpAny_askSetting (Fm ?_)));rw[show (Vg P w).w.params.followText "set-order" = true from e];simp only[if_true];refine Fl (wpAny_askSetting (Fm ?_));rw[FF];have d:(pickOrder ((Vg P w).w.params.setOrder a ep) es)[i]?=Vo x:=g;rw[d];refine Fm ?_;dsimp only[Option.map_some,Option.map_none];refine Fl (wpAny_setField hit rfl (by simp) ?_);have j:=jc (k:=0) (x:=rawInt (0:Nat)) hit rfl;have b:(s.heap.update it (Obj.mapFields (·.setIfInBounds 0 (rawInt (0:Nat))))).get? it=Vo (cc a (rawInt 0) i es.size ep):=j;refine Fl (wpAny_setField (s:={ s with heap:=s.heap.update it (Obj.mapFields (·.setIfInBounds 0 (rawInt (0:Nat)))) }) b rfl (by simp) ?_);have l:=jc (k:=1) (x:=rawInt ((i:Int)+1)) b rfl;refine Fm ⟨_,rfl,Fm (h _ ?_ ((Heap.SameBut.update ..).trans (Heap.SameBut.update ..)))⟩;exact l
def CY{it a:Vb}{i ep:Nat}{o:Obj}{es:Array (Int×Va)}{t:SetTable}{Q:Option Va->Vc->Prop}(e:A.handled=Vp)(d:w.params.followText "set-order" = true)(hit:s.heap.get? it=Vo (cc a (rawInt 0) i es.size ep))(ho:s.heap.get? a=Vo o)(hd:o.data=.set es ep t)(b:t.fits es.size=true)
  (g:(pickOrder (w.params.setOrder a ep) es)[i]?=Vp) (h:∀h',Heap.ExtBut it s.heap h'->Q Vp { s with heap:=h' }):Vf (Vg P w) A (pyNext (.ref it)) Q E s:=by
 have T:s.TypeIs (.ref it) "set_iterator":=⟨_,hit,rfl⟩;unfold pyNext;refine Fl (wpAny_attempt (Gk (name:=F7 "__next__") T SF.slot_next (wpAny_call_entry SF.slot_next T SF.entry_next ?_ (SF.args_next _))));show Vf _ _ (fieldsOf (.ref it) >>= _) _ _ s;refine Fl (wpAny_fieldsOf hit rfl ?_);show Vf _ _ (setEntries a >>= _) _ _ s;unfold setEntries;refine Fl (Fl (Gj ho hd b (Fm ?_)));rw[Gq (by simp)];show Vf _ _ (setNext a 0 _ _ >>= _) _ _ s;unfold setNext;refine Fl (Fl (Gj ho hd b ?_));dsimp only;unfold setsByText;refine Fl (Fl (wpAny_askSetting (Fm ?_)));rw[show (Vg P w).w.params.followText "set-order" = true from d];simp only[if_true];rw[Gq (by simp)];unfold setWalk;refine Fl (Fl (Gj ho hd b ?_));dsimp only;unfold setsByText;refine Fl (Fl (wpAny_askSetting (Fm ?_)));rw[show (Vg P w).w.params.followText "set-order" = true from d];simp only[if_true];refine Fl (wpAny_askSetting (Fm ?_));rw[FF];have c:(pickOrder ((Vg P w).w.params.setOrder a ep) es)[i]?=Vp:=g;rw[c];refine Fm ?_;dsimp only[Option.map_some,Option.map_none];refine Fl (wpAny_setField hit rfl (by simp) ?_);exact pP (s:=s) (it:=it) e (Heap.SameBut.update ..).extBut h
def DN{it a:Vb}{i ep:Nat}{o:Obj}{es:Array (Int×Va)}{t:SetTable}{Q:Option Va->Vc->Prop}{b:Vb}{ys:List Nat}(c:s.heap.get? b=Vo (seqObj "tuple" (ys.map λ(i:Nat)=>rawInt i).toArray 0))(hit:s.heap.get? it=Vo (cc a (.ref b) i es.size ep))(ho:s.heap.get? a=Vo o)(hd:o.data=.set es ep t)(e:t.fits es.size=true)
  {y:Nat} {x:Int×Va} (g:ys[i]?=Vo y) (h:es[y]?=Vo x) (j:∀h',h'.get? it=Vo (cc a (.ref b) (i+1) es.size ep)->Heap.SameBut it s.heap h'->Q (Vo x.2) { s with heap:=h' }):Vf (Vg P w) A (pyNext (.ref it)) Q E s:=by
 have T:s.TypeIs (.ref it) "set_iterator":=⟨_,hit,rfl⟩;unfold pyNext;refine Fl (wpAny_attempt (Gk (name:=F7 "__next__") T SF.slot_next (wpAny_call_entry SF.slot_next T SF.entry_next ?_ (SF.args_next _))));show Vf _ _ (fieldsOf (.ref it) >>= _) _ _ s;refine Fl (wpAny_fieldsOf hit rfl ?_);show Vf _ _ (setEntries a >>= _) _ _ s;unfold setEntries;refine Fl (Fl (Gj ho hd e (Fm ?_)));rw[Gq (by simp)];show Vf _ _ (seqItems? (.ref b) >>= _) _ _ s;refine Fl (wpAny_seqItems c rfl ?_);dsimp only;rw[FF];have d:((ys.map λ(i:Nat)=>rawInt i).toArray:Array Va)[i]?=Vo (rawInt y):=by rw[List.getElem?_toArray,Fu,g];rfl
 rw[d];show Vf _ _ (setNextDrawn a _ _ >>= _) _ _ s;unfold setNextDrawn;refine Fl (Fl (Gj ho hd e ?_));dsimp only;rw[Gq (by simp)];simp only[FF];rw[h];refine Fm ?_;refine Fl (wpAny_setField hit rfl (by simp) ?_);have l:=jc (k:=1) (x:=rawInt ((i:Int)+1)) hit rfl;exact Fm ⟨_,rfl,Fm (j _ l (Heap.SameBut.update ..))⟩
def DI{it a:Vb}{i ep:Nat}{o:Obj}{es:Array (Int×Va)}{t:SetTable}{Q:Option Va->Vc->Prop}{b:Vb}{ys:List Nat}(g:A.handled=Vp)(c:s.heap.get? b=Vo (seqObj "tuple" (ys.map λ(i:Nat)=>rawInt i).toArray 0))(hit:s.heap.get? it=Vo (cc a (.ref b) i es.size ep))(ho:s.heap.get? a=Vo o)(hd:o.data=.set es ep t)(h:t.fits es.size=true)
  (j:ys[i]?=Vp) (l:∀h',Heap.ExtBut it s.heap h'->Q Vp { s with heap:=h' }):Vf (Vg P w) A (pyNext (.ref it)) Q E s:=by
 have T:s.TypeIs (.ref it) "set_iterator":=⟨_,hit,rfl⟩;unfold pyNext;refine Fl (wpAny_attempt (Gk (name:=F7 "__next__") T SF.slot_next (wpAny_call_entry SF.slot_next T SF.entry_next ?_ (SF.args_next _))));show Vf _ _ (fieldsOf (.ref it) >>= _) _ _ s;refine Fl (wpAny_fieldsOf hit rfl ?_);show Vf _ _ (setEntries a >>= _) _ _ s;unfold setEntries;refine Fl (Fl (Gj ho hd h (Fm ?_)));rw[Gq (by simp)];show Vf _ _ (seqItems? (.ref b) >>= _) _ _ s;refine Fl (wpAny_seqItems c rfl ?_);dsimp only;rw[FF];have d:((ys.map λ(i:Nat)=>rawInt i).toArray:Array Va)[i]?=Vp:=by rw[List.getElem?_toArray,Fu,j];rfl
 rw[d];refine Fl (wpAny_setField hit rfl (by simp) ?_);have m:=jc (k:=0) (x:=rawInt 0) hit rfl;have e:(s.heap.update it (Obj.mapFields (·.setIfInBounds 0 (rawInt 0)))).get? it=Vo (cc a (rawInt 0) i es.size ep):=m;refine Fl (wpAny_setField (s:={ s with heap:=s.heap.update it (Obj.mapFields (·.setIfInBounds 0 (rawInt 0))) }) e rfl (by simp) ?_);exact pP (s:=s) (it:=it) g ((Heap.SameBut.update ..).trans (Heap.SameBut.update ..)).extBut l
def pW{it a:Vb}{first:Va}{i n ep:Nat}{Q:Va->Vc->Prop}(hit:s.heap.get? it=Vo (cc a first i n ep))(h:Q (.ref it) s):Vf (Vg P w) A (pyIter (.ref it)) Q E s:=by have T:s.TypeIs (.ref it) "set_iterator":=⟨_,hit,rfl⟩;refine wpAny_pyIter_slot T SF.xh (wpAny_call_entry SF.xh T SF.Dy ?_ (SF.Ef _));show Vf _ _ (ret (.ref it)) _ _ s;exact Fm ⟨_,rfl,"set_iterator",_,T,SF.slot_next.lookup,h⟩
def Br(p:A.handled=Vp)(j:w.params.followText "set-order" = true)(I a:Vb)(hne:a≠I){o:Obj}{es:Array (Int×Va)}{ep:Nat}{t:SetTable}(hd:o.data=.set es ep t)(k:t.fits es.size=true):
  Walks P w A I [I,a] [I] es.size (λi v=>∃x,(pickOrder (w.params.setOrder a ep) es)[i]?=Vo x/\v=x.2) (λi h=>h.get? I=Vo (cc a (rawInt 0) i es.size ep)/\h.get? a=Vo o) where
 sub:=λb hb=>by simp at hb;simp[hb]
 frame:=λ_ _ _ st l=>⟨l I (by simp) _ st.1,l a (by simp) _ st.2⟩
 item:=λi s Q E hi st c=>by
  have q:(pickOrder (w.params.setOrder a ep) es).size=es.size:=by rw[←Fw,(jZ _ es).length_eq,Fw]
  have m:=getElem?_pos (pickOrder (w.params.setOrder a ep) es) i (by omega);refine AQ j st.1 st.2 hd k m λh' d n=>?_;exact c _ h' s.toks ⟨_,m,rfl⟩ ⟨d,(n.2 a hne).trans st.2⟩ λb o hb e=>n.extBut b o (λh=>hb (by simp[h])) e
 done:=λs Q E st c=>by
  have q:(pickOrder (w.params.setOrder a ep) es).size=es.size:=by rw[←Fw,(jZ _ es).length_eq,Fw]
  exact CY p j st.1 st.2 hd k (Array.getElem?_eq_none (by omega)) λh' g=>c h' s.toks λb o hb e=>g b o (λh=>hb (by simp[h])) e
 self:=λ_ _ _ _ st c=>pW st.1 c
def yZ(z:A.handled=Vp)(I a c:Vb)(hne:a≠I)(d:c≠I){o:Obj}{es:Array (Int×Va)}{ep:Nat}{t:SetTable}{ys:List Nat}(hd:o.data=.set es ep t)(r:t.fits es.size=true)(m:ys.Perm (Gm es.size)):
  Walks P w A I [I,a,c] [I] es.size (λi v=>∃y x,ys[i]?=Vo y/\es[y]?=Vo x/\v=x.2) (λi h=>h.get? I=Vo (cc a (.ref c) i es.size ep)/\h.get? a=Vo o/\h.get? c=Vo (seqObj "tuple" (ys.map λ(i:Nat)=>rawInt i).toArray 0)) where
 sub:=λb hb=>by simp at hb;simp[hb]
 frame:=λ_ _ _ st n=>⟨n I (by simp) _ st.1,n a (by simp) _ st.2.1,n c (by simp) _ st.2.2⟩
 item:=λi s Q E hi st g=>by
  have B:ys.length=es.size:=by rw[m.length_eq,List.length_range]
  have j:=Ft (l:=ys) (i:=i) (by omega);have hlt:ys[i]<es.size:=List.mem_range.mp (m.mem_iff.mp (FU (by omega)));have u:=getElem?_pos es ys[i] hlt;refine DN st.2.2 st.1 st.2.1 hd r j u λh' k p=>?_;exact g _ h' s.toks ⟨_,_,j,u,rfl⟩ ⟨k,(p.2 a hne).trans st.2.1,(p.2 c d).trans st.2.2⟩ λb o hb e=>p.extBut b o (λh=>hb (by simp[h])) e
 done:=λs Q E st g=>by
  have B:ys.length=es.size:=by rw[m.length_eq,List.length_range]
  exact DI z st.2.2 st.1 st.2.1 hd r (List.getElem?_eq_none (by omega)) λh' q=>g h' s.toks λb o hb e=>q b o (λh=>hb (by simp[h])) e
 self:=λ_ _ _ _ st g=>pW st.1 g
end
end L2
namespace PyProof.Rows
open PySem
section
variable {prog:Vd} {w:Ve} {A:Vi} {E:Va->Vc->Prop} {s:Vc} {κ:SortKind} {X:Keyed->Prop}
end
end PyProof.Rows
namespace L2
open PySem PySem.Spec PyProof.Rows
section
variable {P:Vd} {w:Ve} {A:Vi} {E:Va->Vc->Prop} {s:Vc}
def BY:Slot "set" "__len__" "set.__len__":=
 .of (owner:="set") (n:="__len__") (by rw[typeLookup_type,builtinLookup_eq_fast];kernel_rfl) (by decide +kernel) (by decide +kernel) (by decide +kernel)
  (by first|exact .inl (by decide +kernel)|exact .inr (by decide +kernel)) (by rw[isSubtype_type];kernel_rfl)
def sub_set_set:isSubtype (.type "set") (.type "set")=pure true:=by rw[isSubtype_type];kernel_rfl
def split_len:splitId "set.__len__" = Vo ("set","__len__"):=by kernel_rfl
def Df{a:Vb}{Q:Bool->Vc->Prop}(T:s.TypeIs (.ref a) "set")(h:Q false s):Vf (Vg P w) A (Builtin.List.listLengthHint (.ref a)) Q E s:=by unfold Builtin.List.listLengthHint;refine Fl (wpAny_specialOf T BY.lookup ?_);dsimp only;rw[split_len];dsimp only;refine Fl (wpAny_isInstance (T:="set") (b:=true) T sub_set_set ?_);simp only[Bool.not_true,Ge,if_false];rw[Gr (by first|rfl|decide +kernel|kernel_rfl)];refine Fl (wpAny_typeOf T ?_);exact Fm h
end
section
variable {P:Vd} {w:Ve}
end
section
variable {X:Cx} {pins:List (Vb×Obj)} {σ:St} {H:Hp} {s:Vc}
def Inv.dr(I:Inv X pins σ H s)(d:Drawn):Inv X pins σ H { s with drawn:=d }:=⟨I.ok,I.os,I.bare,I.base,I.loc,I.cell,I.free,I.freeC,I.pin,I.hok,I.len⟩
end
section
variable {X:Cx}
end
section
variable {X:Cx} {pins:List (Vb×Obj)} {σ:St} {H:Hp} {s:Vc}
end
open AutoSeq1 (wpAny_loadPart')in
section
variable {K:Fn} {σ:St} {H:Hp} {Q:VK}
end
section
variable {X:Cx}
def nT(neg:Bool):R2:=λx y H Q=>∃n p xs d ds,aW H n x d/\y=.ref p/\H p=Vo (.lst xs)/\Paired (aW H n) xs ds/\n<=50/\Q (.bl (if neg then !(ds.any λe=>PyData.eqv e d)else ds.any λe=>PyData.eqv e d)) H
def Fj{k:Nat}(b:Room k X.A):bJ X (compareOp .In) (nT false):=by intro pins s σ H x y v u Q I c e h;obtain⟨n,p,xs,d,ds,h1,rfl,h2,a,g,q⟩:=h;have i:aW H (n+1) (.ref p) (.list ds):=.inr ⟨p,xs,ds,rfl,.inr ⟨h2,rfl⟩,a⟩;obtain⟨as,j⟩:=aW.reads I n h1 c;obtain⟨bs,l⟩:=aW.reads I (n+1) i e;have l1:=aW.lay n h1;have l2:=jC (λ{x d}=>aW.lay (H:=H) n) a;have m:=b.units;have o:min (PyData.depthAll ds) d.depth<=50:=FY (Nat.min_le_right _ _) (FY l1.2 g);exact SeqAt.in_list_reads l j l2.1 l1.1 (by omega) ⟨.bl _,H,I,rfl,q⟩
def uS{k:Nat}(b:Room k X.A):bJ X (compareOp .NotIn) (nT true):=by intro pins s σ H x y v u Q I c e h;obtain⟨n,p,xs,d,ds,h1,rfl,h2,a,g,q⟩:=h;have i:aW H (n+1) (.ref p) (.list ds):=.inr ⟨p,xs,ds,rfl,.inr ⟨h2,rfl⟩,a⟩;obtain⟨as,j⟩:=aW.reads I n h1 c;obtain⟨bs,l⟩:=aW.reads I (n+1) i e;have l1:=aW.lay n h1;have l2:=jC (λ{x d}=>aW.lay (H:=H) n) a;have m:=b.units;have o:min (PyData.depthAll ds) d.depth<=50:=FY (Nat.min_le_right _ _) (FY l1.2 g);exact SeqAt.notIn_list_reads l j l2.1 l1.1 (by omega) ⟨.bl _,H,I,rfl,q⟩
def vI{neg:Bool}{n:Nat}{x:V}{p:Vb}{xs:List V}{d:PyData}{ds:List PyData}{H:Hp}{Q:VK}(h1:aW H n x d)(h2:H p=Vo (.lst xs))(a:Paired (aW H n) xs ds)(b:n<=50)(q:Q (.bl (if neg then !(ds.any λe=>PyData.eqv e d)else ds.any λe=>PyData.eqv e d)) H):nT neg x (.ref p) H Q:=
 ⟨n,p,xs,d,ds,h1,rfl,h2,a,b,q⟩
end
abbrev Row3:=Vn×Tok×Va
def ko(w:Ve)(e:Row3):DictEntry:=⟨PyData.keyHash w.params e.1,.str e.1 e.2.1,e.2.2⟩
def iN(w:Ve)(l:List Row3)(ep:Nat):Obj:={ cls:=.type "dict",dict:=Vp,data:=.dict (l.map (ko w)).toArray ep,slots:=#[] }
structure GDict(w:Ve)(K:Fn)(a:Vb)(kvs:List (Key×V)):Prop where
 has:∃l ep,K.lookup a=Vo (iN w l ep)/\KV kvs (l.map λe=>((Sum.inr e.1:Key),e.2.2))
 nd:(kvs.map (·.1)).Nodup
 sm:(a == sysModules)=false
theorem uY{P:Vd}{w:Ve}:∀l:List Row3,Pairs (cN P w) (l.map (ko w)) (l.map λe=>((Sum.inr e.1:Key),e.2.2))
 | []=>.nil
 | e::l=>.cons (mw P w e.1 e.2.1) rfl (uY l)
def Al{P:Vd}{w:Ve}(l:List Row3):KeysOf (cN P w) (l.map (ko w)).toArray:=λe b=>by
 have a:e∈l.map (ko w):=by simpa using b
 obtain⟨x,_,rfl⟩:=List.mem_map.mp a;exact⟨.inr x.1,mw P w x.1 x.2.1,rfl⟩
def GDict.at{X:Cx}{pins:List (Vb×Obj)}{σ:St}{H:Hp}{s:Vc}{a:Vb}{kvs:List (Key×V)}(D:GDict X.w X.K a kvs)(I:Inv X pins σ H s):∃vs,KV kvs vs/\s.heap.DictOf (cN X.prog X.w) a vs:=by obtain⟨l,ep,b,r⟩:=D.has;refine⟨_,r,iN X.w l ep,_,ep,I.kIn _ _ b,⟨rfl,rfl,rfl⟩,rfl,Al l,uY l,?_⟩;rw[←r.keys];exact D.nd
section
variable {X:Cx} {x:Vn} {a:Vb} {kvs:List (Key×V)} {i:Vk} {ty:TE} {p pos:Pos}
def uQ(kvs:List (Key×V))(ty:TE):TE:=λσ H Q=>ty σ H λy H1=>∃k v,y=kV k/\bR kvs k=Vo v/\Q v H1
def uK(neg:Bool)(kvs:List (Key×V))(ty:TE):TE:=λσ H Q=>ty σ H λy H1=>∃k,y=kV k/\Q (.bl (if neg then !(bR kvs k).isSome else(bR kvs k).isSome)) H1
def Ci(d:Gl X x)(e:X.mg x=some (.ref a))(D:GDict X.w X.K a kvs)(hi:PE X i ty)(hs:wZ i)(hd:(x == ("__debug__":Vn))=false:=by decide):PE X (.Subscript (.Name x p) i pos) (uQ kvs ty):=by intro pins s σ H Q I h;refine yN PySem.F.slot_dict_getitem.lookup hs (jE I d e (aD (hi pins s σ H _ I h) λn s2 ⟨y,H2,c,g,k,v,j,l,q⟩=>?_) hd);subst j;obtain⟨vs,rel,dd⟩:=D.at c;obtain⟨r,m,b⟩:=fC.some_of (v:=v) (o:=valueAt vs k) (by rw[←l];exact rel.val k);exact⟨dd.typeIs,wpAny_getItem_of (jN g) dd.mapOf m ⟨v,H2,c.tok _,b,q⟩⟩
def zQ(c:Gl X x)(d:X.mg x=some (.ref a))(D:GDict X.w X.K a kvs)(hi:PE X i ty)(hd:(x == ("__debug__":Vn))=false:=by decide):PC X .In i (.Name x p) (uK false kvs ty):=by intro pins s σ H Q I h;refine aD (hi pins s σ H _ I h) λj s1 ⟨y,H1,b,e,k,g,q⟩=>jE b c d ?_ hd;subst g;obtain⟨vs,rel,dd⟩:=D.at b;refine wpAny_in_of (jN e) D.sm dd.mapOf ?_;rw[←(rel.val k).isSome_eq];exact⟨.bl (bR kvs k).isSome,H1,b.tok _,rfl,q⟩
def rd_gget{σ:St}{H:Hp}{Q:VK}(h:ty σ H λy H1=>∃k v,y=kV k/\bR kvs k=Vo v/\Q v H1):uQ kvs ty σ H Q:=h
def rd_gin{neg:Bool}{σ:St}{H:Hp}{Q:VK}(h:ty σ H λy H1=>∃k,y=kV k/\Q (.bl (if neg then !(bR kvs k).isSome else(bR kvs k).isSome)) H1):uK neg kvs ty σ H Q:=h
def yS{R:V->Prop}{z:Vn}{v:V}(a:bR kvs (.inr z)=Vo v)(h:R v):∃k v,V.str z=kV k/\bR kvs k=Vo v/\R v:=⟨.inr z,v,rfl,a,h⟩
def wA:R2:=λx y H Q=>∃a b,x=.str a/\y=.str b/\Q (.bl (!decide (b.cps.toList<a.cps.toList))) H
def w6:bJ X (compareOp .LtE) wA:=by intro pins s σ H x y v u Q I c d h;obtain⟨a,b,rfl,rfl,q⟩:=h;obtain⟨t,rfl⟩:=c;obtain⟨e,rfl⟩:=d;exact PySem.P.le_str ⟨.bl _,H,I,rfl,q⟩
def rd_leS{a b:Vn}{H:Hp}{Q:VK}(h:Q (.bl (!decide (b.cps.toList<a.cps.toList))) H):wA (.str a) (.str b) H Q:=⟨a,b,rfl,rfl,h⟩
theorem qY{α β:Type}{f g:α->Option β}:∀{l:List α},(∀x∈l,f x=g x)->l.filterMap f=l.filterMap g
 | [],_=>rfl
 | x::l,h=>by rw[List.filterMap_cons,List.filterMap_cons,h x Fy,qY λy a=>h y (Fv _ a)]
def yD(n:Nat)(xs:List Va)(h:xs.length=n):(Gm n).filterMap (λi:Nat=>xs[((n:Int)-1+(i:Int)*(-1)).toNat]?)=xs.reverse:=by
 refine List.ext_getElem? λi=>?_;have e:(Gm n).filterMap (λi:Nat=>xs[((n:Int)-1+(i:Int)*(-1)).toNat]?)=(Gm n).map (λi:Nat=>xs.reverse.getD i .none):=by
  rw[←List.filterMap_eq_map];refine qY λi hi=>?_;have hi:=List.mem_range.mp hi;have:((n:Int)-1+(i:Int)*(-1)).toNat=n-1-i:=by omega
  rw[this,Function.comp_apply,List.getD_eq_getElem?_getD,List.getElem?_reverse (by omega),h,Ft (show n-1-i<xs.length by omega)];rfl
 rw[e,Fu];by_cases hi:i<n
 ·rw[Ft (by simpa using hi),Ft (by simpa[h]using hi)];simp[List.getD_eq_getElem?_getD,h,hi]
 ·rw[List.getElem?_eq_none (by simpa using hi),List.getElem?_eq_none (by simpa[h]using hi)];rfl
def yH(a:List Va):slicePick a.toArray Vp Vp (Vo (-1))=a.reverse.toArray:=by
 unfold slicePick;have e:sliceBounds Vp Vp (Vo (-1)) a.toArray.size=((a.length:Int)-1,-1,-1):=by unfold sliceBounds;simp
 rw[e];refine congrArg List.toArray ?_;rw[←yD a.length a rfl];unfold sliceRange;simp only;rw[Gq (by decide),List.filterMap_map];have b:(if(a.length:Int)-1 > -1 then((a.length:Int)-1 - -1 - -1-1) / - -1 else 0).toNat=a.length:=by rw[show (- -1:Int)=1 by decide,Int.ediv_one];split<;>omega
 rw[b];refine qY λi hi=>?_;rw[Function.comp_apply,show (a.length:Int)-1 + -1*(i:Int)=(a.length:Int)-1+(i:Int) * -1 by omega];simp
def Vals.rev{xs:List V}{us:List Va}(r:Vals xs us):Vals xs.reverse us.reverse:=by
 induction r with
 | nil=>exact .nil
 | cons h t a=>
  rw[List.reverse_cons,List.reverse_cons];exact Vals.append a (.cons h .nil)
def qh(K:Fn):V->Hp->VK->Prop:=λx H Q=>∃a xs,x=.ref a/\ag K H a xs/\eB H (.lst xs.reverse) Q
def sU(K:Fn)(te:TE)(ts:TO):TE:=λσ H Q=>te σ H λx H1=>ts σ H1 λk H2=>k=Vo (-1)/\qh K x H2 Q
def CV{e st:Vk}{te:TE}{ts:TO}{p2:Pos}(K:Fn)(g:PE X e te)(hs:PO X (Vo st) ts)(j:X.K=K:=by rfl):PE X (.Subscript e (.Slice Vp Vp (Vo st) p2) pos) (sU K te ts):=by
 subst j;intro pins s σ H Q I h;refine Subscript_ (aD (g pins s σ H _ I h) λv s1 ⟨x,H1,l,r1,m⟩=>?_);refine wpAny_Slice ?_;rw[evalPart_none];refine Fm (Fm ?_);refine aD (hs pins s1 σ H1 _ l m) λvs s2 ⟨k,H2,n,p,u⟩=>?_;obtain⟨rfl,a,xs,rfl,y,q⟩:=u;cases p with
 | int i tk=>
 cases r1;have c:Inv X pins σ H2 { s2 with heap:=s2.heap.push { cls:=.type "slice",data:=.fields #[.none,.none,.int (-1) tk] } }:=n.kept (t':=s2.toks) λb z q=>Fo _ q;obtain⟨B,r,d,C⟩:=c.list y;have hlen:=r.length;show Vf (Vg X.prog X.w) X.A (subscriptTail e (.Slice Vp Vp (Vo st) p2) (.ref a) (.ref s2.heap.objs.size)) (EP X pins σ Q) X.xe { s2 with heap:=s2.heap.push { cls:=.type "slice",data:=.fields #[.none,.none,.int (-1) tk] } };refine tail_any (ops:=[.ref a,.ref s2.heap.objs.size]) d.isList.typeIs slot_list_getitem.lookup (wpAny_getItem_list_slice d.isList (Heap.IsSliceOf.new ..) .none .none (.int (-1) tk) (by decide) ?_ (by rw[Fx];omega)) (by with_unfolding_all rfl);rw[yH];exact⟨.ref _,_,c.laid (t':=s2.toks) (o:=.lst xs.reverse) (λb z e=>Fo _ e) (FN _) ⟨by rw[List.length_reverse];exact C,_,0,r.rev,Fp _ rfl⟩,rfl,q _ (c.hok.fresh (FN _))⟩
def rd_revL{K:Fn}{te:TE}{ts:TO}{σ:St}{H:Hp}{Q:VK}(h:te σ H λx H1=>ts σ H1 λk H2=>k=Vo (-1)/\qh K x H2 Q):sU K te ts σ H Q:=h
def AI{K:Fn}{H:Hp}{Q:VK}{a:Vb}{xs:List V}(e:ag K H a xs)(h:eB H (.lst xs.reverse) Q):qh K (.ref a) H Q:=⟨a,xs,rfl,e,h⟩
end
section
variable {prog:Vd} {w:Ve} {A:Vi} {E:Va->Vc->Prop} {s:Vc} {r d:Vb}
end
section
variable {X:Cx}
def uh(tk tv:TE):TE:=λσ H Q=>∀p,H p=Vp->tk σ (upd H p (.dT [])) λx H1=>tv σ H1 λv H2=>∃b k,x=.ref b/\H2 b=Vo (.tup (List.map kV k))/\H2 p=Vo (.dT [])/\Q (.ref p) (upd H2 p (.dT [(k,v)]))
def Ah{i ev:Vk}{tk tv:TE}{pos:Pos}(m:X.A.units+1<cLine)(n:PE X i tk)(p:PE X ev tv):PE X (.Dict [Vo i] [ev] pos) (uh tk tv):=by
 intro pins s σ H Q I q;have r:=I.hok.fresh (FN s.heap.objs.size);have d:=I.laid (a:=s.heap.objs.size) (o:=.dT []) (h':=s.heap.push { cls:=.type "dict",data:=.dict #[] }) (t':=s.toks) (λ_ _ q=>Fo _ q) (FN _) (Az s.heap I.big);refine wpAny_Dict_any rfl rfl (by simp) (by simp) ?_;refine pairTrees_cons_walk (aD (n pins _ σ _ _ d (q _ r)) λu s1 ⟨x,H1,d,y,B⟩=>aD (p pins s1 σ H1 _ d B) λN s2 ⟨v,H2,g,C,E⟩=>pairTrees_nil_walk ?_);obtain⟨b,k,rfl,hb,e,F⟩:=E;cases(show u=Value.ref b from y);obtain⟨z,hd,xs,rel,dd⟩:=uj g.hok e;have G:xs.length<=sizeLine:=by rw[←Paired.length rel];exact Nat.zero_le _
 unfold storeAll;rw[List.forIn_cons];refine Fl (Fl (wpAny_dictSet_heap (hsz:=G) (show(tupleKind (cN X.prog X.w)).room X.A from Nat.lt_of_succ_lt m) (kg g.hok hb) dd λh' h hs=>Fm ?_));dsimp only;rw[List.forIn_nil];refine Fm ⟨.ref s.heap.objs.size,_,?_,rfl,F⟩;obtain⟨q,es,ep,j,h2,J,L,_,M⟩:=h;refine oT g (by rw[e];exact True.intro) hs ⟨q,j⟩ ⟨by rw[sizeLine_eq];simp,hd,_,(rel.put k hb C).keeps λc ys l=>?_,q,es,ep,j,h2,J,L,M⟩;rw[aG (dM l e (λz=>nomatch z))];exact l
def rd_disp1{tk tv:TE}{σ:St}{H:Hp}{Q:VK}(h:∀p,H p=Vp->tk σ (upd H p (.dT [])) λx H1=>tv σ H1 λv H2=>∃b k,x=.ref b/\H2 b=Vo (.tup (List.map kV k))/\H2 p=Vo (.dT [])/\Q (.ref p) (upd H2 p (.dT [(k,v)]))):uh tk tv σ H Q:=h
def rd_dnin{ty td:TE}{σ:St}{H:Hp}{Q:VK}(h:ty σ H λy H1=>td σ H1 λx H2=>∃a o,x=.ref a/\iD H2 a y o/\Q (.bl (!o.isSome)) H2):xp ty td σ H Q:=h
def rd_dput{td ty tv:TE}{D:Ends}{σ:St}{H:Hp}(h:tv σ H λv H1=>td σ H1 λx H2=>ty σ H2 λy c=>∃a b,x=.ref a/\iT c a y v b/\D.nx σ b):wc td ty tv D σ H:=h
end
section
variable {X:Cx} {tg:Vk}
end
section
variable {prog:Vd} {w:Ve} {A:Vi} {E:Va->Vc->Prop} {s:Vc}
end
section
variable {X:Cx} {tg:Vk}
end
section
variable {X:Cx}
def Ay(K:Fn){o:Vk}{to:TE}{name:Vn}{apos cpos:Pos}{T id:String}{r:V->List V->Hp->VK->Prop}(d:PlainAttrs T)(slot:Slot T name id)(c:typeOf (.builtin id)=pure (.type "method_descriptor"))(e:jm X id r)(ho:PE X o to)(h:X.K=K:=by rfl)
  (a:attributeBase o name X.env (eval o X.env)=eval o X.env:=by rfl) (b:(apos.endLine == cpos.line)=true:=by rfl):PE X (.Call (.Attribute o name apos) [] [] cpos) (ou K T r to):=by
 subst h;exact Ad d slot c e ho a b
end
def rd_bm0{K:Fn}{T:String}{r:V->List V->Hp->VK->Prop}{to:TE}{σ:St}{H:Hp}{Q:VK}(h:to σ H λx H1=>iw K T x H1/\r x [] H1 Q):ou K T r to σ H Q:=h
def EC(K:Fn):List V->Hp->VK->Prop:=λxs H Q=>∃(p:Vb) (bs:List Bool),xs=[.ref p]/\ag K H p (bs.map V.bl)/\Q (.bl (bs.any id)) H
def any_range(bs:List Bool):((Gm bs.length).any λi=>bs.getD i false)=bs.any id:=by
 rw[F4,F3,F3];constructor
 ·rintro⟨i,hi,h⟩;have a:=List.mem_range.mp hi;rw[List.getD_eq_getElem?_getD,Ft a]at h;exact⟨_,FU a,h⟩
 ·rintro⟨b,hb,h⟩;obtain⟨i,hi,e⟩:=List.mem_iff_getElem.mp hb;refine⟨i,List.mem_range.mpr hi,?_⟩;rw[List.getD_eq_getElem?_getD,Ft hi,e];exact h
def ki{X:Cx}(K:Fn)(w:X.calm=true)(x:X.K=K:=by rfl):cy X (.builtin "any") (EC K):=by
 subst x;intro pins s σ H xs us Q I r h;obtain⟨p,bs,rfl,y,q⟩:=h;obtain⟨u,rfl,z⟩:=vals1 r;cases z;obtain⟨d,k,pl,R⟩:=I.list y;have B:=nh k;have hne:p≠s.heap.objs.size:=FL (by obtain⟨o,n,e,_⟩:=pl;exact Fq e);refine call_any_walk (wpAny_pyIter_list pl.isList ?_);have C:Inv X pins σ H { s with heap:=s.heap.push { cls:=.type "list_iterator",data:=.fields #[.ref p,.int 0 0] } }:=I.kept (t':=s.toks) λb o e=>Fo _ e;have E:=I.fpOk (H':=H) (FN s.heap.objs.size) I.fresh;refine⟨s.heap.objs.size,_,_,_,_,_,(λi=>bs.getD i false),rfl,Walks.list (A:=X.A.in1) (I.ok.hd w) _ p hne d.toArray,⟨⟨_,Fp _ rfl,rfl,rfl⟩,?_⟩,?_,λh' tk F=>?_⟩
 ·exact pl.isList.push _
 ·intro i v s' G S l J;rw[B]at l;have a:(bs.map Value.bool)[i]?=Vo v:=by simpa using l
  rw[Fu]at a;cases g:bs[i]? with
  | none=>rw[g]at a;cases a
  | some b=>
   rw[g]at a;cases a;have j:bs.getD i false=b:=by rw[List.getD_eq_getElem?_getD,g];rfl
   have c:G (bs.getD i false) s':=J;rw[j]at c;exact wpAny_truthy_bool c
 ·obtain⟨L,M,T,N,O,P⟩:=E;have m:=k.length;rw[Fs]at m;refine⟨.bl (bs.any id),H,C.turned (it:=s.heap.objs.size) (λb o hb e=>F b o (by simpa using hb) e) L M N O P,?_,q⟩;show Value.bool _=Value.bool _;rw[Fx,←m,any_range]
section
variable {X:Cx}
end
section
variable {P:Vd} {w:Ve} {K:Fn} {mg:Vn->Option Va} {base:Vh}
end
section
variable {X:Cx}
end
abbrev dj(w:Ve):Bool:=!w.params.followText "set-order"
def zg(t:SetTable)(es:Array (Int×Va))(h:Int)(x:Va):(layNew t es h x).2.1.led=t.led:=by
 unfold layNew;split
 ·show((t.put _).1.orStandIn _).led=t.led;unfold SetTable.orStandIn;split<;>rfl
 ·rfl
def BO{mask finger moves:Nat}{led plain:Bool}{hs:Array Int}{t:SetTable}{o:Array Nat}(h:SetTable.laid mask finger moves led plain hs=Vo (t,o)):t.led=led/\t.plain=plain:=by
 unfold SetTable.laid at h;cases e:SetTable.layClean mask hs with
 | none=>rw[e]at h;cases h
 | some a=>
  rw[e]at h;cases h;exact⟨rfl,rfl⟩
def yK(t:SetTable)(es:Array (Int×Va))(n:Nat):(relayAll t es n).2.1.led=t.led/\(t.plain=false->(relayAll t es n).2.1.plain=false):=by
 unfold relayAll;split
 ·rename_i t' o e;have:=BO e;dsimp only;split
  ·exact⟨this.1,λh=>this.2.trans h⟩
  ·exact⟨rfl,λ_=>rfl⟩
 ·exact⟨rfl,λ_=>rfl⟩
section
variable {P:Vd} {w:Ve} {A:Vi} {E:Va->Vc->Prop} {s:Vc}
def DK(a:Va){Q₁:Va->Vc->Prop}(h:Q₁ (.ref s.heap.objs.size) { s with heap:=s.heap.push (cB (dj w)) }):
  codeAny (Vg P w) A (.call (.builtin "set.__new__") ⟨[.type "set",a],[]⟩) (wants Q₁ E) s:=by
 refine codeAny_of_tree ?_;show Vf _ A.in1 (do checkBuiltinCall "set.__new__" ⟨[.type "set",a],[]⟩;again (.builtin "set.__new__" ⟨[.type "set",a],[]⟩)) _ _ s;refine Fl (wpAny_of_eq (F.newCall_set_1 a) (Fm ⟨plainId_quiet F.plain_set_new _,codeAny_builtin F.entry_set_new ?_⟩));rw[Around.under_plainId F.plain_set_new _];unfold Builtin.«set.__new__» Builtin.Frozenset.newClass;have hsub:=sub_set_self;obtain⟨b,g,d,tk,os⟩:=s;dsimp only
 wp_walk
 refine wpAny_askSetting (Fm ?_);dsimp only;simp only[newObj];refine Fl (wpAny_alloc (Fm ?_));exact Fm h
end
section
variable {X:Cx} {pins:List (Vb×Obj)} {σ:St} {H:Hp} {s:Vc}
end
section
variable {X:Cx}
end
section
variable {P:Vd} {w:Ve} {A:Vi} {E:Va->Vc->Prop} {s:Vc}
end
section
variable {X:Cx}
end
section
variable {X:Cx} {pins:List (Vb×Obj)} {σ:St} {H:Hp} {s:Vc}
end
section
variable {X:Cx}
end
section
variable {X:Cx} {x:Vb} {oe:Obj}
end
section
variable {prog:Vd} {w:Ve} {A:Vi} {E:Va->Vc->Prop} {s:Vc} {dd:Option Vb}
end
section
variable {X:Cx} {x:Vb} {oe:Obj}
end
section
variable {X:Cx}
end
section
variable {prog:Vd} {w:Ve} {A:Vi} {E:Va->Vc->Prop} {K:Fn} {x D:Vb} {ox:Obj} {h:Vh} {g:Array GenState} {dr:Drawn} {t:Nat} {os:OsState}
variable {nm q:Vn} {N:Vb} {bs bm bmB:List Va} {sn:List Vn} {sub:List Va} {ab:Bool} {col:Option Bool} {dd:Option Vb} {k0 k1 k2 k3 k5:Option Va} {newId:String} {name:Vn} {v:Va}
end
section
variable {prog:Vd} {w:Ve} {A:Vi} {E:Va->Vc->Prop} {h:Vh} {g:Array GenState} {d:Drawn} {t:Nat} {os:OsState}
variable {nm q:Vn} {C N:Vb} {bs bm bmB:List Va} {hdct:Bool} {sn:List Vn} {sub:List Va} {ab:Bool} {col:Option Bool} {dd:Option Vb} {k0 k1 k2 k3 k5:Option Va} {B newId initId:String} {K:Fn}
end
section
variable {P:Vd} {w:Ve} {A:Vi} {E:Va->Vc->Prop} {K:Fn} {s:Vc} {e C:Vb} {oe:Obj} {v:Va}
end
section
variable {M:Model} {A:Vi} {E:Va->Vc->Prop} {env:Env} {nm q:Vn} {C N:Vb} {bs bm bmB:List Va} {hdct:Bool} {sn:List Vn} {sub:List Va} {ab:Bool} {col:Option Bool} {dd:Option Vb} {k0 k1 k2 k3 k5:Option Va} {newId:String}
end
section
variable {prog:Vd} {w:Ve} {A:Vi} {E:Va->Vc->Prop} {s:Vc} {env:Env} {K:Fn} {nm q:Vn} {C N:Vb} {bs bm bmB:List Va} {hdct:Bool} {sn:List Vn} {sub:List Va} {ab:Bool} {col:Option Bool} {dd:Option Vb} {k0 k1 k2 k3 k5:Option Va} {B newId initId:String}
end
section
variable {P:Vd} {w:Ve} {K:Fn} {mg:Vn->Option Va} {base:Vh} {N:List Vn} {qual:Vn} {scope:Scope} {f:Vb} {cd:Va} {A:Vi} {outer:List Env} {s₀:Vc} {H₀:Hp} {E:XK}
end
section
variable {P:Vd} {w:Ve} {K:Fn} {mg:Vn->Option Va} {base:Vh}
end
section
variable {Y:Cx} {x:Vb} {oe:Obj}
end
section
variable {prog:Vd} {w:Ve} {A:Vi} {E:Va->Vc->Prop} {K:Fn} {x D:Vb} {ox:Obj} {od:Option Obj} {name:Vn} {v:Va}
end
section
variable {X:Cx} {x D:Vb} {oe:Obj} {da:Option Vb}
end
section
variable {P:Vd} {w:Ve} {A:Vi} {E:Va->Vc->Prop} {s:Vc}
def tI(k:Int)(tk:Tok):(PySem.intKind P w).is k (.int k tk)=true:=by show Value.isInt k (.int k tk)=true;simp[Value.isInt]
end
theorem we:∀{vs:List Va} {zs:List Int},IntsAre vs zs->∀(i:Nat) (v:Va),vs[i]?=Vo v->∃z t,v=.int z t/\zs[i]?=Vo z
 | _,_,.nil,i,v,h=>by simp at h
 | _,_,.cons z t _,0,v,h=>by cases h;exact⟨z,t,rfl,rfl⟩
 | _,_,.cons z t r,i+1,v,h=>we r i v h
def E7{D ds:List Int}(hd:D.Nodup)(hs:∀k∈D,k∈ds)(b:ds.length=D.length):ds.Perm D:=by
 induction D generalizing ds with
 | nil=>
  rw[List.length_nil,List.length_eq_zero_iff]at b;subst b;exact .refl _
 | cons d D g=>
  have c:=hs d Fy;have h:=List.perm_cons_erase c;have a:=List.nodup_cons.mp hd;refine h.trans ((g a.2 (λk e=>?_) ?_).cons d)
  ·refine(List.mem_erase_of_ne ?_).mpr (hs k (Fv _ e));rintro rfl;exact a.1 e
  ·rw[List.length_erase_of_mem c,b];rfl
section
variable {P:Vd} {w:Ve} {A:Vi} {E:Va->Vc->Prop} {s:Vc}
theorem tT:∀{l:List (Int×Va)},ElemsOf (PySem.intKind P w) l->∃ds,IntsAre (l.map (·.2)) ds/\∀e∈l,∀k,(PySem.intKind P w).is k e.2=true->k∈ds
 | [],_=>⟨[],.nil,λe g=>by cases g⟩
 | e::l,h=>by
  obtain⟨ds,h1,h2⟩:=tT (l:=l) λx b=>h x (Fv _ b);obtain⟨⟨k,i,_⟩,_⟩:=h e Fy;obtain⟨t,c⟩:=Value.isInt_shape (k:=k) i;refine⟨k::ds,?_,λx b d a=>?_⟩
  ·rw[List.map_cons,c];exact .cons k t h1
  ·rcases FH.mp b with rfl|b
   ·rw[c]at a;obtain⟨u,j⟩:=Value.isInt_shape (k:=d) (v:=.int k t) a;cases j;exact Fy
   ·exact Fv _ (h2 x b d a)
end
theorem wF:∀{us:List Va} {zs:List Int},IntsAre us zs->Vals (zs.map V.int) us
 | _,_,.nil=>.nil
 | _,_,.cons z t r=>.cons ⟨t,rfl⟩ (wF r)
section
variable {X:Cx}
end
section
variable {prog:Vd} {w:Ve} {A:Vi} {E:Va->Vc->Prop} {s:Vc}
def zS{Q:List Va->Vc->Prop}{r:Vb}{a b c:Int}{t u v:Tok}{n:Nat}(y:A.handled=Vp)(q:IsRange s.heap r a b c t u v)(k:Builtin.Range.small a b c=true)(z:Builtin.Range.rangeSize a b c=n)(hlen:n<=2 ^ 24)
  (B:∀(s':Vc) (acc:Array Va),(∀b o,s.heap.get? b=Vo o->s'.heap.get? b=Vo o)->s'.gens=s.gens->s'.drawn=s.drawn->s'.os=s.os->ItemsOf (λi v=>∃t,v=.int (a+i*c) t) acc n->Q acc.toList s') :
  Vf (Vg prog w) A (collect (.ref r)) Q E s:=by
 unfold collect;refine Fl (wpAny_runValue (codeAny_builtin F.entry_proto_collect ?_));rw[Around.under_plainId F.plain_proto_collect _];show Vf _ A.in1 (newList [] >>= λl=>again (.builtin "list.__iadd__" ⟨[l,.ref r],[]⟩)) _ _ s;refine Fl (wpAny_newObj_type ?_);refine Fm ⟨plainId_quiet F.plain_list_iadd _,codeAny_builtin F.entry_list_iadd ?_⟩;rw[Around.under_plainId F.plain_list_iadd _];show Vf _ A.in1 (Builtin.List.listExtendWith (.ref s.heap.objs.size) (.ref r) (.ref s.heap.objs.size)) _ _ _;have C:(s.heap.push { cls:=.type "list",data:=.seq ([]:List Va).toArray }).get? s.heap.objs.size=Vo { cls:=.type "list",data:=.seq #[] 0 }:=Fp _ rfl;have hlt:∀b o,s.heap.get? b=Vo o->b≠s.heap.objs.size:=λb o e=>FL (Fq e);have m:∀(h':Vh) (tk:Nat) (d:Array Va) (c':Nat),(∀b o,s.heap.get? b=Vo o->h'.get? b=Vo o)->h'.get? s.heap.objs.size=Vo { cls:=.type "list",dict:=Vp,data:=.seq d c',slots:=#[] }->ItemsOf (λi v=>∃t,v=.int (a+i*c) t) d n->Vf (Vg prog w) A (match Value.ref s.heap.objs.size with
   | Value.ref a=>do
    match (←load a).data with
     | Data.seq xs _=>pure xs.toList
     | _=>unsupported "internal:collect"
   | _=>unsupported "internal:collect") Q E { s with heap:=h',toks:=tk }:=by
  intro h' tk d c' p j g;show Vf _ A (load s.heap.objs.size >>= _) _ _ _;refine Fl (wpAny_load j ?_);exact Fm (B { s with heap:=h',toks:=tk } d p rfl rfl rfl g)
 refine wpAny_mono (wpAny_extend_range (A:=A) (R:=λres s'=>∃(h':Vh) (tk:Nat) (d:Array Va) (c':Nat),res=.ok (.ret (.ref s.heap.objs.size))/\s'={ s with heap:=h',toks:=tk }/\(∀b o,s.heap.get? b=Vo o->h'.get? b=Vo o)/\h'.get? s.heap.objs.size=Vo { cls:=.type "list",dict:=Vp,data:=.seq d c',slots:=#[] }/\ItemsOf (λi v=>∃t,v=.int (a+i*c) t) d n)
  (s:={ s with heap:=s.heap.push { cls:=.type "list",data:=.seq ([]:List Va).toArray } }) y (Fo _ q) k z hlen s.heap.objs.size (.ref s.heap.objs.size) 0 C λh' tk d c' p j g=>⟨h',tk,d,c',rfl,rfl,λb o e=>p b o (hlt b o e) (Fo _ e),j,g⟩) (λfin s' h=>?_) (λe s' h=>?_)
 ·cases fin with
  | done f=>
   obtain⟨h',tk,d,c',e,rfl,p,j,g⟩:=h;cases e;exact m h' tk d c' p j g
  | again c'=>exact⟨h.1,codeAny_mono h.2 λr G q=>by obtain⟨h',tk,d,x,rfl,rfl,p,j,g⟩:=q;exact m h' tk d x p j g⟩
 ·obtain⟨_,_,_,_,e,_⟩:=h;cases e
end
def zY(r:Vb)(a b c:Int)(t u v:Tok)(n:Nat)(d:Builtin.Range.small a b c=true)(p:Builtin.Range.rangeSize a b c=n)(hlen:n<=2 ^ 24):
  Meets (Builtin.«tuple.__new__» ⟨[.type "tuple",.ref r],[]⟩)
   (λA R s=>A.handled=Vp/\IsRange s.heap r a b c t u v/\∀(s':Vc) (acc:Array Va),(∀b o,s.heap.get? b=Vo o->s'.heap.get? b=Vo o)->s'.gens=s.gens->s'.drawn=s.drawn->s'.os=s.os->ItemsOf (λi v=>∃t,v=.int (a+i*c) t) acc n →
    R (.ok (.ret (.ref s'.heap.objs.size))) { s' with heap:=s'.heap.push { cls:=.type "tuple",data:=.seq acc } }):=
 .of_wp λprog w A R s h=>by
  obtain⟨q,j,h⟩:=h;have hsub:=sub_tuple_self;have k:=init_tuple_lookup;have x:=madeHere_tuple;have y:s.TypeIs (.ref r) "range":=⟨_,j,rfl⟩;have l:A.in1.handled=Vp:=q
  wp_walk using AutoSeq1.wpAny_loadPart' j,wpAny_typeOf y,zS l j d p hlen
  intro s' acc z B hd m g;show Vf _ _ (Builtin.Tuple.tupleExact acc.toList.toArray >>= λv=>ret v) _ _ _;unfold Builtin.Tuple.tupleExact;refine Fl (wpAny_newObj_type ?_ (show acc.toList.toArray.size<=sizeLine by simp only[Array.toArray_toList];rw[g.1,sizeLine_eq];omega));refine Fm ⟨_,rfl,?_⟩;have e:acc.toList.toArray=acc:=by simp
  rw[e];exact h s' acc z B hd m g
section
variable {prog:Vd} {w:Ve} {A:Vi} {E:Va->Vc->Prop} {s:Vc}
def zh{Q:Va->Vc->Prop}{r:Vb}{a b c:Int}{t u v:Tok}{n:Nat}(l:A.handled=Vp)(m:IsRange s.heap r a b c t u v)(d:Builtin.Range.small a b c=true)(p:Builtin.Range.rangeSize a b c=n)(hlen:n<=2 ^ 24)
  (h:∀(h':Vh) (tk:Nat) (acc:Array Va),(∀b o,s.heap.get? b=Vo o->h'.get? b=Vo o)->ItemsOf (λi v=>∃t,v=.int (a+i*c) t) acc n->Q (.ref h'.objs.size) { s with heap:=h'.push { cls:=.type "tuple",data:=.seq acc },toks:=tk }) :
  Vf (Vg prog w) A (call (.type "tuple") [.ref r]) Q E s:=by
 refine callType_new F.called_tuple (by decide) (F.typeCall_tuple_1 _) (F.newCall_tuple_1 _) (λobj=>F.args_object_init_2 obj _) F.entry_tuple_new
  (zY r a b c t u v n d p hlen) ⟨l,m,λs' acc q x hd g e=>⟨⟨_,Fp _ rfl,rfl⟩,?_⟩⟩
 obtain⟨h',y,z,j,k⟩:=s';have B:y=s.gens:=x;have C:z=s.drawn:=hd;have G:k=s.os:=g;subst B C G;exact h h' j acc q e
end
theorem wC{α β:Type}{R:α->β->Prop}:∀{xs:List α} {ys:List β},xs.length=ys.length->(∀(i:Nat) x y,xs[i]?=Vo x->ys[i]?=Vo y->R x y)->Paired R xs ys
 | [],[],_,_=>.nil
 | x::xs,y::ys,c,h=>.cons (h 0 x y rfl rfl) (wC (by simpa using c) λi a b ha hb=>h (i+1) a b (by simpa using ha) (by simpa using hb))
section
variable {X:Cx}
abbrev hG(n:Nat):List V:=(Gm n).map λi:Nat=>V.int (i:Int)
def pY(x:V)(H:Hp)(Q:VK):Prop:=∃j:Int,x=.int j/\0<=j/\j<=2 ^ 20/\eB H (.tup (hG j.toNat)) Q
def sR(te:TE):TE:=λσ H Q=>te σ H λx H1=>pY x H1 Q
def En{e:Vk}{te:TE}{p p2 pos a:Pos}(A:X.calm=true)(B:Gl X "tuple")(C:X.mg "tuple" = Vp)(g:Gl X "range")(k:X.mg "range" = Vp)(E:PE X e te)
  (h1:starEach [e] X.env=(false,eval e X.env)::starEach [] X.env:=by rfl)
  (h2:starEach [.Call (.Name "range" p2) [e] [] a] X.env=(false,eval (.Call (.Name "range" p2) [e] [] a) X.env)::starEach [] X.env:=by rfl) :
  PE X (.Call (.Name "tuple" p) [.Call (.Name "range" p2) [e] [] a] [] pos) (sR te):=by
 intro pins s σ H Q I h;refine wpAny_Call_Name_kw (gg I B C PyProof.Rows.boot_tuple ?_ (by decide) (by decide));refine PyProof.Rows.callWith_type1 ?_ h2 rfl;rw[h2];show Vf _ _ (spliced ((false,eval (.Call (.Name "range" p2) [e] [] a) X.env)::backTo pos (starEach [] X.env))) _ _ s;refine Calls.spliced_cons ?_;refine wpAny_Call_Name_kw (gg I g k boot_range ?_ (by decide) (by decide));refine PyProof.Rows.callWith_type1 ?_ h1 rfl;rw[h1];show Vf _ _ (spliced ((false,eval e X.env)::backTo a (starEach [] X.env))) _ _ s;refine Calls.spliced_cons (aD (E pins s σ H _ I h) λu s1 ⟨x,H1,r,r1,F⟩=>?_);refine Calls.spliced_nil ?_;obtain⟨j,rfl,G,J,q⟩:=F;obtain⟨t,rfl⟩:=r1;refine call_range_1 ?_;refine Calls.spliced_nil ?_;have l:Builtin.Range.rangeSize 0 j 1=(j.toNat:Nat):=by rw[rangeSize_one];split<;>omega
 refine zh (n:=j.toNat) (r.ok.hd A) (IsRange.new ..) (small_one (by omega) (by omega) (by omega) (by omega)) l (by omega) λh' tk acc L c=>?_;have m:∀b o,s1.heap.get? b=Vo o->h'.get? b=Vo o:=λb o e=>L b o (Fo _ e);have v:Inv X pins σ H1 { s1 with heap:=h',toks:=tk }:=r.kept m;have y:(hG j.toNat).length=j.toNat:=by rw[Fs,List.length_range]
 have M:Vals (hG j.toNat) acc.toList:=by
  refine wC (by rw[y,Fw,c.1]) λi x u d z=>?_;rw[Fu]at d;rw[Array.getElem?_toList]at z;obtain⟨t,rfl⟩:=c.2 i u z;by_cases hi:i<j.toNat
  ·rw[List.getElem?_range hi]at d;cases d;exact⟨t,by congr 1;omega⟩
  ·rw[List.getElem?_eq_none (by rw[List.length_range];omega)]at d;cases d
 have N:Inv X pins σ (upd H1 h'.objs.size (.tup (hG j.toNat))) { s1 with heap:=h'.push { cls:=.type "tuple",data:=.seq acc },toks:=tk }:=
  v.laid (t':=tk) (λb o e=>Fo _ e) (FN _) (show bE X.prog X.w _ _ _ (.tup (hG j.toNat))from⟨by rw[y,sizeLine_eq];omega,acc.toList,M,by rw[Array.toArray_toList];exact IsTup.new _ _⟩)
 exact⟨.ref h'.objs.size,_,N,rfl,q _ (v.hok.fresh (FN _))⟩
def zi{te:TE}{σ:St}{H:Hp}{Q:VK}(h:te σ H λx H1=>pY x H1 Q):sR te σ H Q:=h
def Ak{j:Int}{H:Hp}{Q:VK}(a:0<=j/\j<=2 ^ 20)(h:eB H (.tup (hG j.toNat)) Q):pY (.int j) H Q:=⟨j,rfl,a.1,a.2,h⟩
end
theorem gU{x:Vn}{c:Vb}:∀(names:List (Vn×NameKind)) (n:Nat) (acc:List (Vn×Vb)),(cellsFrom n names acc).lookup x=Vo c->acc.lookup x=Vo c\/(n<=c/\(x,NameKind.cell)∈names)
 | [],_,_,h=>.inl h
 | (y,k)::r,n,acc,h=>by
  unfold cellsFrom at h;by_cases a:(k == NameKind.cell)=true
  ·rw[Gr a]at h;have b:k=.cell:=by simpa using a
   subst b;rcases gU r (n+1) ((y,n)::acc) h with h|⟨h1,h2⟩
   ·rw[Gh]at h;cases hb:x == y with
    | true=>
     rw[hb]at h;cases h;rw[beq_iff_eq.mp hb];exact .inr ⟨FN _,Fy⟩
    | false=>rw[hb]at h;exact .inl h
   ·exact .inr ⟨Nat.le_of_succ_le h1,Fv _ h2⟩
  ·rw[Gq a]at h;rcases gU r n acc h with h|⟨h1,h2⟩
   ·exact .inl h
   ·exact .inr ⟨h1,Fv _ h2⟩
theorem kx{x y:Vn}{c:Vb}:∀(names:List (Vn×NameKind)) (n:Nat) (acc:List (Vn×Vb)),(∀x c,acc.lookup x=Vo c->@LT.lt Nat _ c n)->(∀x y c,acc.lookup x=Vo c->acc.lookup y=Vo c->x=y)->(cellsFrom n names acc).lookup x=Vo c->(cellsFrom n names acc).lookup y=Vo c->x=y
 | [],_,_,_,hi,h1,h2=>hi _ _ _ h1 h2
 | (z,k)::r,n,acc,hb,hi,h1,h2=>by
  unfold cellsFrom at h1 h2;by_cases d:(k == NameKind.cell)=true
  ·rw[Gr d]at h1 h2;refine kx r (n+1) ((z,n)::acc) (λx c h=>?_) (λx y c h1 h2=>?_) h1 h2
   ·rw[Gh]at h;cases e:x == z with
    | true=>rw[e]at h;cases h;exact Nat.lt_succ_self _
    | false=>rw[e]at h;exact Nat.lt_succ_of_lt (hb x c h)
   ·rw[Gh]at h1 h2;cases b:x == z with
    | true=>
     rw[b]at h1;cases h1;cases a:y == z with
     | true=>rw[beq_iff_eq.mp b,beq_iff_eq.mp a]
     | false=>rw[a]at h2;exact absurd (hb _ _ h2) (Nat.lt_irrefl _)
    | false=>
     rw[b]at h1;cases a:y == z with
     | true=>rw[a]at h2;cases h2;exact absurd (hb _ _ h1) (Nat.lt_irrefl _)
     | false=>rw[a]at h2;exact hi _ _ _ h1 h2
  ·rw[Gq d]at h1 h2;exact kx r n acc hb hi h1 h2
theorem nz{x:Vn}{c:Vb}:∀(names:List (Vn×NameKind)) (h:Vh) (acc:List (Vn×Vb)),(cellsFrom h.objs.size names acc).lookup x=Vo c->acc.lookup x=Vo c\/(pushCells h names).IsCell c Vp
 | [],_,_,e=>.inl e
 | (y,k)::r,h,acc,e=>by
  unfold cellsFrom at e;unfold pushCells;by_cases a:(k == NameKind.cell)=true
  ·rw[Gr a]at e ⊢;rw[←Heap.size_push h { cls:=.type "cell",data:=.cell none }]at e;rcases nz r (h.push { cls:=.type "cell",data:=.cell none }) ((y,h.objs.size)::acc) e with e|e
   ·rw[Gh]at e;cases hb:x == y with
    | true=>
     rw[hb]at e;cases e;exact .inr ⟨_,pushCells_keeps _ _ _ _ (Fp _ rfl),rfl⟩
    | false=>rw[hb]at e;exact .inl e
   ·exact .inr e
  ·rw[Gq a]at e ⊢;exact nz r h acc e
section
variable {M:Model} {A:Vi} {E:Va->Vc->Prop} {s:Vc}
def EW{scope:Scope}{globals:Vb}{closure:List (Vn×Vb)}{qual:Vn}{func:Option Vb}{code:Va}{outer:Env}{builtins:Vb}{Q:Env->Vc->Prop}
  (b:Q (newEnv scope s.heap.objs.size globals (cellsFrom (s.heap.objs.size+1) scope.names closure) qual func code (Vo outer) builtins) { s with heap:=pushCells (s.heap.push { cls:=.type "dict",data:=.dict #[] }) scope.names }) :
  Vf M A (newFunctionEnv scope globals closure [] qual func code (Vo outer) builtins) Q E s:=by
 simp only[newFunctionEnv,Option.isSome_some,if_true];refine Fl (wpAny_alloc ?_);refine Fl (wpAny_layCells _ (λname kind cells=>by cases a:kind == NameKind.cell<;>simp[a]) _ _ _ _ ?_);rw[show ({ s with heap:=s.heap.push { cls:=.type "dict",data:=.dict #[] } }:Vc).heap.objs.size=s.heap.objs.size+1 from Heap.size_push ..];refine Fl ?_;rw[List.forIn_nil];exact Fm (Fm b)
end
def ic(X:Cx)(sc:Scope)(C:Vb):List (Vn×Vb):=cellsFrom (Nat.succ C) sc.names (cX sc.names X.env.cells)
def cM(X:Cx)(sc:Scope)(own:List Vn)(js:List Nat)(z:Blk):Cx where
 prog:=X.prog
 w:=X.w
 K:=X.K
 mg:=X.mg
 base:=X.base
 A:=X.A
 N:=own++js.map λj=>X.N.getD j ""
 s₀:=z.s
 H₀:=z.H
 env:=compEnvC sc (ic X sc z.C) z.C X.env
 outer:=X.stack
 stack:=X.stack
 ex:=z.fp
 fn:=λx=>sc.names.lookup x == Vo .cell
 calm:=X.calm
 pn:=[]
 xe:=λ_ _=>False
def ef(sc out:Scope):Bool:=sc.names.all λp=>(p.2 != .cell || sc.names.lookup p.1 == Vo .cell) && (p.2 != .local || sc.names.lookup p.1 == Vo .local) && (p.2 != .free || out.names.lookup p.1 == Vo .cell || out.names.lookup p.1 == Vo .free) && (p.2 != .free || sc.names.lookup p.1 == Vo .free)
def kI{sc out:Scope}(h:ef sc out=true){p:Vn×NameKind}(a:p∈sc.names)(b:p.2=.free):out.names.lookup p.1=Vo .cell\/out.names.lookup p.1=Vo .free:=by have:=F0.mp h p a;simp[b]at this;exact this.1
def yO{sc out:Scope}(h:ef sc out=true){x:Vn}(a:(x,NameKind.free)∈sc.names)(h2:sc.names.lookup x=Vo .cell):False:=by have:=F0.mp h _ a;simp[h2]at this
def Ac{sc out:Scope}(h:ef sc out=true){p:Vn×NameKind}(a:p∈sc.names)(b:p.2=.cell):sc.names.lookup p.1=Vo .cell:=by have:=F0.mp h p a;simp[b]at this;exact this
def ua{sc out:Scope}(h:ef sc out=true){p:Vn×NameKind}(a:p∈sc.names)(b:p.2=.local):sc.names.lookup p.1=Vo .local:=by have:=F0.mp h p a;simp[b]at this;exact this
section
variable {X:Cx} {pins:List (Vb×Obj)} {σ:St} {H:Hp} {s:Vc}
def je(ok:X.Ok){sc:Scope}(hb:ef sc X.env.scope=true){x:Vn}{c:Vb}(h:(cX sc.names X.env.cells).lookup x=Vo c):X.env.cells.lookup x=Vo c:=by
 rcases kX X.env.cells sc.names [] x c h with⟨h1,h2⟩|h1
 ·obtain⟨d,hd⟩:=ok.has x (kI hb h1 rfl);rw[hd]at h2 ⊢;rw[h2];rfl
 ·simp at h1
def iR(ok:X.Ok){sc:Scope}(hb:ef sc X.env.scope=true){C:Vb}{x:Vn}{c:Vb}(h:(ic X sc C).lookup x=Vo c):X.env.cells.lookup x=Vo c\/(@LT.lt Nat _ C c/\sc.names.lookup x=Vo .cell):=by
 rcases gU _ _ _ h with h|⟨h1,h2⟩
 ·exact .inl (je ok hb h)
 ·exact .inr ⟨h1,Ac hb h2 rfl⟩
def m7{sc:Scope}{x:Vn}{C:Vb}(h:(x,NameKind.free)∈sc.names):∃c,(ic X sc C).lookup x=Vo c:=by obtain⟨c,a⟩:=vK (cells:=X.env.cells) h;exact Option.isSome_iff_exists.mp (PySem.W.cellsFrom_some sc.names _ _ (.inr (by rw[a];rfl)))
def yQ(I:Inv X pins σ H s){sc:Scope}(hb:ef sc X.env.scope=true){x:Vn}{c:Vb}(h:(cX sc.names X.env.cells).lookup x=Vo c):@LT.lt Nat _ c s.heap.objs.size:=I.cell_lt (je I.ok hb h)
def Cq(I:Inv X pins σ H s){sc:Scope}{own:List Vn}{js:List Nat}{fp:List Vb}{C:Nat}(n:sc.kind=.function)(hb:ef sc X.env.scope=true)
  (hfp:∀b∈fp,cH X pins H b) (d:s.heap.objs.size<=C) (hlt:∀b∈fp,b<s.heap.objs.size):(cM X sc own js ⟨s,H,fp,C⟩).Ok where
 mod:=I.ok.mod
 kind:=n
 glob:=I.ok.glob
 blt:=I.ok.blt
 above:=d
 inj:=λx y c h1 h2=>kx sc.names _ _ (λx c e=>Nat.lt_succ_of_le (FY (Nat.le_of_lt (yQ I hb e)) d)) (λx y c g p=>I.ok.inj x y c (je I.ok hb g) (je I.ok hb p)) h1 h2
 has:=λx i=>by
  have j:(relabel sc X.env).names.lookup x=Vo .cell\/(relabel sc X.env).names.lookup x=Vo .free:=i;have go:∀k,(relabel sc X.env).names.lookup x=Vo k->(k=.cell\/k=.free)->∃c,(ic X sc C).lookup x=Vo c:=λk h l=>by
   obtain⟨u,h1,h2⟩:=lN (sc:=sc) (env:=X.env) h;have m:=i8 h1;rcases h2 with h2|⟨h2,_⟩
   ·subst h2;rcases l with e|e
    ·rw[e]at h1;exact Option.isSome_iff_exists.mp (PySem.W.cellsFrom_some sc.names _ _ (.inl h1))
    ·rw[e]at m;exact m7 m
   ·rw[h2]at m;exact m7 m
  rcases j with h|h
  ·exact go _ h (.inl rfl)
  ·exact go _ h (.inr rfl)
 cab:=λx c h e=>by
  have i:sc.names.lookup x=Vo .cell:=by simpa[cM]using h
  have q:(ic X sc C).lookup x=Vo c:=e;rcases gU _ _ _ q with g|⟨g,_⟩
  ·rcases kX X.env.cells sc.names [] x c g with⟨h1,_⟩|h1
   ·exact(yO hb h1 i).elim
   ·simp at h1
  ·exact FY d (Nat.le_of_succ_le g)
 hd:=I.ok.hd
 frames:=I.ok.frames
 stk:=.inl rfl
 exf:=λb a=>⟨FL (FX (hlt b a) d),λx c e=>by
  rcases iR I.ok hb (C:=C) e with e|⟨e,_⟩
  ·exact(hfp b a).2.2.2.2.1 x c e
  ·exact Nat.ne_of_gt (Nat.lt_trans (FX (hlt b a) d) e)⟩
 bs:=I.bs
 bsz:=FY I.ok.bsz I.sz
 noex:=λb o e a=>by
  rcases(hfp b a).2.2.2.1 with z|z
  ·exact I.ok.noex b o e z
  ·exact absurd (FX (Fq e) (FY I.ok.bsz z)) (Nat.lt_irrefl _)
 exfs:=λb a r=>by
  rcases FH.mp (I.stkSub b r)with e|h
  ·exact(hfp b a).2.1 e
  ·exact(hfp b a).2.2.1 h
 funs:=I.stack
 frf:=I.stkFree
def zR(I:Inv X pins σ H s){sc:Scope}{own:List Vn}{js:List Nat}{fp:List Vb}{C D:Nat}{h1:Vh}{tk:Nat}{o:Obj}{m:Vn->Option Va}(P:sc.kind=.function)(hb:ef sc X.env.scope=true)(Q:kA sc X.N js=true)
  (hfp:∀b∈fp,cH X pins H b) (hlt:∀b∈fp,b<s.heap.objs.size) (hD:D=s.heap.objs.size) (hC:C=s.heap.objs.size+1) (old:∀b o,s.heap.get? b=Vo o->h1.get? b=Vo o)
  (A:h1.get? D=Vo o) (B:∀v,o.data≠.cell v) (R:h1.Ns C m) (hcl:∀x c,(ic X sc C).lookup x=Vo c->(cX sc.names X.env.cells).lookup x=Vo c\/h1.IsCell c Vp) :
  Inv (cM X sc own js ⟨s,H,fp,C⟩) [(D,o)] (df own.length js σ) H { s with heap:=h1,toks:=tk } where
 ok:=Cq I P hb hfp (show @LE.le Nat _ s.heap.objs.size C by omega) hlt
 os:=rfl
 bare:=I.bare
 base:=Un.kept old
 loc:=by
  refine⟨m,R,λi x v S T U=>?_⟩;obtain⟨k,j,rfl,L,es⟩:=t9 T;have y:(own++js.map λj=>X.N.getD j "")[own.length+k]?=Vo x:=S;rw[FR (by omega),Nat.add_sub_cancel_left,Fu,L]at y;have ex:X.N.getD j "" = x:=by simpa using y
  have h:=F0.mp Q j (FC L);simp only[F5,decide_eq_true_eq,beq_iff_eq]at h;have E:X.N[j]?=some x:=by rw[←ex,List.getD_eq_getElem?_getD,Ft h.1];rfl
  have a:sc.names.lookup x=some .free:=by rw[←ex];exact h.2
  have hmem:=i8 a;have g:=kI hb hmem rfl;obtain⟨m0,W,F⟩:=I.loc;obtain⟨u,r,l⟩:=F j x v E es (by rcases g with z|z;exact .inr (.inl z);exact .inr (.inr z));refine⟨u,r,?_⟩;obtain⟨c,M⟩:=m7 (X:=X) (C:=C) hmem;have G:X.env.cells.lookup x=Vo c:=by
   rcases iR I.ok hb M with e|⟨_,e⟩
   ·exact e
   ·rw[a]at e;cases e
  have n:s.heap.IsCell c (Vo u):=by
   rcases l with⟨z,_⟩|⟨_,c',O,q⟩
   ·have Y:X.env.scope.names.lookup x=Vo .local:=z;rcases g with w|w<;>(rw[Y]at w;cases w)
   ·rw[G]at O;cases O;exact q
  have d:h1.IsCell c (Vo u):=by obtain⟨oc,ho,hd⟩:=n;exact⟨oc,old c oc ho,hd⟩
  right;refine⟨?_,c,M,d⟩;have J:(relabel sc X.env).names.lookup x=Vo .local\/(relabel sc X.env).names.lookup x=Vo .cell\/(relabel sc X.env).names.lookup x=Vo .free:=U;rcases J with z|z
  ·obtain⟨k',z1,z2⟩:=lN (sc:=sc) (env:=X.env) z;rw[a]at z1;rcases z2 with z2|⟨_,z2⟩
   ·rw[z2]at z1;cases z1
   ·cases z2
  ·exact z
 cell:=λx c e=>by
  rcases hcl x c e with e|e
  ·obtain⟨v,oc,ho,hd⟩:=I.cell x c (je I.ok hb e);exact⟨v,oc,old c oc ho,hd⟩
  ·exact⟨Vp,e⟩
 free:=I.hok.fresh (show @LE.le Nat _ s.heap.objs.size C by omega)
 freeC:=λx c e=>by
  rcases iR I.ok hb (C:=C) e with e|⟨e,_⟩
  ·exact I.freeC x c e
  ·exact I.hok.fresh (show @LE.le Nat _ s.heap.objs.size c by omega)
 pin:=λp Z=>by
  have e:p=(D,o):=by simpa[cM]using Z
  subst e;refine⟨A,I.hok.fresh (show @LE.le Nat _ s.heap.objs.size D by omega),?_,λz=>?_,B⟩
  ·exact FL (show @LT.lt Nat _ D C by omega)
  ·have h9:@LT.lt Nat _ D s.heap.objs.size:=I.stk_lt (b:=D) z;omega
 hok:=I.hok.kept old
 len:=by show(df own.length js σ).length=(own++js.map λj=>X.N.getD j "").length;simp[df]
def xG{elt tg iter:Vk}{ifs:List Vk}{sc:Scope}{pos:Pos}{own:List Vn}{js:List Nat}{g:TG}{tc:TT}{te:TE}{J:It}{it:Vb}{fp:List Vb}{tn:Nat->Vh->Prop}{RR:Va->Vb->Result->Vc->Prop}{E:Va->Vc->Prop}
  {Q:VK} {W:Nat->Nat->List V->Hp->Prop} (hk:sc.kind=.function) (hb:ef sc X.env.scope=true) (hj:kA sc X.N js=true)
  (hg:∀C,PG (cM X sc own js ⟨s,H,fp,C⟩) tg g) (ht:∀C,jD (cM X sc own js ⟨s,H,fp,C⟩) ifs tc) (he:∀C,PE (cM X sc own js ⟨s,H,fp,C⟩) elt te)
  (I:Inv X pins σ H s) (T:∀C,TurnAt (cM X sc own js ⟨s,H,fp,C⟩) tg J fp it tn) (st:tn 0 s.heap) (hfp:∀b∈fp,cH X pins H b) (w0:∃m,W 0 m [] H)
  (turn:∀i m ys H',W i m ys H'->(J.stop i H'/\∀p,H' p=Vp->Q (.ref p) (upd H' p (.lst ys))) ∨
   (J.go i H'/\ys.length<sizeLine/\∃N:List V->Hp->Prop,(∀ys' H2,N ys' H2->∃m',m'<m/\W (i+1) m' ys' H2)/\∀x H2,J.yld i H' x H2->g x (df own.length js σ) H2 λac O=>tc ac O λb H4=>
    if b=true then te ac H4 λv H5=>N (ys++[v]) H5 else N ys H4))
  (fin:∀D C s' ys H',H' D=Vp->Inv X pins σ (upd H' D (.lst ys)) s'->cH X pins (upd H' D (.lst ys)) C->(∃m,s'.heap.Ns C m)->s.heap.objs.size<=C->Q (.ref D) (upd H' D (.lst ys))->RR (.ref D) C (.ok .next) s') :
  Vf (Vg X.prog X.w) X.A (newList []) (λacc L=>Vf (Vg X.prog X.w) X.A (newFunctionEnv sc X.env.globals (cX sc.names X.env.cells) [] X.env.qual Vp .none (Vo X.env)) (λa3 ad=>
   codeAny (Vg X.prog X.w) X.A (.compStart (.ListComp elt [⟨tg,iter,ifs,0⟩] sc pos) 0 (.ref it) acc { a3 with scope:=relabel sc X.env }) (RR acc a3.locals) ad) E L) E s:=by
 have hlt:∀b∈fp,b<s.heap.objs.size:=λb l=>by obtain⟨o,e,_⟩:=(T 0).obj 0 s.heap st b l;exact Fq e
 refine wpAny_newObj_type (EW ?_);dsimp only;generalize a5:s.heap.push { cls:=.type "list",dict:=none,data:=.seq ([]:List Va).toArray }=H2 at *;have b5:H2.objs.size=s.heap.objs.size+1:=by rw[←a5,Heap.size_push]
 have Z:(pushCells (H2.push { cls:=.type "dict",data:=.dict #[] }) sc.names).Ns H2.objs.size (λ_=>none):=(Heap.Ns.new H2 (.type "dict")).keeps (pushCells_keeps _ _);have a0:∀x c,(ic X sc H2.objs.size).lookup x=some c->(cX sc.names X.env.cells).lookup x=some c\/(pushCells (H2.push { cls:=.type "dict",data:=.dict #[] }) sc.names).IsCell c none:=λx c e=>by have e':(cellsFrom (H2.objs.size+1) sc.names (cX sc.names X.env.cells)).lookup x=some c:=e;rw[←Heap.size_push H2 { cls:=.type "dict",data:=.dict #[] }]at e';exact nz _ _ _ e'
 have old:∀b o,s.heap.get? b=Vo o->(pushCells (H2.push { cls:=.type "dict",data:=.dict #[] }) sc.names).get? b=Vo o:=λb o e=>pushCells_keeps _ _ b o (Fo _ (a5 ▸ Fo _ e));have b6:(pushCells (H2.push { cls:=.type "dict",data:=.dict #[] }) sc.names).get? s.heap.objs.size=Vo (dX [] 0):=pushCells_keeps _ _ _ _ (Fo _ (a5 ▸ Fp _ rfl));generalize pushCells (H2.push { cls:=.type "dict",data:=.dict #[] }) sc.names=G at *;generalize bu:H2.objs.size=C at *;have below:∀b:Nat,b<s.heap.objs.size->b≠C:=λb l=>by omega
 generalize a1:s.heap.objs.size=D at *;let Y:Cx:=cM X sc own js ⟨s,H,fp,C⟩;have J0:Inv Y [(D,dX [] 0)] (df own.length js σ) H { s with heap:=G }:=
  zR I hk hb hj hfp (by rw[a1];exact hlt) a1.symm (by rw[a1];exact b5) old b6 (λv z=>by cases z) Z a0
 have a6:@Ne Nat D C:=by omega
 have statF:∀{P':List (Vb×Obj)} {H':Hp},(∀b∈fp,H' b=Vp)->(∀p∈P',p.1∉fp)->∀b∈fp,cH Y P' H' b:=λ{P' H'} hn M b l=>by
  obtain⟨f0,f1,f2,f3,f4,f5⟩:=hfp b l;refine⟨hn b l,λz=>below b (hlt b l) z,λz=>?_,.inl l,λx c e=>?_,λp a7 z=>?_⟩
  ·rcases FH.mp (I.stkSub b z)with e|h
   ·exact f1 e
   ·exact f2 h
  ·rcases iR I.ok hb (C:=C) e with e|⟨e,_⟩
   ·exact f4 x c e
   ·have h9:@LT.lt Nat _ b s.heap.objs.size:=by rw[a1];exact hlt b l
    exact Nat.ne_of_gt (show @LT.lt Nat _ b c by omega)
  ·have:p∈P':=by simpa[Y,cM]using a7
   exact M p this (by rw[z];exact l)
 have ak:D∉fp:=λz=>by have h9:@LT.lt Nat _ D D:=hlt D z;omega
 have am:tn 0 G:=(T 0).keep 0 s.heap G st λb _ o e=>old b o e;have loop:∀L:Vc,L={ s with heap:=G } →
   codeAny (Vg X.prog X.w) X.A (.compLoop (.ListComp elt [⟨tg,iter,ifs,0⟩] sc pos) 0 (.ref it) (.ref D) Y.env) (RR (.ref D) C) L:=by
  rintro L rfl;obtain⟨m0,w0⟩:=w0;refine BB (λn s'=>∃i ys y q H',Inv Y [(D,dX y q)] (df own.length js σ) H' s'/\Vals ys y/\ys.length<=sizeLine/\tn i s'.heap/\(∀b∈fp,H' b=Vp)/\W i n ys H') ?_ m0
   ⟨0,[],[],0,H,J0,.nil,Nat.zero_le _,am,λb l=>(hfp b l).1,w0⟩
  rintro n s3 ⟨i,ys,y,q,O,I3,rv,hz,an,ap,w3⟩;have pD:∀p∈[(D,dX y q)],p.1∉fp:=λp M=>by
   have e:p=(D,dX y q):=by simpa using M
   rw[e];exact ak
  rcases turn i n ys O w3 with⟨stop,qn⟩|⟨go,hlen,N,hN,step⟩
  ·refine aD ((T C).done i _ s3 _ O _ I3 (statF ap pD) an stop) λr s4 ⟨hr,I4⟩=>?_;subst hr;show RR (.ref D) C (.ok .next) s4;have P:=I4.pin (D,dX y q) (F9 _ (FD.mpr rfl));have b7:s4.heap.get? D=Vo (dX y q):=P.1;have nD:O D=Vp:=P.2.1;have U:Un (dm X.stack) fp H O s.heap s4.heap:=I4.base;have neD:∀b o,s.heap.get? b=Vo o->b≠D:=λb o e=>FL (by have h9:@LT.lt Nat _ b s.heap.objs.size:=Fq e;omega);have neDH:∀b o,H b=Vo o->b≠D:=λb o e=>FL (by have h9:@LT.lt Nat _ b s.heap.objs.size:=I.hok.lt e;omega);have U2:Un (dm X.stack) fp H (upd O D (.lst ys)) s.heap s4.heap:=
    ⟨U.keep,U.slot,λb o e n hx=>by rw[aG (neD b o e)];exact U.free b o e n hx,U.there,λb xs e=>by rw[aG (neDH b _ e)];exact U.tups b xs e,
     λb o u e=>by rw[aG (neDH b _ e)];exact U.frzs b o u e,λb ps e=>by rw[aG (neDH b _ e)];exact U.tbls b ps e⟩
   have ar:bj X.prog X.w (upd O D (.lst ys)) s4.heap:=λb o e=>by
    by_cases l:b=D
    ·subst l;rw[aI]at e;cases e;exact⟨hz,y,q,rv,b7⟩
    ·rw[aG l]at e;exact(I4.hok b o e).stay (λc u _ z=>z) (λc z=>by rw[aG (cQ z nD)];exact z) λc xs z=>by rw[aG (cQ z nD)];exact z
   have IX:Inv X pins σ (upd O D (.lst ys)) s4:=I.call' (ch:=fp) I4.os U2 ar I4.bare λb l=>by obtain⟨f0,f1,f2,f3,f4,f5⟩:=hfp b l;exact⟨f3,f1,f4,f5⟩
   obtain⟨m4,b8,_⟩:=I4.loc;have nC:O C=Vp:=I4.free;refine fin D C s4 ys O nD IX ?_ ⟨m4,b8⟩ (show @LE.le Nat _ D C by omega) (qn D nD);refine⟨by rw[aG (Ne.symm a6)];exact nC,?_,?_,?_,?_,?_⟩
   ·have h9:@LT.lt Nat _ X.env.locals s.heap.objs.size:=I.lt;exact Nat.ne_of_gt (show @LT.lt Nat _ X.env.locals C by omega)
   ·exact I.nofs (show @LE.le Nat _ s.heap.objs.size C by omega)
   ·right;have h9:@LE.le Nat _ X.s₀.heap.objs.size s.heap.objs.size:=I.sz;exact(show @LE.le Nat _ X.s₀.heap.objs.size C by omega)
   ·intro x c e;have h9:@LT.lt Nat _ c s.heap.objs.size:=I.cell_lt e;exact FL (show @LT.lt Nat _ c C by omega)
   ·intro p M;have h9:@LT.lt Nat _ p.1 s.heap.objs.size:=I.pin_lt M;exact FL (show @LT.lt Nat _ p.1 C by omega)
  ·refine aD ((T C).item i _ s3 _ O _ I3 (statF ap pD) an go) λr s4 ⟨u,hr,h4⟩=>?_;subst hr;refine aD h4 λ_ s5 ⟨x,H5,I5,r5,y5,a8,ba⟩=>?_;have bb:=I5.pinned (statF ba pD) ((T 0).obj _ _ a8);refine aD (hg _ _ s5 _ H5 x u _ bb r5 (step x H5 y5)) λ_ s6 ⟨a2,H6,I6,q6⟩=>?_;refine aD (ht _ _ s6 a2 H6 _ I6 q6) λok s7 ⟨H7,I7,q7⟩=>?_;have back:∀{s':Vc} {as:St} {H':Hp} {ys':List V} {its':List Va} {q':Nat},Inv Y ([(D,dX its' q')]++gy fp s5.heap) as H' s'->Vals ys' its'->ys'.length<=sizeLine->N ys' H' →
     ∃m,m<n/\∃i ys y q H',Inv Y [(D,dX y q)] (df own.length js σ) H' s'/\Vals ys y/\ys.length<=sizeLine/\tn i s'.heap/\(∀b∈fp,H' b=Vp)/\W i m ys H':=by
    intro s' as H' ys' its' q' I' bc be nn;obtain⟨m',hm,w'⟩:=hN ys' H' nn;have hpin:∀b∈fp,∀o,s5.heap.get? b=Vo o->s'.heap.get? b=Vo o/\H' b=Vp:=λb l o e=>by have:=I'.pin (b,o) (F9 _ (F9 _ (mF l e)));exact⟨this.1,this.2.1⟩
    refine⟨m',hm,i+1,ys',its',q',H',?_,bc,be,(T 0).keep _ _ _ a8 λb l o e=>(hpin b l o e).1,λb l=>?_,w'⟩
    ·have B:=I'.unpinned;obtain⟨mm,bg,_⟩:=id B.loc;refine⟨B.ok,B.os,B.bare,B.base,⟨mm,bg,λk x v e1 e2 e3=>?_⟩,B.cell,B.free,B.freeC,B.pin,B.hok,?_⟩
     ·obtain⟨m1,bv,bi⟩:=J0.loc;obtain⟨u1,r1,l1⟩:=bi k x v e1 e2 e3;refine⟨u1,r1,?_⟩;obtain⟨k',j,rfl,ej,es⟩:=t9 e2;have au:(own++js.map λj=>X.N.getD j "")[own.length+k']?=Vo x:=e1;rw[FR (by omega),Nat.add_sub_cancel_left,Fu,ej]at au;have ex:X.N.getD j "" = x:=by simpa using au
      have b0:=F0.mp hj j (FC ej);simp only[F5,decide_eq_true_eq,beq_iff_eq]at b0;have R:sc.names.lookup x=some .free:=by rw[←ex];exact b0.2
      rcases l1 with⟨z,zz⟩|⟨z,c,e,zz⟩
      ·exfalso;obtain⟨k2,z1,z2⟩:=lN (sc:=sc) (env:=X.env) (show(relabel sc X.env).names.lookup x=Vo .local from z);rw[R]at z1;rcases z2 with z2|⟨_,z2⟩
       ·rw[z2]at z1;cases z1
       ·cases z2
      ·refine .inr ⟨z,c,e,?_⟩;have a9:X.env.cells.lookup x=Vo c:=by
        rcases iR I.ok hb (C:=C) e with e|⟨_,e⟩
        ·exact e
        ·rw[R]at e;cases e
       obtain⟨ov,oc,b1,bx⟩:=I.cell x c a9;have b2:=old c oc b1;obtain⟨oz,bl,bm⟩:=zz;have a4:G.get? c=Vo oz:=bl;rw[b2]at a4;cases a4;have cnf:c∉fp:=λz'=>(hfp c z').2.2.2.2.1 x c a9 rfl;obtain⟨sl,hh⟩:=B.base.any b1 (I.freeC x c a9) cnf;exact⟨_,hh,bm⟩
     ·show(df own.length js σ).length=_;exact J0.len
    ·obtain⟨o,e,d⟩:=(T 0).obj _ _ a8 b l;exact(hpin b l o e).2
   cases ok with
   | false=>
    rw[Gq FI]at q7 ⊢;exact back I7 rv hz q7
   | true=>
    rw[Gr rfl]at q7 ⊢;refine aD (he _ _ s7 a2 H7 _ I7 q7) λS s8 ⟨v,H8,I8,r8,q8⟩=>?_;have P:=I8.pin (D,dX y q) (F9 _ (Ga _ (FD.mpr rfl)));have ab:s8.heap.get? D=Vo { cls:=.type "list",data:=.seq y.toArray q }:=P.1;have hl:=rv.length;refine call_meets F.slot_list_append ⟨_,ab,rfl⟩ F.entry_list_append (F.args_list_append_2 _ _) (PySem.list_append D y.toArray q S (by rw[Fx];omega)) ⟨ab,?_⟩;have qq:=PySem.IsL.update ab (λa=>a.push S);have eqs:y.toArray.push S=(y++[S]).toArray:=by simp
    rw[eqs]at qq;obtain⟨q2,bn⟩:∃q2,(s8.heap.update D (Obj.mapSeq λa=>a.push S)).get? D=Vo (dX (y++[S]) q2):=⟨_,qq⟩;have bt:Inv Y (gy fp s5.heap) a2 H8 s8:=I8.pins_of λp M=>I8.pin p (F9 _ (F9 _ M));have b4:H8 D=Vp:=P.2.1;have I9:Inv Y (gy fp s5.heap) a2 H8 { s8 with heap:=s8.heap.update D (Obj.mapSeq λa=>a.push S),toks:=s8.toks }:=by
     refine bt.turned (it:=D) (λb o l e=>(Heap.get?_update_other s8.heap (Obj.mapSeq λa=>a.push S) (Ne.symm l)).trans e) b4 a6 (.inr (show @LE.le Nat _ s.heap.objs.size D by omega)) (λx c e=>?_) λp M=>?_
     ·rcases iR I.ok hb (C:=C) e with e|⟨e,_⟩
      ·have h9:@LT.lt Nat _ c s.heap.objs.size:=I.cell_lt e;exact FL (show @LT.lt Nat _ c D by omega)
      ·exact Nat.ne_of_gt (show @LT.lt Nat _ D c by omega)
     ·have a7:p∈gy fp s5.heap:=by simpa[Y,cM]using M
      obtain⟨h1,_⟩:=xE a7;exact λz=>ak (z ▸ h1)
    refine back (ys':=ys++[v]) (its':=y++[S]) (q':=q2) (I9.pins_of λp M=>?_) (rv.append (.cons r8 .nil)) (by rw[FK,List.length_singleton];omega) q8;rcases FQ.mp M with M|M
    ·have e:p=(D,dX (y++[S]) q2):=by simpa using M
     subst e;refine⟨bn,b4,a6,λz=>?_,λv z=>by cases z⟩;have h9:@LT.lt Nat _ D s.heap.objs.size:=I.stk_lt (b:=D) z;omega
    ·exact I9.pin p (F9 _ M)
 exact codeAny_compStart_list (loop _ rfl) ((T 0).self X.A 0 { s with heap:=G } _ _ am (loop _ rfl))
def bK{elt tg iter:Vk}{ifs:List Vk}{sc:Scope}{pos:Pos}(own:List Vn)(js:List Nat){j:TI}{g:TG}{tc:TT}{te:TE}(hi:PI X tg iter j)(n:∀z,PG (cM X sc own js z) tg g)(r:∀z,jD (cM X sc own js z) ifs tc)
  (u:∀z,PE (cM X sc own js z) elt te) (y:X.calm=true:=by rfl) (k:sc.kind=.function:=by rfl) (hb:ef sc X.env.scope=true:=by rfl) (B:kA sc X.N js=true:=by rfl)
  (hs:∀x,foldedSetIterable iter X.env x=pure x:=by intro _;rfl):PE X (.ListComp elt [⟨tg,iter,ifs,0⟩] sc pos) (pR own.length js j g tc te):=by
 intro pins s σ H Q I h;rw[eval_ListComp];refine wpAny_comprehension_free (use:=Vp) rfl hs (nR λp a E=>I.ok.has p.1 (kI hb a E)) k (λp a F=>ua hb a F) (aD (hi pins s σ H _ I h) λv s1 h1=>aD h1 λG s2 h2=>?_);obtain⟨it,fp,tn,J,H2,e,L,T,c,l,W,w0,turn⟩:=h2;subst e;refine xG (RR:=λacc C=>compPost (Vg X.prog X.w) X.A X.xe Vp (EP X pins σ Q) acc C) k hb B (λ_=>n _) (λ_=>r _) (λ_=>u _) L (λC=>Turn.at_ (Y:=cM X sc own js ⟨_,_,_,C⟩) T y) c l w0 turn ?_;intro D C s' ys H' nD M O ⟨m,P⟩ _ q;refine⟨m,P,λh' d=>?_⟩;obtain⟨R,S,l,U,Z,f5⟩:=O;exact⟨.ref D,_,M.turned (t':=s'.toks) (it:=C) (λb o i e=>(d.2 b i).trans e) R S U Z f5,rfl,q⟩
end
def cZ(c:Vb)(o:Obj):HO:=.ext λh=>h.get? c=Vo o
def Dr{P:Vd}{w:Ve}{H:Hp}{h:Vh}{c:Vb}{o:Obj}(r:h.get? c=Vo o):bE P w H h c (cZ c o):=⟨r,⟨o,r⟩,λh1 h2 r1 k=>k o r1⟩
def bQ(cs:List (Vb×Obj))(H:Hp):Hp:=λb=>match cs.lookup b with|some o=>Vo (cZ b o)|none=>H b
def aY(cs:List (Vb×Obj))(H:Hp):Hp:=λb=>match cs.lookup b with|some _=>Vp|none=>H b
section
variable {cs:List (Vb×Obj)} {H H':Hp} {b:Vb} {o:Obj} {P:Vd} {w:Ve} {h h':Vh} {fs ex:List Vb}
def fh(q:cs.lookup b=Vo o):bQ cs H b=Vo (cZ b o):=by unfold bQ;rw[q]
def cV(q:cs.lookup b=Vp):bQ cs H b=H b:=by unfold bQ;rw[q]
def ik(q:cs.lookup b=Vo o):aY cs H b=Vp:=by unfold aY;rw[q]
def cL(q:cs.lookup b=Vp):aY cs H b=H b:=by unfold aY;rw[q]
def AS{u:HO}(q:aY cs H b=Vo u):cs.lookup b=Vp/\H b=Vo u:=by
 cases e:cs.lookup b with
 | none=>rw[cL e]at q;exact⟨rfl,q⟩
 | some o=>rw[ik e]at q;cases q
def nV{u:HO}(a:∀b o,cs.lookup b=Vo o->H b=Vp)(q:H b=Vo u):bQ cs H b=Vo u:=by
 cases e:cs.lookup b with
 | none=>rw[cV e];exact q
 | some o=>rw[a b o e]at q;cases q
def uT(hok:bj P w H h)(c:∀b o,cs.lookup b=Vo o->h.get? b=Vo o)(a:∀b o,cs.lookup b=Vo o->H b=Vp):bj P w (bQ cs H) h:=λb u e=>by
 cases q:cs.lookup b with
 | some o=>rw[fh q]at e;cases e;exact Dr (c b o q)
 | none=>
  rw[cV q]at e;exact(hok b u e).stay (λd v _ g=>g) (λd hd=>nV a hd) λd xs hd=>nV a hd
def vX(hok:bj P w H h)(c:∀b o,cs.lookup b=Vo o->H b=Vo (cZ b o)):bj P w (aY cs H) h:=λb u e=>by
 obtain⟨q,e⟩:=AS e;have a:∀d x,H d=Vo x->(∀f,x≠.ext f)->aY cs H d=Vo x:=λd x hd nx=>by
  cases z:cs.lookup d with
  | none=>rw[cL z];exact hd
  | some o'=>rw[c d o' z]at hd;cases hd;exact absurd rfl (nx _)
 exact(hok b u e).stay (λd v _ g=>g) (λd hd=>a d _ hd λf z=>by cases z) λd xs hd=>a d _ hd λf z=>by cases z
def Ea(u:Un fs ex (bQ cs H) H' h h')(hok':bj P w H' h')(g:∀b o,cs.lookup b=Vo o->h.get? b=Vo o)(c:∀b o,cs.lookup b=Vo o->H b=Vp)(a:∀b o,cs.lookup b=Vo o->H' b=Vo (cZ b o)):Un fs ex H (aY cs H') h h' where
 keep:=λb o e n d nx=>by
  cases q:cs.lookup b with
  | none=>exact u.keep b o e (by rw[cV q];exact n) d nx
  | some o'=>
   rw[g b o' q]at e;cases e;exact(hok' b _ (a b _ q)).1
 slot:=λb o e n d nx=>by
  cases q:cs.lookup b with
  | none=>exact u.slot b o e (by rw[cV q];exact n) d nx
  | some o'=>
   rw[g b o' q]at e;cases e;exact⟨_,(hok' b _ (a b _ q)).1⟩
 free:=λb o e n nx=>by
  cases q:cs.lookup b with
  | none=>rw[cL q];exact u.free b o e (by rw[cV q];exact n) nx
  | some o'=>exact ik q
 there:=u.there
 tups:=λb xs e=>by
  cases q:cs.lookup b with
  | none=>rw[cL q];exact u.tups b xs (by rw[cV q];exact e)
  | some o'=>rw[c b o' q]at e;cases e
 frzs:=λb o x e=>by
  cases q:cs.lookup b with
  | none=>rw[cL q];exact u.frzs b o x (by rw[cV q];exact e)
  | some o'=>rw[c b o' q]at e;cases e
 tbls:=λb ps e=>by
  cases q:cs.lookup b with
  | none=>rw[cL q];exact u.tbls b ps (by rw[cV q];exact e)
  | some o'=>rw[c b o' q]at e;cases e
def EK(u:Un fs ex (aY cs H) H' h h')(a:∀b o,cs.lookup b=Vo o->H b=Vo (cZ b o)):Un fs ex H (bQ cs H') h h' where
 keep:=λb o e n c nx=>by
  cases q:cs.lookup b with
  | none=>exact u.keep b o e (by rw[cL q];exact n) c nx
  | some o'=>rw[a b o' q]at n;cases n
 slot:=λb o e n c nx=>by
  cases q:cs.lookup b with
  | none=>exact u.slot b o e (by rw[cL q];exact n) c nx
  | some o'=>rw[a b o' q]at n;cases n
 free:=λb o e n nx=>by
  cases q:cs.lookup b with
  | none=>rw[cV q];exact u.free b o e (by rw[cL q];exact n) nx
  | some o'=>rw[a b o' q]at n;cases n
 there:=u.there
 tups:=λb xs e=>by
  cases q:cs.lookup b with
  | none=>rw[cV q];exact u.tups b xs (by rw[cL q];exact e)
  | some o'=>rw[a b o' q]at e;cases e
 frzs:=λb o x e=>by
  cases q:cs.lookup b with
  | none=>rw[cV q];exact u.frzs b o x (by rw[cL q];exact e)
  | some o'=>rw[a b o' q]at e;cases e
 tbls:=λb ps e=>by
  cases q:cs.lookup b with
  | none=>rw[cV q];exact u.tbls b ps (by rw[cL q];exact e)
  | some o'=>rw[a b o' q]at e;cases e
end
structure FunR(P:Vd)(w:Ve)(K:Fn)(mg:Vn->Option Va)(base:Vh)(k:Nat)(f:Vb)(pre:Hp->Prop)(R:List V->Hp->VK->Prop):Prop where
 at_:∀H h,bj P w H h->pre H->PySem.W.FnAt f h
 run:∀(A:Vi) (outer:List Env) (s:Vc) (H:Hp) (us:List Va) (vs:List V) (Q:VK),Room k A->Env0 P w K mg base A outer s H->pre H->Vals vs us->R vs H Q →
  codeAny (Vg P w) A (.call (.ref f) ⟨us,[]⟩) (CR dI outer P w H s Q E0) s
def vd(P:Vd)(w:Ve)(K:Fn)(mg:Vn->Option Va)(base:Vh)(k:Nat)(a:TE)(ta:TA):TE:=λσ H Q=>a σ H λb H1=>∃f pre R,b=.ref f/\FunR P w K mg base k f pre R/\pre H1/\ta σ H1 λvs H2=>pre H2/\R vs H2 Q
def sG{X:Cx}{P:Vd}{w:Ve}{K:Fn}{mg:Vn->Option Va}{base:Vh}{k:Nat}{x:Vn}{p pos:Pos}{e:Vk}{es:List Vk}{g:TE}{ta:TA}{i:Vi}(l:Room k i)(m:PE X (.Name x p) g)(ha:PA X (e::es) ta)(hA:X.A=i:=by rfl)(n:X.prog=P:=by rfl)(o:X.w=w:=by rfl)(q:X.K=K:=by rfl)(y:X.mg=mg:=by rfl)(z:X.base=base:=by rfl)
  (B:starEach (e::es) X.env=(false,eval e X.env)::starEach es X.env:=by rfl) (c:(backTo pos (starEach es X.env)).any (·.1)=false:=by rfl):PE X (.Call (.Name x p) (e::es) [] pos) (vd P w K mg base k g ta):=by
 subst hA;subst n;subst o;subst q;subst y;subst z;intro pins s σ H Q I h;refine wpAny_Call_Name_kw (aD (m pins s σ H _ I h) λM s1 ⟨v,H1,j,r1,⟨f,pre,R,ev,F,C,E⟩⟩=>?_);subst ev;cases r1;refine PySem.W.callWith_F (first:=[]) (F.at_ _ _ j.hok C) (aD (ha pos pins s1 σ H1 _ j E) λus s2 ⟨vs,H2,d,G,⟨a,J⟩⟩=>?_) B c;refine⟨F.at_ _ _ d.hok a,?_⟩;refine wpAny_call (codeAny_mono (F.run X.A X.stack s2 H2 us vs Q l d.env0 a G J) λr s' b=>?_);cases r with
 | error e=>exact False.elim b
 | ok L=>
  cases L with
  | ret u=>exact d.after b
  | next=>exact False.elim b
  | brk=>exact False.elim b
  | cont=>exact False.elim b
structure Cap where
 n:Vn
 c:Vb
 o:Obj
 v:V
abbrev cellsOf(cp:List Cap):List (Vb×Obj):=cp.map λe=>(e.c,e.o)
structure CapAt(X:Cx)(σ:St)(h:Vh)(js:List Nat)(cp:List Cap):Prop where
 len:cp.length=js.length
 at_:∀(i j:Nat) (e:Cap),js[i]?=Vo j->cp[i]?=Vo e->X.N[j]?=Vo e.n/\X.env.cells.lookup e.n=Vo e.c/\σ[j]?=Vo (Vo e.v)/\h.get? e.c=Vo e.o/\∃u,e.o.data=.cell (Vo u)/\RelV e.v u
def gC{cp:List Cap}{b:Vb}{o:Obj}(h:(cellsOf cp).lookup b=Vo o):∃e∈cp,e.c=b/\e.o=o:=by
 have a:(b,o)∈cellsOf cp:=by
  have go:∀{l:List (Vb×Obj)},l.lookup b=Vo o->(b,o)∈l:=by
   intro l;induction l with
   | nil=>intro h;cases h
   | cons x r d=>
    intro h;obtain⟨y,z⟩:=x;rw[Gh]at h;cases hb:b == y with
    | true=>rw[hb]at h;cases h;rw[beq_iff_eq.mp hb];exact Fy
    | false=>rw[hb]at h;exact Fv _ (d h)
  exact go h
 obtain⟨e,g,eq⟩:=List.mem_map.mp a;cases eq;exact⟨e,g,rfl,rfl⟩
def Ec{cp:List Cap}{e:Cap}(h:e∈cp):∃o,(cellsOf cp).lookup e.c=Vo o:=by
 induction cp with
 | nil=>cases h
 | cons x r a=>
  show ∃o,List.lookup e.c ((x.c,x.o)::cellsOf r)=Vo o;rw[Gh];cases hb:e.c == x.c with
  | true=>exact⟨_,rfl⟩
  | false=>
   rcases FH.mp h with rfl|h
   ·simp at hb
   ·exact a h
def la(sc:Scope)(N:List Vn)(js:List Nat):Bool:=js.all λj=>decide (j<N.length) && (sc.names.lookup (N.getD j "") == Vo .cell)
section
variable {X:Cx} {pins:List (Vb×Obj)} {σ:St} {H:Hp} {s:Vc}
theorem Inv.capAt(I:Inv X pins σ H s):∀{js:List Nat},la X.env.scope X.N js=true->(∀j∈js,∃v,σ[j]?=Vo (Vo v))->∃cp,CapAt X σ s.heap js cp
 | [],_,_=>⟨[],rfl,λi j e h=>by simp at h⟩
 | j::js,q,g=>by
  have a:(decide (j<X.N.length) && (X.env.scope.names.lookup (X.N.getD j "") == Vo .cell))=true/\la X.env.scope X.N js=true:=by simpa[la]using q
  obtain⟨cp,b⟩:=I.capAt (js:=js) a.2 λi hi=>g i (Fv _ hi);obtain⟨v,ev⟩:=g j Fy;have h1:=a.1;simp only[F5,decide_eq_true_eq,beq_iff_eq]at h1;have n:X.N[j]?=Vo (X.N.getD j ""):=by rw[List.getD_eq_getElem?_getD,Ft h1.1];rfl
  obtain⟨m,y,w⟩:=I.loc;obtain⟨u,r,l⟩:=w j _ v n ev (.inr (.inl h1.2));rcases l with⟨z,_⟩|⟨_,c,x,o,ho,hd⟩
  ·have p:X.env.scope.names.lookup (X.N.getD j "")=Vo .local:=z;rw[h1.2]at p;cases p
  ·refine⟨⟨X.N.getD j "",c,o,v⟩::cp,by simp[b.len],λi k e h2 d=>?_⟩;cases i with
   | zero=>
    cases h2;cases d;exact⟨n,x,ev,ho,u,hd,r⟩
   | succ i=>
    simp at h2 d;exact b.at_ i k e h2 d
def CapAt.mem{js:List Nat}{cp:List Cap}{h:Vh}(C:CapAt X σ h js cp){e:Cap}(a:e∈cp):X.env.cells.lookup e.n=Vo e.c/\h.get? e.c=Vo e.o/\∃u,e.o.data=.cell (Vo u)/\RelV e.v u:=by
 obtain⟨i,hi⟩:=Gg a;have b:i<js.length:=by rw[←C.len];exact(FA.mp hi).1
 obtain⟨_,h2,_,d,g⟩:=C.at_ i _ e (Ft b) hi;exact⟨h2,d,g⟩
def zr{k:Nat}{f:Vb}{fd:Vm}{ps:List Vn}{sp:Sp}{Q:VK}{us:List Va}{vs:List V}{js:List Nat}{cp:List Cap}(F:FnOk X.prog X.w X.K X.mg X.base dI k f fd ps sp)(y:Room k X.A)(hb:Binds X.K fd ps [])
  (I:Inv X pins σ H s) (C:CapAt X σ s.heap js cp) (hfn:∀e∈cp,X.fn e.n=true) (r:Vals vs us)
  (h:sp vs (bQ (cellsOf cp) H) (λv H'=>(∀b o,(cellsOf cp).lookup b=Vo o->H' b=Vo (cZ b o))/\Q v (aY (cellsOf cp) H')) E0):Vf (Vg X.prog X.w) X.A (call (.ref f) us) (EP X pins σ Q) X.xe s:=by
 have l:∀b o,(cellsOf cp).lookup b=Vo o->s.heap.get? b=Vo o:=λb o e=>by obtain⟨x,c,rfl,rfl⟩:=gC e;exact(C.mem c).2.1
 have p:∀b o,(cellsOf cp).lookup b=Vo o->H b=Vp:=λb o e=>by obtain⟨x,c,rfl,rfl⟩:=gC e;exact I.freeC _ _ (C.mem c).1
 have hab:∀b o,(cellsOf cp).lookup b=Vo o->X.s₀.heap.objs.size<=b:=λb o e=>by obtain⟨x,c,rfl,rfl⟩:=gC e;exact I.ok.cab _ _ (hfn x c) (C.mem c).1
 have a:=I.env0;have B:Env0 X.prog X.w X.K X.mg X.base X.A X.stack s (bQ (cellsOf cp) H):=by
  refine⟨a.frames,a.mod,λb o e=>⟨(a.bs b o e).1,?_⟩,a.bsz,a.funs,λb d=>?_,uT a.hok l p,a.bare⟩
  ·cases q:(cellsOf cp).lookup b with
   | none=>rw[cV q];exact(a.bs b o e).2
   | some o'=>exact absurd (FX (Fq (I.ok.bs b o e).1) (hab b o' q)) (Nat.lt_irrefl _)
  ·cases q:(cellsOf cp).lookup b with
   | none=>rw[cV q];exact a.frf b d
   | some o'=>
    exfalso;rcases FH.mp (I.stkSub b d)with z|z
    ·obtain⟨m,⟨E,es,ep,ho,hd,_⟩,_⟩:=I.loc;obtain⟨x,c,rfl,rfl⟩:=gC q;obtain⟨_,g,u,G,_⟩:=C.mem c;rw[←z,g]at ho;cases ho;rw[G]at hd;cases hd
    ·obtain⟨_,E,ho,_⟩:=I.ok.funs.mem z;exact absurd (FX (Fq ho) (hab b o' q)) (Nat.lt_irrefl _)
 have J:us.length=ps.length:=by rw[←r.length];exact F.len _ _ _ _ h
 refine wpAny_call (codeAny_mono (F.run X.A X.stack s (bQ (cellsOf cp) H) ⟨us,[]⟩ us vs _ E0 y B (by have:=hb s us I.kIn (by simpa using J);rw[List.append_nil]at this;exact this) r h) λr s' i=>?_);cases r with
 | error e=>exact False.elim i
 | ok L=>
  cases L with
  | ret u=>
   obtain⟨v,H',os,bare,un,hok,M,j,q⟩:=i;exact I.after ⟨v,aY (cellsOf cp) H',os,bare,Ea un hok l p j,vX hok j,M,q⟩
  | next=>exact False.elim i
  | brk=>exact False.elim i
  | cont=>exact False.elim i
def jy(sp:Sp)(js:List Nat)(cells:List (Vn×Vb))(N:List Vn)(ta:TA):TE:=λσ H Q=>ta σ H λvs H1=>(∀j∈js,∃v,σ[j]?=Vo (Vo v)) ∧
 ∀cp:List Cap,cp.length=js.length->(∀(i j:Nat) (e:Cap),js[i]?=Vo j->cp[i]?=Vo e->N[j]?=Vo e.n/\cells.lookup e.n=Vo e.c/\σ[j]?=Vo (Vo e.v)/\H1 e.c=Vp/\∃u,e.o.data=.cell (Vo u)/\RelV e.v u) →
  sp vs (bQ (cellsOf cp) H1) (λv H'=>(∀b o,(cellsOf cp).lookup b=Vo o->H' b=Vo (cZ b o))/\Q v (aY (cellsOf cp) H')) E0
def pL{x:Vn}{k j:Nat}{ps:List Vn}{sp:Sp}{e:Vk}{es:List Vk}{t:TA}{p pos:Pos}(js:List Nat)(C:Cal X.prog X.w X.K X.mg X.base x j ps sp)(l:Room k X.A)(ha:PA X (e::es) t)(c:j<=k:=by decide)(m:Gl X x:=by rfl)(d:(x == ("__debug__":Vn))=false:=by decide)
  (n:la X.env.scope X.N js=true:=by rfl) (hfn:∀y,X.fn y=true:=by intro _;rfl)
  (o:starEach (e::es) X.env=(false,eval e X.env)::starEach es X.env:=by rfl) (g:(backTo pos (starEach es X.env)).any (·.1)=false:=by rfl) :
  PE X (.Call (.Name x p) (e::es) [] pos) (jy sp js X.env.cells X.N t):=by
 obtain⟨f,fd,u,v,hb,F⟩:=C.ex;intro pins s σ H Q I h;refine wpAny_Call_Name_kw (jE I m u ?_ d);refine PySem.W.callWith_K (h₀:=X.base) I.ok.mod.kin v (aD (ha pos pins s σ H _ I h) λus s1 ⟨vs,H1,b,r,z,q⟩=>⟨b.kIn,?_⟩) o g;obtain⟨cp,a⟩:=b.capAt n z;refine zr F (l.mono c) hb b a (λe _=>hfn _) r (q cp a.len λi j e h1 h2=>?_);obtain⟨a1,a2,a3,_,a5⟩:=a.at_ i j e h1 h2;exact⟨a1,a2,a3,b.freeC _ _ a2,a5⟩
end
def eP(f c:Vb)(q:Vn)(params:Arguments)(body:Vk)(scope:Scope)(cl:List (Vn×Vb)):HO:=.ext λh=>∃pm a,h.get? f=Vo (PySem.W.kla_obj "<lambda>" q params body scope cl pm c a)
def yi{P:Vd}{w:Ve}{H:Hp}{h:Vh}{f c:Vb}{q:Vn}{params:Arguments}{body:Vk}{scope:Scope}{cl:List (Vn×Vb)}{pm d:Va}(r:h.get? f=Vo (PySem.W.kla_obj "<lambda>" q params body scope cl pm c d)):bE P w H h f (eP f c q params body scope cl):=
 ⟨⟨pm,d,r⟩,⟨_,r⟩,λh1 h2 ⟨a,b,g⟩ k=>⟨a,b,k _ g⟩⟩
def jH(sc:Scope):Bool:=sc.names.all λp=>sc.names.lookup p.1 == Vo p.2
def ng(sc out:Scope):Bool:=sc.names.all λp=>p.2 != .free || out.names.lookup p.1 == Vo .cell || out.names.lookup p.1 == Vo .free
def tL{sc:Scope}(h:jH sc=true){p:Vn×NameKind}(a:p∈sc.names):sc.names.lookup p.1=Vo p.2:=by simpa using F0.mp h p a
def uv{sc out:Scope}(h:ng sc out=true){p:Vn×NameKind}(a:p∈sc.names)(b:p.2=.free):out.names.lookup p.1=Vo .cell\/out.names.lookup p.1=Vo .free:=by have:=F0.mp h p a;simp[b]at this;exact this
structure ClOk(sc:Scope)(cells cl:List (Vn×Vb)):Prop where
 one:jH sc=true
 fr:∀x c,cl.lookup x=Vo c->sc.names.lookup x=Vo .free/\cells.lookup x=Vo c
 has:∀x,sc.names.lookup x=Vo .free->∃c,cl.lookup x=Vo c
 inj:∀x y c,cl.lookup x=Vo c->cl.lookup y=Vo c->x=y
def BC{X:Cx}(ok:X.Ok){sc:Scope}(hsc:jH sc=true)(ho:ng sc X.env.scope=true):ClOk sc X.env.cells (cX sc.names X.env.cells):=by
 have fr:∀x c,(cX sc.names X.env.cells).lookup x=Vo c->sc.names.lookup x=Vo .free/\X.env.cells.lookup x=Vo c:=λx c h=>by
  rcases kX X.env.cells sc.names [] x c h with⟨h1,h2⟩|h1
  ·obtain⟨d,hd⟩:=ok.has x (uv ho h1 rfl);refine⟨tL hsc h1,?_⟩;rw[hd]at h2 ⊢;rw[h2];rfl
  ·simp at h1
 exact⟨hsc,fr,λx h=>vK (i8 h),λx y c h1 h2=>ok.inj x y c (fr x c h1).2 (fr y c h2).2⟩
section
variable {X:Cx} {pins:List (Vb×Obj)} {σ:St} {H:Hp} {s:Vc}
def Bg{cl:List (Vn×Vb)}{P c f:Vb}{ps more:Array Va}{q:Vn}{params:Arguments}{body:Vk}{scope:Scope}{pm j:Va}{h':Vh}{tk:Nat}(I:Inv X pins σ H s)(h:H P=Vo (.tbl ps))(b:Heap.ExtBut P s.heap h')(k:s.heap.objs.size<=c)(i:c<f)(r:h'.get? P=Vo { cls:=.none,data:=.fields (ps++more) })
  (x:h'.CodeRec (.ref c) q) (A:h'.get? f=Vo (PySem.W.kla_obj "<lambda>" q params body scope cl pm c j)) :
  Inv X pins σ (upd (upd (upd H P (.tbl (ps++more))) c (fV c q)) f (eP f c q params body scope cl)) { s with heap:=h',toks:=tk }:=by
 have w:@LE.le Nat _ s.heap.objs.size f:=FY k (Nat.le_of_lt i);have l:H c=Vp:=I.hok.fresh k;have m:H f=Vp:=I.hok.fresh w;have E:f≠c:=Nat.ne_of_gt i;have B:c≠P:=λz=>by rw[z,h]at l;cases l
 have C:f≠P:=λz=>by rw[z,h]at m;cases m
 have old:∀b o,H b=Vo o->b≠P->upd (upd (upd H P (.tbl (ps++more))) c (fV c q)) f (eP f c q params body scope cl) b=Vo o:=λb o e n=>by rw[aG (cQ e m),aG (cQ e l),aG n];exact e
 have p:∀b,H b=Vp->b≠P:=λb e z=>by rw[z,h]at e;cases e
 refine I.un ⟨λa o e n _ _=>b a o (p a n) e,λa o e n _ _=>⟨o.slots,b a o (p a n) e⟩,λa o e n _=>?_,λa o e _=>?_,λa xs e=>old a _ e (λz=>by rw[z,h]at e;cases e),λa o u e=>old a _ e (λz=>by rw[z,h]at e;cases e),λa qs e=>?_⟩ λa u e=>?_
 ·have lt:@LT.lt Nat _ a s.heap.objs.size:=Fq e;rw[aG (FL (FX lt w)),aG (FL (FX lt k)),aG (p a n)];exact n
 ·by_cases z:a=P
  ·rw[z];exact⟨_,r⟩
  ·exact⟨o,b a o z e⟩
 ·by_cases z:a=P
  ·subst z;rw[h]at e;cases e;exact⟨more,by rw[aG (Ne.symm C),aG (Ne.symm B),aI]⟩
  ·exact⟨#[],by rw[old a _ e z];simp⟩
 ·by_cases z:a=f
  ·subst z;rw[aI]at e;cases e;exact yi A
  ·rw[aG z]at e;by_cases z2:a=c
   ·subst z2;rw[aI]at e;cases e;exact Eg x
   ·rw[aG z2]at e;by_cases z3:a=P
    ·subst z3;rw[aI]at e;cases e;exact r
    ·rw[aG z3]at e;refine(I.hok a u e).stay (λd v hd g=>b d v ?_ g) (λd hd=>old d _ hd (λy=>by rw[y,h]at hd;cases hd)) λd xs hd=>old d _ hd (λy=>by rw[y,h]at hd;cases hd);rcases hd with rfl|hd
     ·exact z3
     ·exact λy=>by rw[y,h]at hd;cases hd
end
def oF(P:Vb)(pos:Pos)(q:Vn)(params:Arguments)(body:Vk)(scope:Scope)(cells:List (Vn×Vb))(H:Hp)(Q:VK):Prop:=∀cl,ClOk scope cells cl →
 (H P=Vo (.tbl #[])/\∀f c,H c=Vp->H f=Vp->c≠P->f≠P->f≠c->Q (.ref f) (upd (upd (upd H P (.tbl #[rawInt pos.line,rawInt pos.col,.ref c])) c (fV c q)) f (eP f c q params body scope cl))) ∨
 ∃c,H P=Vo (.tbl #[rawInt pos.line,rawInt pos.col,.ref c])/\H c=Vo (fV c q)/\∀f,H f=Vp->Q (.ref f) (upd H f (eP f c q params body scope cl))
def wI(P:Vb)(pos:Pos)(q:Vn)(params:Arguments)(body:Vk)(scope:Scope)(cells:List (Vn×Vb)):TE:=λ_ H Q=>oF P pos q params body scope cells H Q
def mB{X:Cx}{params:Arguments}{body:Vk}{scope:Scope}{pos:Pos}{c P:Vb}(a:X.env.code=.ref c)(g:X.env.globals=Vj)(C:PySem.W.CodeHd X.base c P)(B:X.base.BuiltinsAt X.mg P)(m:Vj≠P)(hsc:jH scope=true)(d:ng scope X.env.scope=true)
  (u:params.defaults=[]) (v:params.kw_defaults=[]):PE X (.Lambda params body scope pos) (wI P pos (X.env.qual ++ "<lambda>") params body scope X.env.cells):=by
 intro pins s σ H Q I h;rw[arm_eval_Lambda,PySem.defaultsOf_eq,v,u];refine Fl (Fm (Fl (wpAny_holding (Fm ?_))));have hcl:closureFor scope X.env=pure (cX scope.names X.env.cells):=nR λp E j=>I.ok.has p.1 (uv d E j);have h:=h _ (BC I.ok hsc d);have y:PySem.W.CodeHd s.heap c P:=C.keeps λb o e=>(I.bs b o e).1;have z:s.heap.Ns Vj X.mg:=by obtain⟨o,es,ep,e,r⟩:=I.ok.mod.glob;exact⟨o,es,ep,(I.bs _ _ e).1,r⟩
 have hb:s.heap.BuiltinsAt X.mg P:=by obtain⟨bm,o,a1,a2,a3,a4,a5,a6⟩:=B;exact⟨bm,o,a1,a2,a3,a4,(I.bs _ _ a5).1,a6⟩
 rcases h with⟨k,q⟩|⟨c',k,F,q⟩
 ·have l:s.heap.get? P=Vo (PySem.W.tabObj #[]):=I.hok P _ k;refine PySem.W.kla_makeFunction hcl g z a y l trivial rfl m hb λc' i h' tk w hge hlt hrec x=>?_;have G:H c'=Vp:=I.hok.fresh hge;have j:@LE.le Nat _ s.heap.objs.size h'.objs.size:=FY hge (Nat.le_of_lt hlt);have L:H h'.objs.size=Vp:=I.hok.fresh j;have A:@LT.lt Nat _ P s.heap.objs.size:=Fq l;have J:=Bg (cl:=cX scope.names X.env.cells) (tk:=tk) (f:=h'.objs.size) (h':=h'.push (PySem.W.kla_obj "<lambda>" (X.env.qual ++ "<lambda>") params body scope (cX scope.names X.env.cells) ((X.mg "__name__").getD .none) c' i)) (more:=#[rawInt pos.line,rawInt pos.col,.ref c']) I k (λb o n e=>Fo _ (w b o n e)) hge hlt (Fo _ x) (hrec.push _) (Fp _ rfl);rw[Array.empty_append]at J;exact⟨.ref h'.objs.size,_,J,rfl,q _ c' G L (Nat.ne_of_gt (FX A hge)) (Nat.ne_of_gt (FX A j)) (Nat.ne_of_gt hlt)⟩
 ·have l:s.heap.get? P=Vo (PySem.W.tabObj #[rawInt pos.line,rawInt pos.col,.ref c']):=I.hok P _ k;refine PySem.W.kla_makeFunctionHit (cv:=.ref c') hcl g z a y l trivial (by simp[codeAmong,rawInt]) hb λi h' tk w hge=>?_;exact⟨.ref h'.objs.size,_,I.laid (t':=tk) (o:=eP h'.objs.size c' (X.env.qual ++ "<lambda>") params body scope (cX scope.names X.env.cells)) (λb o e=>Fo _ (w b o e)) hge (yi (Fp _ rfl)),rfl,q _ (I.hok.fresh hge)⟩
def o7{cells:List (Vn×Vb)}{K:Fn}{x q:Vn}{params:Arguments}{body:Vk}{scope:Scope}{H:Hp}{Q:VK}{c T:Vb}{pos:Pos}(r:dW K x q pos.line pos.col H)(e:PySem.W.tabIn K x=Vo (c,T))
  (h:∀f c' cl H',ClOk scope cells cl->Et H H'->dW K x q pos.line pos.col H'->(∀y k l2 k2,(∀c2 a,PySem.W.tabIn K y=Vo (c2,a)->a≠T)->dW K y k l2 k2 H->dW K y k l2 k2 H')->H' f=Vo (eP f c' q params body scope cl)->H' c'=Vo (fV c' q)->Q (.ref f) H'):oF T pos q params body scope cells H Q:=by
 intro cl hcl;rcases r c T e with i|⟨c',i,j⟩
 ·refine .inl ⟨i,λf c' v l w A s=>?_⟩;have old:∀b o,H b=Vo o->b≠T->upd (upd (upd H T (.tbl #[rawInt pos.line,rawInt pos.col,.ref c'])) c' (fV c' q)) f (eP f c' q params body scope cl) b=Vo o:=λb o hb n=>by rw[aG (cQ hb l),aG (cQ hb v),aG n];exact hb
  refine h f c' cl _ hcl (λb o hb n=>old b o hb λz=>by rw[z,i]at hb;cases hb;exact n _ rfl) (λc2 a d=>.inr ⟨c',?_,?_⟩) (λy k l2 k2 u m c2 a d=>?_) aI ?_
  ·rw[e]at d;cases d;rw[aG (Ne.symm A),aG (Ne.symm w),aI]
  ·rw[aG (Ne.symm s),aI]
  ·rcases m c2 a d with g|⟨c3,B,p⟩
   ·exact .inl (old _ _ g (u c2 a d))
   ·exact .inr ⟨c3,old _ _ B (u c2 a d),old _ _ p λz=>by rw[z,i]at p;cases p⟩
  ·rw[aG (Ne.symm s),aI]
 ·refine .inr ⟨c',i,j,λf l=>?_⟩;have ex:Ext H (upd H f (eP f c' q params body scope cl)):=aV l;exact h f c' cl _ hcl ex.et (dW.ext ex r) (λy k l2 k2 _ m=>m.ext ex) aI (ex _ _ j)
def pq{P:Vb}{pos:Pos}{q:Vn}{params:Arguments}{body:Vk}{scope:Scope}{cells:List (Vn×Vb)}{σ:St}{H:Hp}{Q:VK}(h:oF P pos q params body scope cells H Q):wI P pos q params body scope cells σ H Q:=h
theorem jP{x:Vn}{c:Vb}:∀(names:List (Vn×NameKind)) (n:Nat) (a acc:List (Vn×Vb)),(cellsFrom n names (a++acc)).lookup x=Vo c->acc.lookup x=Vo c\/(cellsFrom n names a).lookup x=Vo c
 | [],_,a,acc,h=>by
  unfold cellsFrom at h ⊢;rw[List.lookup_append]at h;cases q:a.lookup x with
  | none=>rw[q]at h;exact .inl h
  | some d=>rw[q]at h;exact .inr h
 | (y,k)::r,n,a,acc,h=>by
  unfold cellsFrom at h ⊢;by_cases b:(k == NameKind.cell)=true
  ·rw[Gr b]at h ⊢;exact jP r (n+1) ((y,n)::a) acc h
  ·rw[Gq b]at h ⊢;exact jP r n a acc h
structure InL(s₀:Vc)(L:Vb)(m:Vn->Option Va)(own:List (Vn×Vb))(cm:Vn->Option Va)(s:Vc):Prop where
 same:∃h' tk,s={ s₀ with heap:=h',toks:=tk }
 ns:s.heap.Ns L m
 keep:∀b o,s₀.heap.get? b=Vo o->s.heap.get? b=Vo o
 fresh:s₀.heap.objs.size<=L
 cell:∀n c,own.lookup n=Vo c->s.heap.IsCell c (cm n)
 apart:own.Pairwise λx y=>x.2≠y.2
 above:∀n c,(n,c)∈own->L<c
section
variable {M:Model} {A:Vi} {E:Va->Vc->Prop} {s₀ s:Vc} {m cm:Vn->Option Va} {env:Env} {own:List (Vn×Vb)}
def InL.st{n:Vn}{v:Va}{Q:Unit->Vc->Prop}(x:InL s₀ env.locals m own cm s)(j:env.scope.kind=.function)(l:env.kindOf n=Vo .local)
  (h:∀s',InL s₀ env.locals (λy=>if y=n then Vo v else m y) own cm s'->Q () s'):Vf M A (storeName env n v) Q E s:=by
 refine wpAny_storeName_local l x.ns (λh' d a=>h _ ⟨?_,d,λb o e=>?_,x.fresh,λk c g=>?_,x.apart,x.above⟩) (by rw[j];rfl)
 ·obtain⟨i,tk,rfl⟩:=x.same;exact⟨h',_,rfl⟩
 ·exact a.extBut b o (FL (FX (Fq e) x.fresh)) (x.keep b o e)
 ·exact(x.cell k c g).sameBut a (Nat.ne_of_gt (x.above k c (PySem.mem_of_lookup g)))
def InL.stC{n:Vn}{c:Vb}{v:Va}{Q:Unit->Vc->Prop}(x:InL s₀ env.locals m own cm s)(p:env.scope.kind=.function)(q:env.kindOf n=Vo .cell)
  (r:env.cells.lookup n=Vo c) (ho:own.lookup n=Vo c)
  (h:∀s',InL s₀ env.locals m own (λy=>if y=n then Vo v else cm y) s'->Q () s'):Vf M A (storeName env n v) Q E s:=by
 have i:=x.above n c (PySem.mem_of_lookup ho);refine wpAny_storeName_cell p q r (x.cell n c ho) λh' j d=>h _ ⟨?_,x.ns.sameBut d (FL i),λb o e=>?_,x.fresh,λk c' a=>?_,x.apart,x.above⟩
 ·obtain⟨l,tk,rfl⟩:=x.same;exact⟨h',_,rfl⟩
 ·exact d.extBut b o (FL (Nat.lt_trans (FX (Fq e) x.fresh) i)) (x.keep b o e)
 ·by_cases g:k=n
  ·subst g;rw[ho]at a;cases a;simpa using j
  ·rw[Gq g];exact(x.cell k c' a).sameBut d λe=>g (name_of_addr x.apart (PySem.mem_of_lookup a) (e ▸ PySem.mem_of_lookup ho))
theorem InL.binds(f:Vn×Va->PUnit->Sem (ForInStep PUnit))(i:∀n v u,f (n,v) u=(do storeName env n v;pure (.yield ⟨⟩)))(g:env.scope.kind=.function):
  ∀(binds:List (Vn×Va)) (m cm:Vn->Option Va) (s:Vc) (Q:PUnit->Vc->Prop),InL s₀ env.locals m own cm s →
   (∀x∈binds,env.kindOf x.1=Vo .local\/(env.kindOf x.1=Vo .cell/\∃c,env.cells.lookup x.1=Vo c/\own.lookup x.1=Vo c)) →
   (∀s',InL s₀ env.locals (bindL env.kindOf binds m) own (bindC env.kindOf binds cm) s'->Q ⟨⟩ s')->Vf M A (forIn binds ⟨⟩ f) Q E s
 | [],m,cm,s,Q,x,_,h=>by rw[List.forIn_nil];exact Fm (h s x)
 | (n,v)::r,m,cm,s,Q,x,hkind,h=>by
  rw[List.forIn_cons,i];have k:∀y∈r,env.kindOf y.1=Vo .local\/(env.kindOf y.1=Vo .cell/\∃c,env.cells.lookup y.1=Vo c/\own.lookup y.1=Vo c):=λy l=>hkind y (Fv _ l);rcases hkind (n,v) Fy with d|⟨d,c,o,ho⟩
  ·refine Fl (Fl (InL.st x g d λs' j=>Fm (InL.binds f i g r _ _ s' Q j k λa b=>h a ?_)));unfold bindL bindC;rw[Gr d,Gr d];exact b
  ·have e:¬env.kindOf n=Vo .local:=by rw[d];decide
   refine Fl (Fl (InL.stC x g d o ho λs' j=>Fm (InL.binds f i g r _ _ s' Q j k λa b=>h a ?_)));unfold bindL bindC;rw[Gq e,Gq e];exact b
end
def fj(q:Vn)(scope:Scope)(L f:Vb)(cd:Va)(cl:List (Vn×Vb)):Env:=
 { scope:=scope,locals:=L,globals:=Vj,cells:=cellsFrom (L+1) scope.names cl,qual:=q ++ ".<locals>.",func:=Vo f,code:=cd,frame:=Vo L,builtins:=builtinsNs }
section
variable {M:Model} {A:Vi} {E:Va->Vc->Prop} {s:Vc}
def Cc {scope : Scope} {cl : List (Vn × Vb)} {binds : List (Vn × Va)} {q : Vn} {f : Vb} {cd : Va} {Q : Env → Vc → Prop} (i : scope.kind = .function) (hsc : jH scope = true) (hcl : ∀ x c, cl.lookup x = Vo c → scope.names.lookup x = Vo .free)
    (hkind : ∀ x ∈ binds, scope.names.lookup x.1 = Vo .local ∨ scope.names.lookup x.1 = Vo .cell)
    (j : ∀ s', InL s s.heap.objs.size (bindL (fj q scope s.heap.objs.size f cd cl).kindOf binds λ_ => Vp) (cellsFrom (s.heap.objs.size + 1) scope.names []) (bindC (fj q scope s.heap.objs.size f cd cl).kindOf binds λ_ => Vp) s' → Q (fj q scope s.heap.objs.size f cd cl) s') :
    Vf M A (newFunctionEnv scope Vj cl binds (q ++ ".<locals>.") (Vo f) cd Vp builtinsNs) Q E s := by
  simp only [newFunctionEnv, Option.isSome_none, Ge, if_false];refine Fl (wpAny_alloc ?_);refine Fl (wpAny_layCells _ (λname kind cells => by cases d : kind == NameKind.cell <;> simp [d]) _ _ _ _ ?_);have ok := cellsFrom_ok scope.names (s.heap.push { cls := .type "frame", data := .dict #[] }) (s.heap.objs.size + 1) [] ⟨λ_ _ g => (nomatch g), List.Pairwise.nil⟩ (by rw [Heap.size_push]; exact FN _);rw [Heap.size_push] at ok;rw [show ({ s with heap := s.heap.push { cls := .type "frame", data := .dict #[] } } : Vc).heap.objs.size = s.heap.objs.size + 1 from Heap.size_push ..];refine Fl (InL.binds (s₀ := s) (env := fj q scope s.heap.objs.size f cd cl) (own := cellsFrom (s.heap.objs.size + 1) scope.names [])
    _ (λ_ _ _ => rfl) i binds (λ_ => Vp) (λ_ => Vp) _ _
    ⟨⟨_, _, rfl⟩, (Heap.Ns.new s.heap (.type "frame")).keeps (pushCells_keeps _ _), λb o e => pushCells_keeps _ _ b o (Fo _ e), FN _,
      λn c a => (ok.empty n c (PySem.mem_of_lookup a)).1, ok.apart, λn c g => (ok.empty n c g).2⟩
    (λx k => ?_) λs' x => Fm (j s' x))
  rcases hkind x k with h|h
  · exact .inl h
  · obtain ⟨c, a⟩ := Option.isSome_iff_exists.mp (PySem.W.cellsFrom_some scope.names (s.heap.objs.size + 1) cl (.inl h))
    rcases jP scope.names (s.heap.objs.size + 1) [] cl a with h2|h2
    · rw [hcl _ _ h2] at h; cases h
    · exact .inr ⟨h, c, a, h2⟩
end
def jV(P:Vd)(w:Ve)(K:Fn)(mg:Vn->Option Va)(base:Vh)(N:List Vn)(q:Vn)(scope:Scope)(f:Vb)(cd:Va)(cl:List (Vn×Vb))(A:Vi)(outer:List Env)(s:Vc)(H:Hp):Cx where
 prog:=P
 w:=w
 K:=K
 mg:=mg
 base:=base
 A:=A.deeper (fj q scope s.heap.objs.size f cd cl)
 N:=N
 s₀:=s
 H₀:=H
 env:=fj q scope s.heap.objs.size f cd cl
 outer:=outer
 stack:=fj q scope s.heap.objs.size f cd cl::outer
 ex:=[]
 calm:=true
 fn:=λx=>scope.names.lookup x == Vo .cell
 pn:=[]
 xe:=λ_ _=>False
structure Caps(H:Hp)(cl:List (Vn×Vb))(cp:List Cap):Prop where
 at_:∀e∈cp,cl.lookup e.n=Vo e.c/\H e.c=Vo (cZ e.c e.o)/\∃u,e.o.data=.cell (Vo u)/\RelV e.v u
 all:∀x c,cl.lookup x=Vo c->∃e∈cp,e.n=x/\e.c=c
def Caps.ext{H H':Hp}(e:Ext H H'){cl:List (Vn×Vb)}{cp:List Cap}(h:Caps H cl cp):Caps H' cl cp:=⟨λx a=>⟨(h.at_ x a).1,e _ _ (h.at_ x a).2.1,(h.at_ x a).2.2⟩,h.all⟩
def Caps.look{H:Hp}{cl:List (Vn×Vb)}{cp:List Cap}(h:Caps H cl cp):∀b o,(cellsOf cp).lookup b=Vo o->H b=Vo (cZ b o):=λb o e=>by obtain⟨x,a,rfl,rfl⟩:=gC e;exact(h.at_ x a).2.1
structure LamSc(ps:List Vn)(sc:Scope):Prop where
 kind:sc.kind=.function
 co:sc.isCoroutine=false
 gen:sc.isGenerator=false
 nd:ps.Nodup
 par:∀x∈ps,sc.names.lookup x=Vo .local\/sc.names.lookup x=Vo .cell
def DJ{P:Vd}{w:Ve}{K:Fn}{mg:Vn->Option Va}{base:Vh}{ps:List Vn}{q:Vn}{scope:Scope}{f:Vb}{cd:Va}{cl cells:List (Vn×Vb)}{cp:List Cap}{A:Vi}{outer:List Env}{s s1:Vc}{H:Hp}{us:List Va}{vs:List V}
  (S:LamSc ps scope) (C:ClOk scope cells cl) (d:Caps H cl cp) (hd:A.handled=Vp) (l:Env0 P w K mg base A outer s H) (O:vs.length=ps.length) (r:Vals vs us)
  (x:InL s s.heap.objs.size (bindL (fj q scope s.heap.objs.size f cd cl).kindOf (ps.zip us) λ_=>Vp) (cellsFrom (s.heap.objs.size+1) scope.names []) (bindC (fj q scope s.heap.objs.size f cd cl).kindOf (ps.zip us) λ_=>Vp) s1) :
  Inv (jV P w K mg base (ps++cp.map (·.n)) q scope f cd cl A outer s (aY (cellsOf cp) H)) [] (vs.map Vo++cp.map λe=>Vo e.v) (aY (cellsOf cp) H) s1:=by
 obtain⟨h1,tk,rfl⟩:=x.same;have L:=x.keep;have noA:∀b:Vb,b∉(jV P w K mg base (ps++cp.map (·.n)) q scope f cd cl A outer s (aY (cellsOf cp) H)).ex:=λb z=>absurd (show b∈([]:List Vb)from z) (by simp);have nn:∀b,H b=Vp->aY (cellsOf cp) H b=Vp:=λb hb=>by
  cases z:(cellsOf cp).lookup b with
  | none=>rw[cL z];exact hb
  | some o=>exact ik z
 have obj:∀e∈cp,s.heap.get? e.c=Vo e.o:=λe m=>(l.hok _ _ (d.at_ e m).2.1).1;have clt:∀y c,cl.lookup y=Vo c->@LT.lt Nat _ c s.heap.objs.size:=λy c h=>by obtain⟨e,m,_,rfl⟩:=d.all y c h;exact Fq (obj e m)
 have F:∀y c,cl.lookup y=Vo c->aY (cellsOf cp) H c=Vp:=λy c h=>by obtain⟨e,m,_,rfl⟩:=d.all y c h;obtain⟨o,ho⟩:=Ec m;exact ik ho
 have G:∀y,scope.names.lookup y=Vo .free->∃c,cl.lookup y=Vo c/\(cellsFrom (s.heap.objs.size+1) scope.names cl).lookup y=Vo c:=λy g=>by
  obtain⟨c,I⟩:=C.has y g;obtain⟨c',B⟩:=Option.isSome_iff_exists.mp (PySem.W.cellsFrom_some scope.names (s.heap.objs.size+1) cl (x:=y) (.inr (by rw[I];rfl)));rcases gU _ _ _ B with h|⟨_,h⟩
  ·rw[I]at h;cases h;exact⟨c,I,B⟩
  ·have:=tL C.one h;rw[g]at this;cases this
 refine⟨⟨l.mod,S.kind,rfl,rfl,FN _,λy z c h1 h2=>?_,λy g=>?_,λy c h I=>?_,λ_=>hd,Around.frames_deeper l.frames,.inr ⟨rfl,rfl⟩,λb z=>absurd z (noA b),λb o e=>⟨(l.bs b o e).1,nn b (l.bs b o e).2⟩,l.bsz,λb _ _=>noA b,λb z=>absurd z (noA b),l.funs,λb hb=>nn b (l.frf b hb)⟩,
  rfl,l.bare,Un.kept L,⟨_,x.ns,λi y v h1 h2 Y=>?_⟩,λy c h=>?_,nn _ (l.hok.fresh (FN _)),λy c h=>?_,λp J=>absurd (show p∈([]:List (Vb×Obj))from J) (by simp),(vX l.hok d.look).kept L,?_⟩
 ·exact kx scope.names _ _ (λx c e=>Nat.lt_succ_of_lt (clt x c e)) C.inj h1 h2
 ·have g:scope.names.lookup y=Vo .cell\/scope.names.lookup y=Vo .free:=g;rcases g with g|g
  ·exact Option.isSome_iff_exists.mp (PySem.W.cellsFrom_some scope.names _ _ (.inl g))
  ·obtain⟨c,_,h⟩:=G y g;exact⟨c,h⟩
 ·have g:scope.names.lookup y=Vo .cell:=by simpa[jV]using h
  have B:(cellsFrom (s.heap.objs.size+1) scope.names cl).lookup y=Vo c:=I;rcases gU _ _ _ B with h2|⟨h2,_⟩
  ·rw[(C.fr y c h2).1]at g;cases g
  ·exact Nat.le_of_succ_le h2
 ·by_cases hi:i<vs.length
  ·have ha:vs[i]?=Vo v:=by
    rw[FT (by simpa using hi),Fu]at h2;cases e:vs[i]? with
    | none=>rw[e]at h2;cases h2
    | some a=>rw[e]at h2;cases h2;rfl
   obtain⟨u,E,M⟩:=r.get ha;have J:ps[i]?=Vo y:=by have j:(ps++cp.map (·.n))[i]?=Vo y:=h1;rw[FT (by omega)]at j;exact j
   refine⟨u,M,?_⟩;rcases S.par y (FC J)with k|k
   ·exact .inl ⟨k,mJ S.nd J E k⟩
   ·obtain⟨c,e⟩:=Option.isSome_iff_exists.mp (PySem.W.cellsFrom_some scope.names (s.heap.objs.size+1) cl (.inl k));refine .inr ⟨.inl k,c,e,?_⟩;rcases jP scope.names (s.heap.objs.size+1) [] cl e with N|N
    ·rw[(C.fr y c N).1]at k;cases k
    ·have Q:=x.cell y c N;rw[rL S.nd J E (by show scope.names.lookup y≠_;rw[k];decide)]at Q;exact Q
  ·have j:(ps++cp.map (·.n))[i]?=Vo y:=h1;rw[FR (by omega),Fu]at j;rw[FR (by simpa using Nat.le_of_not_lt hi),Fs,Fu]at h2;rw[O]at h2;cases m:cp[i-ps.length]? with
   | none=>rw[m]at h2;cases h2
   | some e=>
    rw[m]at j h2;cases j;cases h2;have R:=FC m;obtain⟨a1,a2,u,E,M⟩:=d.at_ e R;have T:=(C.fr _ _ a1).1;obtain⟨c,U,X⟩:=G e.n T;rw[a1]at U;cases U;exact⟨u,M,.inr ⟨.inr T,e.c,X,e.o,L _ _ (obj e R),E⟩⟩
 ·have h':(cellsFrom (s.heap.objs.size+1) scope.names cl).lookup y=Vo c:=h;rcases jP scope.names (s.heap.objs.size+1) [] cl h' with h2|h2
  ·obtain⟨e,m,_,rfl⟩:=d.all y c h2;obtain⟨_,_,u,E,_⟩:=d.at_ e m;exact⟨Vo u,e.o,L _ _ (obj e m),E⟩
  ·exact⟨_,x.cell y c h2⟩
 ·have h':(cellsFrom (s.heap.objs.size+1) scope.names cl).lookup y=Vo c:=h;rcases gU _ _ _ h' with h2|⟨h2,_⟩
  ·exact F y c h2
  ·exact nn c (l.hok.fresh (Nat.le_of_succ_le h2))
 ·show(vs.map Vo++cp.map λe=>Vo e.v).length=(ps++cp.map (·.n)).length;simp[O]
def gY(f c:Vb)(q:Vn)(params:Arguments)(body:Vk)(scope:Scope)(cl:List (Vn×Vb))(cp:List Cap)(H:Hp):Prop:=H f=Vo (eP f c q params body scope cl)/\H c=Vo (fV c q)/\Caps H cl cp
theorem gY.ext{H H':Hp}(e:Ext H H'){f c:Vb}{q:Vn}{params:Arguments}{body:Vk}{scope:Scope}{cl:List (Vn×Vb)}{cp:List Cap}(h:gY f c q params body scope cl cp H):gY f c q params body scope cl cp H':=⟨e _ _ h.1,e _ _ h.2.1,h.2.2.ext e⟩
def y9{P:Vd}{w:Ve}{K:Fn}{mg:Vn->Option Va}{base:Vh}{k:Nat}{f c:Vb}{q:Vn}{params:Arguments}{body:Vk}{scope:Scope}{cl cells:List (Vn×Vb)}{cp:List Cap}{ps:List Vn}{R:List V->Hp->VK->Prop}(I:Hp->Prop)
  (S:LamSc ps scope) (C:ClOk scope cells cl) (bind:∀(pm F d:Va) (us:List Va),us.length=ps.length->bindArgs (PySem.W.kla_fn "<lambda>" q params body scope cl pm F d) ⟨us,[]⟩=pure (ps.zip us))
  (G:∀vs H Q,R vs H Q->vs.length=ps.length)
  (g:∀(A:Vi) (outer:List Env) (s:Vc) (H:Hp) (vs:List V) (Q:VK),Room k (A.deeper (fj q scope s.heap.objs.size f (.ref c) cl))->gY f c q params body scope cl cp H->I H->R vs H Q →
   ∃te,PE (jV P w K mg base (ps++cp.map (·.n)) q scope f (.ref c) cl A outer s (aY (cellsOf cp) H)) body te/\te (vs.map Vo++cp.map λe=>Vo e.v) (aY (cellsOf cp) H) λv H'=>(∀b o,(cellsOf cp).lookup b=Vo o->H' b=Vp)->Q v (bQ (cellsOf cp) H')) :
  FunR P w K mg base (k+1) f (λH=>gY f c q params body scope cl cp H/\I H) R:=by
 refine⟨λH h hok j=>?_,λA outer s H us vs Q m i j r B=>?_⟩
 ·obtain⟨⟨pm,d,p⟩,_⟩:=hok f _ j.1.1;exact⟨_,_,_,_,p⟩
 ·obtain⟨⟨L,M,a⟩,N⟩:=id j;obtain⟨⟨pm,d,p⟩,_⟩:=i.hok f _ L;obtain⟨O,_⟩:=i.hok c _ M;have lim:s.heap.NoLimit:=i.mod.nolimit.keeps λb o e=>(i.bs b o e).1;have E:=G vs H Q B;refine PySem.W.kla_callFunE m.depth p rfl S.co S.gen rfl O ?_;rw[bind _ _ _ us (by rw[←r.length];exact E)];refine Fm ?_;refine Cc (q:=q) (f:=f) (cd:=.ref c) S.kind C.one (λx c h=>(C.fr x c h).1) (λz T=>?_) λs1 z=>?_
  ·exact S.par z.1 (List.of_mem_zip T).1
  refine⟨lim.keeps z.keep,PySem.W.kla_codeExpr ?_⟩;have J:=DJ S C a m.hd i E r z;obtain⟨te,U,y⟩:=g A outer s H vs Q (m.deeper _) j.1 N B;refine wpAny_mono (U [] s1 _ _ _ J y) (λu s' ⟨v,H',l,X,Y⟩=>?_) λe s' hs=>hs.elim;have obj:∀b o,(cellsOf cp).lookup b=Vo o->s.heap.get? b=Vo o:=λb o e=>(i.hok _ _ (a.look b o e)).1;have nfs:∀b o,(cellsOf cp).lookup b=Vo o->b∉dm outer:=λb o e hb=>by have:=i.frf b hb;rw[a.look b o e]at this;cases this
  have un:Un (dm outer) [] (aY (cellsOf cp) H) H' s.heap s'.heap:=l.base;exact⟨v,bQ (cellsOf cp) H',l.os,l.bare,EK un a.look,uT l.hok (λb o e=>un.keep b o (obj b o e) (ik e) (nfs b o e) (by simp)) (λb o e=>un.free b o (obj b o e) (ik e) (by simp)),X,Y λb o e=>un.free b o (obj b o e) (ik e) (by simp)⟩
section
variable {X:Cx}
def DB:V->List V->Hp->VK->Prop:=λx vs H Q=>∃(n:Nat) (p:Vb) (xs:List V) (a:V) (d:PyData) (ds:List PyData) (j:Nat),x=.ref p/\vs=[a]/\aW H n a d/\H p=Vo (.lst xs)/\Paired (aW H n) xs ds/\n<=50/\(∃e,ds[j]?=Vo e/\PyData.eqv e d=true)/\(∀m e,m<j->ds[m]?=Vo e->PyData.eqv e d=false)/\j<2 ^ 32/\Q (.int (j:Int)) H
def E1{k:Nat}{r:Vi}(E:Room k r)(hA:X.A=r:=by rfl):jm X "list.index" DB:=by
 subst hA;intro pins s σ H x xs v us Q I G J h;obtain⟨n,p,ys,a,d,ds,j,rfl,rfl,h1,h2,w,L,⟨e,z,M⟩,i,N,q⟩:=h;cases G;obtain⟨u,rfl,O⟩:=J.one;have P:aW H (n+1) (.ref p) (.list ds):=.inr ⟨p,ys,ds,rfl,.inr ⟨h2,rfl⟩,w⟩;obtain⟨as,R⟩:=aW.reads I n h1 O;obtain⟨bs,S⟩:=aW.reads I (n+1) P rfl;have l1:=aW.lay n h1;have l2:=jC (λ{x d}=>aW.lay (H:=H) n) w;have Y:=E.units;have c:min (PyData.depthAll ds) d.depth<=50:=FY (Nat.min_le_right _ _) (FY l1.2 L);obtain⟨_,b,nn,T,gt⟩:=I.hok p _ h2;cases S with
 | list B Z U C=>
  rw[gt]at B;cases B;cases U;have mp:=SeqAt.readsAll_map ds _ _ l2.1 C;have hlen:b.length=ds.length:=by rw[←mp,Fs]
  have W:j<ds.length:=(FA.mp z).1;have g:j<b.toArray.size:=by rw[Fx];omega
  have hat:∀m (c:m<b.toArray.size),ds[m]?=Vo (SeqAt.readOf s.heap b.toArray[m]):=λm c=>by
   have l:m<b.length:=by simpa using c
   rw[←mp,Fu];simp[l]
  refine call_meets PySem.F.slot_list_index ⟨_,gt,rfl⟩ PySem.F.entry_list_index (PySem.F.args_list_index_2 _ _) (SeqAt.list_indexAt p b.toArray nn Vp #[] u (λy=>PyData.eqv (SeqAt.readOf s.heap y) d) j g (by omega) ?_ ?_)
   ⟨gt,SeqAt.items_eqAt C R l2.1 l1.1 (by omega),?_⟩
  ·have:=hat j g;rw[z]at this;cases this;exact M
  ·intro m c o;exact i m _ o (hat m c)
  ·exact⟨.int _,H,I.tok _,⟨_,rfl⟩,q⟩
end
open AutoSeq1 (wpAny_loadPart')in
section
variable {K:Fn} {σ:St} {H:Hp} {Q:VK}
end
section
variable {X:Cx}
end
end L2
namespace L2.Og.Tb
open PySem
def nx(m i:Nat):Nat:=(i*5+1) % (m+1)
def it(m:Nat):Nat->Nat->Nat
 | 0,i=>i
 | n+1,i=>it m n (nx m i)
theorem kW(m:Nat):∀a b i,it m (a+b) i=it m b (it m a i)
 | 0,b,i=>by rw[Nat.zero_add];rfl
 | a+1,b,i=>by rw[Nat.succ_add];exact kW m a b (nx m i)
def oO(m:Nat):Nat->Nat->List Nat
 | 0,_=>[]
 | n+1,i=>i::oO m n (nx m i)
theorem xY{m:Nat}:∀{n i j:Nat},j∈oO m n i->∃k,k<n/\it m k i=j
 | 0,_,_,h=>by cases h
 | n+1,i,j,h=>by
  rcases FH.mp h with rfl|h
  ·exact⟨0,Nat.succ_pos _,rfl⟩
  ·obtain⟨k,a,e⟩:=xY h;exact⟨k+1,Nat.succ_lt_succ a,e⟩
def good(m:Nat):Bool:=(Gm (m+1)).all (λj=>(oO m (m+1) 0).contains j) && it m (m+1) 0 == 0
def Ai:good 7=true:=by decide +kernel
def Di:good 31=true:=by decide +kernel
def CW:good 127=true:=by decide +kernel
def zp:good 511=true:=by decide +kernel
def Mask(m:Nat):Prop:=m=7\/m=31\/m=127\/m=511
theorem Mask.good{m:Nat}(h:Mask m):good m=true:=by
 rcases h with rfl|rfl|rfl|rfl
 ·exact Ai
 ·exact Di
 ·exact CW
 ·exact zp
def wa{m:Nat}(h:Mask m){j:Nat}(a:j<=m):∃k,k<=m/\it m k 0=j:=by have:=h.good;unfold Tb.good at this;rw[F5,F0]at this;have h1:=this.1 j (List.mem_range.mpr (by omega));rw[List.contains_iff_mem]at h1;obtain⟨k,b,e⟩:=xY h1;exact⟨k,by omega,e⟩
def round0{m:Nat}(h:Mask m):it m (m+1) 0=0:=by have:=h.good;unfold Tb.good at this;rw[F5]at this;exact eq_of_beq this.2
def reach{m:Nat}(h:Mask m){i j:Nat}(hi:i<=m)(e:j<=m):∃k,k<=m/\it m k i=j:=by
 obtain⟨a,ha,c⟩:=wa h hi;obtain⟨b,hb,d⟩:=wa h e;rcases Gf b a with hlt|hge
 ·refine⟨m+1-a+b,by omega,?_⟩;rw[←c,←kW,show a+(m+1-a+b)=(m+1)+b by omega,kW,round0 h];exact d
 ·refine⟨b-a,by omega,?_⟩;rw[←c,←kW,show a+(b-a)=b by omega];exact d
def lp(m:Nat):Nat->Nat×Nat->Nat×Nat
 | 0,s=>s
 | n+1,s=>lp m n (SetTable.leap m s.1 s.2)
theorem mP(m:Nat):∀n s,lp m (n+1) s=SetTable.leap m (lp m n s).1 (lp m n s).2
 | 0,s=>rfl
 | n+1,s=>by show lp m (n+1) (SetTable.leap m s.1 s.2)=_;rw[mP m n];rfl
theorem um(m:Nat):∀n s,(lp m n s).2=s.2 / 32 ^ n
 | 0,s=>by simp[lp]
 | n+1,s=>by rw[mP m n s];show(lp m n s).2 / 32=_;rw[um m n s,Nat.div_div_eq_div_mul,Nat.pow_succ]
def ve(m:Nat):∀n s,s.1<=m->(lp m n s).1<=m
 | 0,s,h=>h
 | n+1,s,h=>by rw[mP m n s];show(_ % (m+1))<=m;have:=Nat.mod_lt ((lp m n s).1*5+1+(lp m n s).2 / 32) (show 0<m+1 by omega);omega
theorem vn(m:Nat):∀n i,(lp m n (i,0)).1=it m n i
 | 0,i=>rfl
 | n+1,i=>by show(lp m n (SetTable.leap m i 0)).1=it m n (nx m i);have:SetTable.leap m i 0=(nx m i,0):=rfl;rw[this];exact vn m n _
theorem vC(m:Nat):∀a b s,lp m (a+b) s=lp m b (lp m a s)
 | 0,b,s=>by rw[Nat.zero_add];rfl
 | a+1,b,s=>by rw[Nat.succ_add];exact vC m a b _
def tD{m:Nat}(h:Mask m){i p j:Nat}(hi:i<=m)(a:p<2 ^ 64)(b:j<=m):∃n,n<=m+13/\(lp m n (i,p)).1=j:=by
 have c:(lp m 13 (i,p)).2=0:=by rw[um];exact Nat.div_eq_of_lt (FX a (by decide))
 obtain⟨k,d,e⟩:=reach h (ve m 13 (i,p) hi) b;refine⟨13+k,by omega,?_⟩;rw[vC];have:lp m 13 (i,p)=((lp m 13 (i,p)).1,0):=by rw[←c]
 rw[this,vn];exact e
def vO(h:Int):SetTable.bits h<2 ^ 64:=by unfold SetTable.bits;have h1:=Int.emod_lt_of_pos h (show(0:Int)<2 ^ 64 by decide);have h2:=Int.emod_nonneg h (show(2:Int) ^ 64≠0 by decide);omega
def cI(t:SetTable):Nat->SetTable.Probe->SetTable.Probe
 | 0,p=>p
 | n+1,p=>cI t n (t.advance p)
theorem oW(t:SetTable):∀a b p,cI t (a+b) p=cI t b (cI t a p)
 | 0,b,p=>by rw[Nat.zero_add];rfl
 | a+1,b,p=>by rw[Nat.succ_add];exact oW t a b _
def at_(t:SetTable)(s:Nat×Nat):SetTable.Probe:={ j:=s.1,more:=SetTable.runEnd t.mask s.1-s.1,i:=s.1,perturb:=s.2,dummy:=Vp }
theorem sv(t:SetTable):∀(r:Nat) (p:SetTable.Probe),p.more=r->cI t (r+1) p={ p with j:=(SetTable.leap t.mask p.i p.perturb).1,more:=SetTable.runEnd t.mask (SetTable.leap t.mask p.i p.perturb).1-(SetTable.leap t.mask p.i p.perturb).1,i:=(SetTable.leap t.mask p.i p.perturb).1,perturb:=(SetTable.leap t.mask p.i p.perturb).2 }
 | 0,p,h=>by show t.advance p=_;unfold SetTable.advance;rw[Gq (by omega)]
 | r+1,p,h=>by
  show cI t (r+1) (t.advance p)=_;have e:t.advance p={ p with j:=p.j+1,more:=p.more-1 }:=by unfold SetTable.advance;rw[Gr (by omega)]
  rw[e,sv t r _ (by show p.more-1=r;omega)]
def Ao(t:SetTable)(s:Nat×Nat):∃k,k<=10/\cI t k (at_ t s)=at_ t (SetTable.leap t.mask s.1 s.2):=by
 refine⟨SetTable.runEnd t.mask s.1-s.1+1,?_,?_⟩
 ·unfold SetTable.runEnd;split<;>omega
 ·exact(sv t (SetTable.runEnd t.mask s.1-s.1) (at_ t s) rfl).trans rfl
theorem wR(t:SetTable):∀(n:Nat) (s:Nat×Nat),∃k,k<=10*n/\cI t k (at_ t s)=at_ t (lp t.mask n s)
 | 0,s=>⟨0,FN _,rfl⟩
 | n+1,s=>by obtain⟨k1,h1,a⟩:=Ao t s;obtain⟨k2,h2,b⟩:=wR t n (SetTable.leap t.mask s.1 s.2);refine⟨k1+k2,by omega,?_⟩;rw[oW,a,b];rfl
def AR(t:SetTable)(h:Int):t.probeStart h=at_ t (SetTable.bits h % (t.mask+1),SetTable.bits h):=rfl
def Cs{t:SetTable}(a:Mask t.mask){j:Nat}(b:j<=t.mask)(h:Int):∃K,K<10*SetTable.turns t.mask/\(cI t K (t.probeStart h)).j=j:=by
 have h1:SetTable.bits h % (t.mask+1)<=t.mask:=by have:=Nat.mod_lt (SetTable.bits h) (show 0<t.mask+1 by omega);omega
 obtain⟨n,d,e⟩:=tD a h1 (vO h) b;obtain⟨K,g,c⟩:=wR t n (SetTable.bits h % (t.mask+1),SetTable.bits h);refine⟨K,by unfold SetTable.turns;omega,?_⟩;rw[AR,c];exact e
def xq{t:SetTable}{j i:Nat}(h:t.slot j=.live i):t.place[i]?=Vo j:=by
 unfold SetTable.slot at h;dsimp only at h;split at h
 ·rename_i hq;cases h;exact eq_of_beq hq
 ·split at h<;>cases h
def uB(j:Nat):SetTable.has #[] j=false:=rfl
def vV{t:SetTable}(hd:t.dummies = #[])(j:Nat):t.slot j=.empty\/∃i,t.slot j=.live i:=by
 unfold SetTable.slot;dsimp only;split
 ·exact .inr ⟨_,rfl⟩
 ·rw[hd,uB];exact .inl rfl
theorem wm:∀(n:Nat) (l:List Nat),(∀j,j<n->j∈l)->n<=l.length
 | 0,l,_=>Nat.zero_le _
 | n+1,l,h=>by have a:=h n (Nat.lt_succ_self n);have:=wm n (l.erase n) λj b=>(List.mem_erase_of_ne (by omega)).mpr (h j (by omega));rw[List.length_erase_of_mem a]at this;have:0<l.length:=List.length_pos_of_mem a;omega
def An{t:SetTable}(hd:t.dummies = #[])(h:t.place.size<=t.mask):∃j,j<=t.mask/\t.slot j=.empty:=by
 rcases Classical.em (∃j,j<=t.mask/\t.slot j=.empty)with h1|h1
 ·exact h1
 ·exfalso;have:=wm (t.mask+1) t.place.toList λj a=>by
   rcases vV hd j with h2|⟨i,h2⟩
   ·exact absurd ⟨j,by omega,h2⟩ h1
   ·have:=xq h2;rw[←Array.getElem?_toList]at this;exact FC this
  rw[Fw]at this;omega
theorem n6(t:SetTable):∀n p,(cI t n p).dummy=p.dummy
 | 0,p=>rfl
 | n+1,p=>by show(cI t n (t.advance p)).dummy=_;rw[n6 t n];unfold SetTable.advance;split<;>rfl
def BJ{t:SetTable}(hd:t.dummies = #[])(hash:Nat->Int)(h:Int):∀(K fuel:Nat) (p:SetTable.Probe),K<fuel->p.dummy=Vp->t.slot (cI t K p).j=.empty →
  (∃j,SetTable.probe.go t hash h fuel p=Vo (.empty j Vp))\/∃k j i,k<K/\SetTable.probe.go t hash h fuel p=Vo (.candidate j i (cI t (k+1) p))/\t.slot j=.live i:=by
 intro K;induction K with
 | zero=>
  intro fuel p g a hs;obtain⟨f,rfl⟩:∃f,fuel=f+1:=⟨fuel-1,by omega⟩;refine .inl ⟨p.j,?_⟩;have b:t.slot p.j=.empty:=hs;unfold SetTable.probe.go;rw[b];dsimp only;rw[a]
 | succ K l=>
  intro fuel p g a hs;obtain⟨f,rfl⟩:∃f,fuel=f+1:=⟨fuel-1,by omega⟩;unfold SetTable.probe.go;rcases vV hd p.j with h1|⟨i,h1⟩
  ·rw[h1];dsimp only;rw[a];exact .inl ⟨p.j,rfl⟩
  ·rw[h1];dsimp only;by_cases d:(hash i == h)=true
   ·rw[Gr d];exact .inr ⟨0,p.j,i,Nat.succ_pos _,rfl,h1⟩
   ·rw[Gq d];have c:(t.advance p).dummy=Vp:=by have:=n6 t 1 p;rw[a]at this;exact this
    rcases l f (t.advance p) (by omega) c hs with⟨j,e⟩|⟨k,j,m,o,e,n⟩
    ·exact .inl ⟨j,e⟩
    ·exact .inr ⟨k+1,j,m,by omega,e,n⟩
theorem v7{α:Type}:∀{l:List (Option α)} {j:Nat} {k:α},l[j]?=Vo Vp->((l.set j (Vo k)).filterMap id).Perm (k::l.filterMap id)
 | [],j,k,h=>by cases h
 | x::l,0,k,h=>by
  have:x=Vp:=by simpa using h
  subst this;exact .refl _
 | x::l,j+1,k,h=>by
  have h':l[j]?=Vo Vp:=by simpa using h
  have a:=v7 (k:=k) h';cases x with
  | none=>exact a
  | some y=>exact(List.Perm.cons y a).trans (.swap _ _ _)
def BM{α:Type}(l:List (Option α)):(l.filterMap id).length+(l.filter (·.isNone)).length=l.length:=by
 induction l with
 | nil=>rfl
 | cons x l a=>
  cases x<;>simp at a ⊢<;>omega
def DZ{m:Nat}(o:Mask m)(owner:Array (Option Nat))(c:owner.size=m+1){j:Nat}(d:owner[j]?=Vo Vp):∀(fuel n i p:Nat),i<=m->n<fuel->(lp m n (i,p)).1=j →
  ∃a,SetTable.layClean.free m owner fuel i p=Vo a/\owner[a]?=Vo Vp:=by
 intro fuel;induction fuel with
 | zero=>intro n i p _ h;omega
 | succ fuel e=>
  intro n i p hi q b;unfold SetTable.layClean.free;split
  ·rename_i k hk;have h1:=List.find?_some hk;have h2:=List.mem_range.mp (List.mem_of_find?_eq_some hk);refine⟨i+k,rfl,?_⟩;have hb:i+k<owner.size:=by rw[c];unfold SetTable.runEnd at h2;split at h2<;>omega
   rw[Array.getElem?_eq_getElem hb];have:owner.getD (i+k) (Vo 0)=owner[i+k]:=by rw[Array.getD_eq_getD_getElem?,Array.getElem?_eq_getElem hb];rfl
   rw[this]at h1;congr 1;cases g:owner[i+k]with
   | none=>rfl
   | some y=>rw[g]at h1;cases h1
  ·rename_i hk;cases n with
   | zero=>
    exfalso;have l:i=j:=b;have:=List.find?_eq_none.mp hk 0 (List.mem_range.mpr (by unfold SetTable.runEnd;split<;>omega));rw[Nat.add_zero,l,Array.getD_eq_getD_getElem?,d]at this;simp at this
   | succ n=>
    have:=ve m 1 (i,p) hi;exact e n (SetTable.leap m i p).1 (SetTable.leap m i p).2 this (by omega) b
def jW(mask:Nat)(acc:Option (Array (Option Nat)×Nat))(h:Int):Option (Array (Option Nat)×Nat):=do
 let (owner,k) ←acc;let j ←SetTable.layClean.free mask owner (SetTable.turns mask) (SetTable.bits h % (mask+1)) (SetTable.bits h)
 pure (owner.setIfInBounds j (Vo k),k+1)
def zd{l:List (Option Nat)}(h:(l.filterMap id).length<l.length):∃j:Nat,l[j]?=Vo Vp:=by
 have:=BM l;have h1:0<(l.filter (·.isNone)).length:=by omega
 obtain⟨x,b⟩:=List.exists_mem_of_length_pos h1;obtain⟨a,c⟩:=List.mem_filter.mp b;have:x=Vp:=by cases x<;>simp_all
 subst this;obtain⟨j,d⟩:=Gg a;exact⟨j,d⟩
theorem tV{m:Nat}(c:Mask m):∀(hs:List Int) (owner:Array (Option Nat)) (k:Nat),owner.size=m+1->(owner.toList.filterMap id).Perm (Gm k)->k+hs.length<=m →
  ∃a,hs.foldl (jW m) (Vo (owner,k))=Vo (a,k+hs.length)/\a.size=m+1/\(a.toList.filterMap id).Perm (Gm (k+hs.length))
 | [],owner,k,h1,h2,i=>⟨owner,rfl,h1,h2⟩
 | h::hs,owner,k,h1,h2,i=>by
  rw[FV]at i ⊢;have hlt:(owner.toList.filterMap id).length<owner.toList.length:=by rw[h2.length_eq,List.length_range,Fw,h1];omega
  obtain⟨j,d⟩:=zd hlt;rw[Array.getElem?_toList]at d;have e:j<=m:=by have:=(Array.getElem?_eq_some_iff.mp d).1;omega
  have hi:SetTable.bits h % (m+1)<=m:=by have:=Nat.mod_lt (SetTable.bits h) (show 0<m+1 by omega);omega
  obtain⟨n,u,l⟩:=tD c hi (vO h) e;obtain⟨g,o,b⟩:=DZ c owner h1 d (SetTable.turns m) n _ _ hi (by unfold SetTable.turns;omega) l;have step:jW m (Vo (owner,k)) h=Vo (owner.setIfInBounds g (Vo k),k+1):=by unfold jW;simp[o]
  rw[List.foldl_cons,step];have p:((owner.setIfInBounds g (some k)).toList.filterMap id).Perm (Gm (k+1)):=by rw[Array.toList_setIfInBounds];rw[←Array.getElem?_toList]at b;refine(v7 b).trans ?_;rw[List.range_succ];exact(List.Perm.cons k h2).trans (List.perm_append_comm (l₁:=[k]) (l₂:=Gm k))
  obtain⟨o',q,r,s⟩:=tV c hs (owner.setIfInBounds g (Vo k)) (k+1) (by simpa using h1) p (by omega);exact⟨o',by rw[q];congr 2;omega,r,by rw[show k+(hs.length+1)=k+1+hs.length by omega];exact s⟩
def As(t:SetTable){hashes:Array Int}{wanted m:Nat}(g:Mask m)(h:SetTable.sizeAbove wanted-1=m)(l:hashes.size<=m):
  ∃t' order,t.relaid hashes wanted=Vo (t',order)/\t'.place.size=hashes.size/\t'.dummies = #[]/\t'.mask=m/\order.toList.Perm (Gm hashes.size):=by
 obtain⟨o',e,k,d⟩:=tV g hashes.toList (Array.replicate (m+1) none) 0 (by simp) (by simp) (by rw[Fw];omega);rw[Fw,Nat.zero_add]at e d;have b:SetTable.layClean m hashes=some o':=by show(hashes.foldl (jW m) (some (Array.replicate (m+1) none,0))).map (·.1)=some o';rw[←Array.foldl_toList,e];rfl
 have a:((Gm (m+1)).filterMap λj=>(o'.getD j Vp).map (j,·)).map (·.2)=o'.toList.filterMap id:=by
  rw[List.map_filterMap];have:o'.toList=(Gm (m+1)).map λj=>o'.getD j Vp:=by
   apply List.ext_getElem
   ·rw[Fw,Fs,List.length_range,k]
   ·intro i h1 h2;rw[Fw]at h1;simp[h1]
  rw[this,List.filterMap_map];congr 1;funext j;show((o'.getD j Vp).map (j,·)).map (·.2)=o'.getD j Vp;cases o'.getD j Vp<;>rfl
 have c:t.relaid hashes wanted=Vo (({ mask:=m,place:=(((Gm (m+1)).filterMap λj=>(o'.getD j Vp).map (j,·)).map (·.1)).toArray,dummies:=#[],finger:=t.finger,led:=t.led,moves:=t.movedTo m,plain:=t.plain }:SetTable),(((Gm (m+1)).filterMap λj=>(o'.getD j Vp).map (j,·)).map (·.2)).toArray):=by unfold SetTable.relaid;rw[h];unfold SetTable.laid;rw[b];rfl
 refine⟨_,_,c,?_,rfl,rfl,?_⟩
 ·show(((Gm (m+1)).filterMap λj=>(o'.getD j Vp).map (j,·)).map (·.1)).toArray.size=_;rw[Fx,Fs];have:=congrArg List.length a;rw[Fs,d.length_eq,List.length_range]at this;exact this
 ·show(((Gm (m+1)).filterMap λj=>(o'.getD j Vp).map (j,·)).map (·.2)).toArray.toList.Perm _;rw[List.toList_toArray,a];exact d
def nF{α:Type}(xs:Array α)(p:Nat)(x:α):(SetTable.insertAt xs p x).size=xs.size+1:=by unfold SetTable.insertAt;simp;omega
def Cd{α:Type}{xs:Array α}{p:Nat}{x e:α}(h:e∈(SetTable.insertAt xs p x).toList):e=x\/e∈xs.toList:=by
 unfold SetTable.insertAt at h;simp only[Array.toList_append,Array.toList_push,Array.toList_extract,FQ,FD]at h;rcases h with(h|h)|h
 ·exact .inr (List.mem_of_mem_take (by simpa using h))
 ·exact .inl h
 ·exact .inr (List.mem_of_mem_drop (List.mem_of_mem_take h))
def A8:SetTable.sizeAbove 20-1=31:=by decide +kernel
def E6:SetTable.sizeAbove 76-1=127:=by decide +kernel
def zX:SetTable.sizeAbove 308-1=511:=by decide +kernel
end L2.Og.Tb
namespace L2.Og
open PySem PySem.Spec PyProof.Rows
section
variable {P:Vd} {w:Ve} {A:Vi} {E:Va->Vc->Prop} {s:Vc} {K:Type} [DecidableEq K] {knd:KeyKind P w K}
def rP{ks:List K}{vs:List Va}(h:ItemsAre knd ks vs):∀v∈vs,∀b,v≠.ref b:=λv a b e=>by have:=h.byValue v a;subst e;cases this
def ED(n:Nat){v:Va}(h:∀b,v≠.ref b):ofAClassStatement n v=pure false:=by
 cases v with
 | ref b=>exact absurd rfl (h b)
 | _=>unfold ofAClassStatement;rfl
def xn{ks:List K}{b:Vb}{Q:Bool->Vc->Prop}(c:IsTupleKey knd s.heap ks b)(h:Q false s):Vf (Vg P w) A (ofAClassStatement 8 (.ref b)) Q E s:=by
 have d:=c.typeIs;obtain⟨o,items,n,ho,g,hd,hi⟩:=c;unfold ofAClassStatement;refine Fl (wpAny_typeOf d ?_);dsimp only;refine Fl (Fm ?_);simp only[Bool.not_true,Ge,if_false];refine Fl (wpAny_seqItems ho hd ?_);dsimp only;refine Fl ?_;rw[←Array.forIn_toList];refine wpAny_forIn_list _ (λrest r s'=>r.1=none/\s'=s/\∀v∈rest,∀b,v≠.ref b) _ ?_ ?_ _ _ ⟨rfl,rfl,rP hi⟩
 ·rintro v rest r s' ⟨a,rfl,hall⟩;rw[ED _ (hall v Fy)];refine Fl (Fm ?_);simp only[Ge,if_false];exact Fm ⟨rfl,rfl,λu e=>hall u (Fv _ e)⟩
 ·rintro⟨r1,i⟩ s' ⟨a,rfl,_⟩;simp only at a;subst a;exact Fm h
def DL{ks:List K}{b:Vb}{l:List Va}{Q:Bool->Vc->Prop}(g:IsTupleKey knd s.heap ks b)(i:∀y∈l,∃a c,y=.ref a/\IsTupleKey knd s.heap c a)(h:Q false s):Vf (Vg P w) A (searchCouldBeSeen (.ref b) l) Q E s:=by
 unfold searchCouldBeSeen;refine Fl ?_;refine wpAny_forIn_list _ (λrest r s'=>r.1=Vp/\s'=s/\∀y∈rest,∃a c,y=.ref a/\IsTupleKey knd s.heap c a) _ ?_ ?_ _ _ ⟨rfl,rfl,i⟩
 ·rintro v rest r s' ⟨e,rfl,hall⟩;obtain⟨a,c,rfl,d⟩:=hall v Fy;have next:∀y∈rest,∃a c,y=.ref a/\IsTupleKey knd s'.heap c a:=λy j=>hall y (Fv _ j)
  dsimp only;split
  ·exact Fm ⟨rfl,rfl,next⟩
  ·refine Fl (wpAny_eqIsQuiet_tuple g ?_);simp only[Bool.not_true,Ge,if_false];refine Fl (wpAny_eqIsQuiet_tuple d ?_);simp only[Bool.not_true,Ge,if_false];refine Fl (xn g ?_);simp only[Ge,if_false];refine Fl (xn d ?_);simp only[Ge,if_false];exact Fm ⟨rfl,rfl,next⟩
 ·rintro⟨r1,k⟩ s' ⟨e,rfl,_⟩;simp only at e;subst e;exact Fm h
def zL{a b:Vb}{k:List K}{h:Int}{o:Obj}{es:Array (Int×Va)}{ep:Nat}{t:SetTable}(L:A.units<cLine)(z:IsTupleKey knd s.heap k b)(ho:s.heap.get? a=Vo o)(hd:o.data=.set es ep t)(p:t.fits es.size=true)(O:Tb.Mask t.mask)(B:t.dummies = #[])
  (hall:∀e∈es.toList,∃l d,e.2=.ref l/\IsTupleKey knd s.heap d l/\d≠k) {Q:SetFound->Vc->Prop} (R:∀j,Q (.free j false) s) :
  ∀(K fuel:Nat) (c:Option SetTable.Probe),K<fuel->K<10*SetTable.turns t.mask->(c.getD (t.probeStart h)).dummy=Vp->t.slot (Tb.cI t K (c.getD (t.probeStart h))).j=.empty →
   Vf (Vg P w) A (setSearchFrom a (.ref b) h true fuel c) Q E s:=by
 intro K;induction K using Nat.strongRecOn with
 | ind K S=>
  intro fuel c T U q hs;obtain⟨f,rfl⟩:∃f,fuel=f+1:=⟨fuel-1,by omega⟩;unfold setSearchFrom;refine Fl (Gj ho hd p ?_);dsimp only;have W:t.gaveWay=false:=by unfold SetTable.gaveWay;rcases O with e|e|e|e<;>rw[e]<;>rfl
  have C:t.place.size=es.size:=by simp only[SetTable.fits,F5,beq_iff_eq]at p;exact p.1
  have u:t.sameMemory t.moves t.mask=Vo true:=by unfold SetTable.sameMemory;rw[Gr (beq_self_eq_true _)]
  rw[W];simp only[Ge,if_false];generalize n:t.probe _ h (c.getD (t.probeStart h))=r;obtain⟨g,n⟩:∃g,SetTable.probe.go t g h (10*SetTable.turns t.mask) (c.getD (t.probeStart h))=r:=⟨_,n⟩;rcases Tb.BJ B g h K _ _ U q hs with⟨j,e⟩|⟨d,j,i,X,e,F⟩
  ·rw[e]at n;subst n;exact Fm (R j)
  ·rw[e]at n;subst n;have G:=Tb.xq F;have hi:i<es.size:=by rw[←C];exact(Array.getElem?_eq_some_iff.mp G).1
   have hmem:es[i]∈es.toList:=by simp
   obtain⟨l,k2,H,v,hne⟩:=hall _ hmem;have m:es[i]?=some (es[i].1,.ref l):=by rw[Array.getElem?_eq_getElem hi,←H]
   have hst:∀y∈((es.filter λx=>x.1 == h).toList.map λx=>x.2),∃l d,y=Value.ref l/\IsTupleKey knd s.heap d l:=λy H=>by
    obtain⟨M,I,rfl⟩:=List.mem_map.mp H;have J:M∈es.toList:=by have:=Array.mem_toList_iff.mp I;exact Array.mem_toList_iff.mpr (Array.mem_filter.mp this).1
    obtain⟨b3,k3,h1,h2,_⟩:=hall M J;exact⟨b3,k3,h1,h2⟩
   have again:Vf (Vg P w) A (setSearchFrom a (.ref b) h true f (Vo (Tb.cI t (d+1) (c.getD (t.probeStart h))))) Q E s:=by
    refine S (K-(d+1)) (by omega) f _ (by omega) (by omega) ?_ ?_
    ·show(Tb.cI t (d+1) _).dummy=Vp;rw[Tb.n6];exact q
    ·show t.slot (Tb.cI t (K-(d+1)) (Tb.cI t (d+1) _)).j=_;rw[←Tb.oW,show d+1+(K-(d+1))=K by omega];exact hs
   have same:isSame (Value.ref l) (Value.ref l)=pure true:=by unfold isSame;simp
   dsimp only;cases N:t.led
   ·simp only[Bool.not_false,if_true];refine Fl (DL z hst ?_);simp only[Ge,if_false];rw[m];dsimp only;refine Fl (wpAny_holding (wpAny_eqBool_tuple L v z ?_));rw[Gn hne];refine Fl (Gj ho hd p ?_);dsimp only;simp only[Bool.and_false,Ge,if_false,u,if_true,F,m,same];exact Fl (Fm (Fl (Fm again)))
   ·simp only[Bool.not_true,Ge,if_false];rw[m];dsimp only;refine Fl (wpAny_holding (wpAny_eqBool_tuple L v z ?_));rw[Gn hne];refine Fl (Gj ho hd p ?_);dsimp only;simp only[Bool.and_false,Ge,if_false,u,if_true,F,m,same];exact Fl (Fm (Fl (Fm again)))
def fL(knd:KeyKind P w K)(h:Vh)(a:Vb)(ks:List (List K)):Prop:=
 ∃o es ep t,h.get? a=Vo o/\o.ExactSet/\o.data=.set es ep t/\t.place.size=es.size/\t.dummies = #[]/\Tb.Mask t.mask/\es.size*5<t.mask*3/\es.size=ks.length/\∀e∈es.toList,∃b k,e.2=.ref b/\k∈ks/\IsTupleKey knd h k b
def ma{h h':Vh}{a b:Vb}{k:List K}{o:Obj}{es:Array (Int×Va)}{ep:Nat}{t:SetTable}(e:IsTupleKey knd h k b)(ho:h.get? a=Vo o)(hd:o.data=.set es ep t)(hs:Heap.SameBut a h h'):IsTupleKey knd h' k b:=by
 obtain⟨o',items,n,c,g,d,hi⟩:=e;have hne:b≠a:=by rintro rfl;rw[ho]at c;cases c;rw[hd]at d;cases d
 exact⟨o',items,n,(hs.2 b hne).trans c,g,d,hi⟩
def A6(n:Nat){v:Va}(h:∀b,v≠.ref b):∃c,hashByValue n v=pure c:=by
 cases v with
 | ref b=>exact absurd rfl (h b)
 | _=>exact⟨_,by cases n<;>unfold hashByValue<;>rfl⟩
def Bj{ks:List K}{b:Vb}{Q:Bool->Vc->Prop}(e:IsTupleKey knd s.heap ks b)(h:∀c,Q c s):Vf (Vg P w) A (hashByValue 8 (.ref b)) Q E s:=by
 have g:=e.typeIs;obtain⟨o,items,n,ho,j,hd,hi⟩:=e;unfold hashByValue;refine Fl (wpAny_specialOf g F.slot_tuple_hash.lookup ?_);dsimp only;refine Fl (wpAny_seqItems ho hd ?_);dsimp only[Option.getD_some];refine Fl ?_;rw[←Array.forIn_toList];refine wpAny_forIn_list _ (λrest r s'=>(r.1=none\/∃c,r.1=some c)/\s'=s/\∀v∈rest,∀b,v≠.ref b) _ ?_ ?_ _ _ ⟨.inl rfl,rfl,rP hi⟩
 ·rintro v rest r s' ⟨a,rfl,hall⟩;obtain⟨c,d⟩:=A6 7 (hall v Fy);rw[d];refine Fl (Fm ?_);cases c
  ·show Vf _ _ (pure (ForInStep.done (Vo false,()))) _ _ _;exact Fm (Fm (h false))
  ·simp only[Bool.not_true,Ge,if_false];exact Fm ⟨.inl rfl,rfl,λu i=>hall u (Fv _ i)⟩
 ·rintro⟨r1,k⟩ s' ⟨a,rfl,_⟩;simp only at a;rcases a with rfl|⟨c,rfl⟩
  ·exact Fm (h true)
  ·exact Fm (h c)
def DQ{α:Type}{es:Array α}{order:Array Nat}(h:order.toList.Perm (Gm es.size)):(order.filterMap (es[·]?)).size=es.size/\∀e∈(order.filterMap (es[·]?)).toList,e∈es.toList:=by
 have key:∀l:List Nat,(∀i∈l,i<es.size)->(l.filterMap (es[·]?)).length=l.length/\∀e∈l.filterMap (es[·]?),e∈es.toList:=by
  intro l;induction l with
  | nil=>intro _;exact⟨rfl,λe c=>by cases c⟩
  | cons x l d=>
   intro b;obtain⟨i1,i2⟩:=d λi hi=>b i (Fv _ hi);have g:=b x Fy;have e:(x::l).filterMap (es[·]?)=es[x]::l.filterMap (es[·]?):=by rw[List.filterMap_cons];simp[g]
   rw[e];refine⟨by rw[FV,FV,i1],λy a=>?_⟩;rcases FH.mp a with rfl|a
   ·simp
   ·exact i2 y a
 have hlt:∀i∈order.toList,i<es.size:=λi hi=>List.mem_range.mp (h.mem_iff.mp hi);obtain⟨k1,k2⟩:=key order.toList hlt;rw[Array.toList_filterMap];refine⟨?_,k2⟩;rw[←Fw,Array.toList_filterMap,k1,h.length_eq,List.length_range]
def E2{a:Vb}{o:Obj}{es c:Array (Int×Va)}{ep n:Nat}{t d:SetTable}{ks1:List (List K)}{Q:Bool->Vc->Prop}(ho:s.heap.get? a=Vo o)(hex:o.ExactSet)(hd:o.data=.set es ep t)(l:c.size=n+1)(x:d.place.size=c.size)(u:d.dummies = #[])
  (y:Tb.Mask d.mask) (z:n*5<d.mask*3) (Y:n<200) (hlen:ks1.length=n+1) (B:∀e∈c.toList,∃b k,e.2=.ref b/\k∈ks1/\IsTupleKey knd s.heap k b)
  (h:∀h',Heap.SameBut a s.heap h'->fL knd h' a ks1->Q true { s with heap:=h' }) :
  Vf (Vg P w) A (do
   storeSet a c d
   if(!false && d.tooFull)=true then do
    setRelay a (SetTable.grown (n+1))
    pure true
   else pure true) Q E s:=by
 have M:n+1<=sizeLine:=FY (show n+1<=1000 by omega) (by decide);refine Fl (wpAny_storeSet_of ho hd ?_ (by omega));have j:(s.heap.update a (Obj.putSet c d)).get? a=Vo { o with data:=.set c (ep+1) d }:=by have:=Heap.get?_update_self (Obj.putSet c d) ho (by rw[putSet_of c d hd];rfl);rw[putSet_of c d hd]at this;exact this
 have i:=Heap.SameBut.update s.heap a (Obj.putSet c d);generalize s.heap.update a (Obj.putSet c d)=h1 at j i;have p:∀e∈c.toList,∃b k,e.2=.ref b/\k∈ks1/\IsTupleKey knd h1 k b:=λe N=>by obtain⟨b,k,z1,z2,z3⟩:=B e N;exact⟨b,k,z1,z2,ma z3 ho hd i⟩
 have g:d.fill=n+1:=by unfold SetTable.fill;rw[u,x,l];rfl
 by_cases H:d.tooFull=true
 ·rw[H];simp only[Bool.not_false,Bool.and_self,if_true];have C:d.mask*3<=(n+1)*5:=by unfold SetTable.tooFull at H;rw[g]at H;simpa using H
  obtain⟨m,S,T,U,hlt⟩:∃m,Tb.Mask m/\SetTable.sizeAbove (SetTable.grown (n+1))-1=m/\n+1<=m/\(n+1)*5<m*3/\SetTable.sizeAbove (SetTable.grown (n+1))<=sizeLine:=by
   have W:SetTable.grown (n+1)=(n+1)*4:=by unfold SetTable.grown;rw[Gq (by omega)]
   rw[W];rcases y with e|e|e|e<;>rw[e]at z C
   ·obtain rfl:n=4:=by omega
    exact⟨31,.inr (.inl rfl),Tb.A8,by omega,by omega,by decide +kernel⟩
   ·obtain rfl:n=18:=by omega
    exact⟨127,.inr (.inr (.inl rfl)),Tb.E6,by omega,by omega,by decide +kernel⟩
   ·obtain rfl:n=76:=by omega
    exact⟨511,.inr (.inr (.inr rfl)),Tb.zX,by omega,by omega,by decide +kernel⟩
   ·omega
  have F:d.fits c.size=true:=by simp only[SetTable.fits,F5,beq_iff_eq,decide_eq_true_eq];refine⟨x,?_⟩;rw[g];rcases y with e|e|e|e<;>omega
  obtain⟨G,order,I,J,O,L,q⟩:=Tb.As d (hashes:=c.map (·.1)) S T (by rw[Array.size_map];omega);rw[Array.size_map]at J q;obtain⟨r1,X⟩:=DQ q;refine Fl ?_;unfold setRelay;refine Fl (Gj (s:={ s with heap:=h1 }) j rfl F ?_);dsimp only;rw[Gq (Nat.not_lt.mpr hlt.2),I];refine Fl ?_;show Vf _ _ (do
   if(order.filterMap (c[·]?)).size != c.size then unsupported "internal:set-table-lost-an-element"
   pure (order.filterMap (c[·]?),G)) _ _ _
  rw[r1];simp only[bne_self_eq_false,Ge,if_false];refine Fm ?_;dsimp only;refine wpAny_storeSet_of (s:={ s with heap:=h1 }) j rfl ?_ (by rw[r1];omega);have R:(h1.update a (Obj.putSet (order.filterMap (c[·]?)) G)).get? a=Vo { o with data:=.set (order.filterMap (c[·]?)) (ep+1+1) G }:=by have:=Heap.get?_update_self (Obj.putSet (order.filterMap (c[·]?)) G) j (by rw[putSet_of _ _ (o:={ o with data:=.set c (ep+1) d }) rfl];rfl);rw[putSet_of _ _ (o:={ o with data:=.set c (ep+1) d }) rfl]at this;exact this
  have v:=Heap.SameBut.update h1 a (Obj.putSet (order.filterMap (c[·]?)) G);refine Fm (h _ (i.trans v) ⟨_,_,_,G,R,hex,rfl,by rw[r1];exact J,O,by rw[L];exact S,by rw[r1,L,l];exact hlt.1,by rw[r1,l,hlen],λe N=>?_⟩);obtain⟨b,k,z1,z2,z3⟩:=p e (X e N);exact⟨b,k,z1,z2,ma z3 j rfl v⟩
 ·have r:d.tooFull=false:=by simpa using H
  rw[r];simp only[Bool.and_false,Ge,if_false];have C:(n+1)*5<d.mask*3:=by unfold SetTable.tooFull at r;rw[g]at r;simpa using r
  exact Fm (h h1 i ⟨_,c,_,d,j,hex,rfl,x,u,y,by rw[l];exact C,by rw[l,hlen],p⟩)
def y6{a b:Vb}{k:List K}{ks:List (List K)}{d:Int}{Q:Bool->Vc->Prop}(H:A.units<cLine)(y:IsTupleKey knd s.heap k b)(I:fL knd s.heap a ks)(q:k∉ks)(hsz:ks.length<200)
  (h:∀h',Heap.SameBut a s.heap h'->fL knd h' a (k::ks)->Q true { s with heap:=h' }):Vf (Vg P w) A (setAddHashed a (.ref b) d) Q E s:=by
 obtain⟨o,es,ep,t,ho,hex,hd,v,g,x,n,hlen,hall⟩:=I;have hle:es.size<=t.mask:=by omega
 have B:t.fits es.size=true:=by simp only[SetTable.fits,F5,beq_iff_eq,decide_eq_true_eq];refine⟨v,?_⟩;unfold SetTable.fill;rw[g,v];simpa using hle
 obtain⟨R,C,F⟩:=Tb.An g (by rw[v];exact hle);obtain⟨N,J,L⟩:=Tb.Cs x C d;have p:∀e∈es.toList,∃i l,e.2=.ref i/\IsTupleKey knd s.heap l i/\l≠k:=λe r=>by obtain⟨i,l,h1,h2,M⟩:=hall e r;exact⟨i,l,h1,M,λz=>q (z ▸ h2)⟩
 unfold setAddHashed setAddHashedIn;refine wpAny_holding (Fl (Gj ho hd B ?_));dsimp only;have hsc:byScan (.ref b) es=false:=rfl;rw[hsc];simp only[Ge,if_false];unfold setSearch;have G:10*SetTable.turns t.mask<100000:=by unfold SetTable.turns;rcases x with e|e|e|e<;>rw[e]<;>decide
 refine Fl (zL H y ho hd B x g p (λj=>?_) N 100000 Vp (by omega) J rfl (by show t.slot (Tb.cI t N (t.probeStart d)).j=_;rw[L];exact F));dsimp only;refine Fl (Gj ho hd B ?_);dsimp only;have m:(t.put j).1.place.size=es.size+1/\(t.put j).1.dummies = #[]/\(t.put j).1.mask=t.mask:=by
  refine⟨?_,?_,rfl⟩
  ·show(SetTable.insertAt t.place (SetTable.below t.place j) j).size=_;rw[Tb.nF,v]
  ·show(if SetTable.has t.dummies j=true then _ else t.dummies) = #[];rw[g,Tb.uB];rfl
 have u:∀e∈(SetTable.insertAt es (t.put j).2 (d,Value.ref b)).toList,∃i l,e.2=.ref i/\l∈k::ks/\IsTupleKey knd s.heap l i:=λe r=>by
  rcases Tb.Cd r with rfl|r
  ·exact⟨b,k,rfl,Fy,y⟩
  ·obtain⟨i,l,z1,z2,z3⟩:=hall e r;exact⟨i,l,z1,Fv _ z2,z3⟩
 have fin:∀c:Bool,Vf (Vg P w) A (do
   storeSet a (SetTable.insertAt es (t.put j).2 (d,Value.ref b)) (if c=true then(t.put j).1 else{ (t.put j).1 with plain:=false })
   if(!false && (if c=true then(t.put j).1 else{ (t.put j).1 with plain:=false }).tooFull)=true then do
    setRelay a (SetTable.grown (es.size+1))
    pure true
   else pure true) Q E s:=λc=>by
  refine E2 (ks1:=k::ks) ho hex hd (Tb.nF _ _ _) ?_ ?_ ?_ ?_ (by omega) (by rw[FV,hlen]) u h
  ·rw[Tb.nF];cases c<;>exact m.1
  ·cases c<;>exact m.2.1
  ·cases c<;>exact x
  ·cases c<;>exact n
 cases O:(t.put j).1.plain
 ·simp only[Ge,if_false];exact Fl (Fm (fin true))
 ·simp only[if_true];exact Fl (Bj y fin)
end
section
variable {P:Vd} {w:Ve} {A:Vi} {K:Type} [DecidableEq K] {knd:KeyKind P w K} {I:Vb} {fp wr:List Vb} {G:Array GenState->Array GenState->Prop} {n:Nat} {Pz:Nat->Va->Prop} {St:Nat->Vc->Prop}
def fL.moved{h h':Vh}{a:Vb}{ks:List (List K)}{wr:List Vb}(j:fL knd h a ks)(g:∀b o,b∉wr->h.get? b=Vo o->h'.get? b=Vo o)(ha:a∉wr)(l:∀b∈wr,∀o,h.get? b=Vo o->∃vs,o.data=.fields vs):fL knd h' a ks:=by obtain⟨o,es,ep,t,ho,hex,hd,h1,h2,n,p,q,hall⟩:=j;refine⟨o,es,ep,t,g a o ha ho,hex,hd,h1,h2,n,p,q,λe r=>?_⟩;obtain⟨b,k,z1,z2,o',items,m,c,s,d,hi⟩:=hall e r;refine⟨b,k,z1,z2,o',items,m,g b o' (λhb=>?_) c,s,d,hi⟩;obtain⟨vs,i⟩:=l b hb o' c;rw[d]at i;cases i
def yr(W:WalksS P w A.in1 I fp wr G n Pz St)(S:Vb)(hS:S∉fp)(hu:A.in1.units<cLine)(bs:List Vb)(kk:List (List K))(H:kk.length=n)(J:kk.Nodup)(hsz:n<200)
  (r:∀i v,Pz i v->∃b,v=.ref b/\bs[i]?=Vo b) (hwr:∀i s,St i s->∀b∈wr,∀o,s.heap.get? b=Vo o->∃vs,o.data=.fields vs) {R:Result->Vc->Prop} :
  ∀(m i:Nat) (s:Vc),n-i=m->i<=n->St i s->fL knd s.heap S (kk.take i).reverse->(∀(j:Nat) (b:Vb) (k:List K),bs[j]?=Vo b->kk[j]?=Vo k->IsTupleKey knd s.heap k b) →
   (∀s',Moved (S::wr) G s s'->fL knd s'.heap S kk.reverse->R (.ok (.ret .none)) s') →
   codeAny (Vg P w) A (.builtin "set.update.loop" ⟨[.ref S,.ref I],[]⟩) R s:=by
 have u:S∉wr:=λz=>hS (W.sub _ z);have more:∀b∈wr,b∈S::wr:=λb z=>Fv _ z;intro m;induction m with
 | zero=>
  intro i s hm hi hst a d L;obtain rfl:i=n:=by omega
  refine codeAny_builtin F.entry_set_update_loop ?_;rw[Around.under_plainId F.plain_set_update_loop _];show Vf _ A.in1 (pyNext (.ref I) >>= _) _ _ s;refine Fl (W.done s _ _ hst λs' p=>?_);rw[←H,FW]at a;exact Fm (L s' (p.mono more) (a.moved p.heap u (hwr _ s hst)))
 | succ m ih=>
  intro i s hm hi hst a d L;have hlt:i<n:=by omega
  refine codeAny_builtin F.entry_set_update_loop ?_;rw[Around.under_plainId F.plain_set_update_loop _];show Vf _ A.in1 (pyNext (.ref I) >>= _) _ _ s;refine Fl (W.item i s _ _ hlt hst λv s' hP x p=>?_);obtain⟨b,rfl,hb⟩:=r i v hP;have h:kk[i]?=Vo kk[i]:=Ft (by omega);have g:=a.moved p.heap u (hwr _ s hst);have hkeys':∀(j:Nat) (b:Vb) (k:List K),bs[j]?=Vo b->kk[j]?=Vo k->IsTupleKey knd s'.heap k b:=λj b k M N=>by obtain⟨o',items,q,y,B,C,O⟩:=d j b k M N;refine⟨o',items,q,p.heap b o' (λQ=>?_) y,B,C,O⟩;obtain⟨vs,hv⟩:=hwr _ s hst b Q o' y;rw[C]at hv;cases hv
  show Vf _ A.in1 (holding [Value.ref b] (setAdd S (.ref b)) >>= _) _ _ s';refine Fl (wpAny_holding ?_);unfold setAdd;refine wpAny_holding (Fl (wpAny_pyHash_tuple hu (hkeys' i b _ hb h) ?_));have E:kk[i]∉(kk.take i).reverse:=by rw[List.mem_reverse];intro z;obtain⟨q,hq,e⟩:=List.mem_iff_getElem.mp z;rw[Gi]at hq;rw[List.getElem_take]at e;have:=(List.getElem_inj J).mp e;omega
  have T:(kk.take (i+1)).reverse=kk[i]::(kk.take i).reverse:=by rw[List.take_add_one,h,List.reverse_append];rfl
  refine y6 (s:={ s' with toks:=s'.toks+(kk[i].length+1) }) hu (hkeys' i b _ hb h) g E (by rw[List.length_reverse,Gi];omega) λh' U l=>?_;obtain⟨oS,a2,a3,tS,X,_,Y,_⟩:=id g;refine Fm ⟨plainId_quiet F.plain_set_update_loop _,ih (i+1) _ (by omega) hlt (W.frame _ s' _ _ x (Nat.le_add_right _ _) λc B o e=>?_) (by rw[T];exact l) (λj c k M N=>ma (hkeys' j c k M N) X Y U) λZ a0 a1=>?_⟩
  ·rw[U.2 c (λz:c=S=>hS (z ▸ B))];exact e
  ·refine L Z (Moved.trans W.gtrans ((p.mono more).then_heap (Nat.le_add_right _ _) λc o B e=>?_) a0) a1;rw[U.2 c (λz:c=S=>B (by rw[z];exact Fy))];exact e
end
end L2.Og
namespace L2.Og
open PySem PySem.Spec PyProof.Rows
section
variable {P:Vd} {w:Ve} {A:Vi} {E:Va->Vc->Prop} {s:Vc} {K:Type} [DecidableEq K] {knd:KeyKind P w K}
abbrev cB(led:Bool):Obj:={ cls:=.type "set",dict:=Vp,data:=.set #[] 0 (.fresh 0 0 led) }
def tG(knd:KeyKind P w K)(s:Vc)(kk:List (List K))(h':Vh):Prop:=
 fL knd h' s.heap.objs.size kk.reverse/\∀b o,b<s.heap.objs.size->s.heap.get? b=Vo o->h'.get? b=Vo o
def CC:isSubtype (.type "tuple") (.type "frozenset")=pure false:=by
 rw[isSubtype_type]
 kernel_rfl
def DS{t:Vb}{ys:Array Va}{bs:List Vb}{kk:List (List K)}{Q:Va->Vc->Prop}(hA:A.handled=Vp)(hu:A.units+5<cLine)(gt:s.heap.IsTuple t ys)(hb:ys.toList=bs.map Value.ref)
  (O:kk.length=ys.size) (u:kk.Nodup) (S:ys.size<200) (g:∀(j:Nat) (b:Vb) (k:List K),bs[j]?=Vo b->kk[j]?=Vo k->IsTupleKey knd s.heap k b)
  (h:∀(h':Vh) (tk:Nat),tG knd s kk h'->Q (.ref s.heap.objs.size) { s with heap:=h',toks:=tk }):Vf (Vg P w) A (call (.type "set") [.ref t]) Q E s:=by
 have x1:=F.called_set.notType;have x2:=F.called_set.canCreate;have x3:=F.typeCall_set_1 (.ref t);have x4:=F.called_set.made;have x5:=F.called_set.sub;obtain⟨c,tl,x6⟩:=F.called_set.mro;refine wpAny_call (codeAny_of_tree ?_);show Vf _ _ (callAny (.type "set") _) _ _ _;refine Fm ⟨Code.quiet_builtin _ (by decide +kernel),codeAny_builtin F.entry_type_call ?_⟩;rw[Around.under_plain (weight_type_call_type "set" [.ref t] []) rfl]
 repeat (any_goals (first|assumption|wp_step))
 refine codeAny_mono (code_set_new_1 (.ref t) (E:=E) (Q₁:=λv s1=>∃led,v=.ref s.heap.objs.size/\s1={ s with heap:=s.heap.push (cB led) }) λled=>⟨led,rfl,rfl⟩) λr s1 x=>?_;cases r with
 | error e=>exact x
 | ok T=>
  cases T with
  | ret v=>
   obtain⟨led,rfl,rfl⟩:=x;have N:(s.heap.push (cB led)).get? s.heap.objs.size=Vo (cB led):=Fp _ rfl;have U:Shared.TypeIs { s with heap:=s.heap.push (cB led) } (.ref s.heap.objs.size) "set":=⟨_,N,rfl⟩;have x7:=F.called_set.init.lookup;have x8:=F.called_set.init.bind (.ref s.heap.objs.size)
   repeat (any_goals (first|assumption|wp_step))
   refine codeAny_mono (codeAny_call_builtin (R:=wants (λr s2=>r=.none/\∃h' tk,s2={ s with heap:=h',toks:=tk }/\tG knd s kk h') E) F.called_set.init.plain F.entry_set_init (check_set_init_1 U ?_)) λW s2 a=>?_
   ·have y:(s.heap.push (cB led)).IsTuple t ys:=gt.push _;have hlt:t<s.heap.objs.size:=by obtain⟨o,ho,_⟩:=gt;exact Fq ho
    obtain⟨ol,X,hcl,nl,l⟩:=id y;obtain⟨c0,d0,dt,sl⟩:=ol;simp only at hcl l;subst hcl l;have y1:=F.sub_tuple_set;have y2:=CC;have y3:(Value.type "tuple" == Value.type "dict")=false:=by decide
    unfold Builtin.«set.__init__» noKeywords Builtin.Frozenset.updateFrom;generalize hit:pyIter=PI
    wp_walk
    subst hit;refine wpAny_pyIter_tuple y ?_;refine Fl (wpAny_runValue ?_);have m:(s.heap.push (cB led)).objs.size=s.heap.objs.size+1:=Heap.size_push _ _;have B:A.in1.in1.in1.handled=Vp:=by simp[hA]
    have hne:t≠(s.heap.push (cB led)).objs.size:=by rw[m];exact FL (Nat.lt_succ_of_lt hlt)
    have C:s.heap.objs.size∉[(s.heap.push (cB led)).objs.size,t]:=by
     intro z;rcases FH.mp z with z|z
     ·rw[m]at z;exact FL (Nat.lt_succ_self _) z
     ·exact Nat.ne_of_gt hlt (FD.mp z)
    have G:∀i:Nat,ys[i]?=(bs[i]?).map Value.ref:=λi=>by rw[←Array.getElem?_toList,hb,Fu]
    refine yr (knd:=knd) ((Walks.tuple B _ t hne ys).toS) s.heap.objs.size C (by simp only[Around.in1_units];omega) bs kk O u S (λi v Y=>?_) (λi s' hs b H o ho=>?_) (ys.size-0) 0 _ (by omega) (Nat.zero_le _) ⟨⟨_,Fp _ rfl,rfl,rfl⟩,y.push _⟩ ⟨cB led,#[],0,_,Fo _ N,⟨rfl,rfl,rfl⟩,rfl,rfl,rfl,  .inl rfl,(show 0*5<7*3 by decide),rfl,λe Z=>by simp at Z⟩ (λj b k m e2=>?_) λs' p d=>?_
    ·have n:ys[i]?=Vo v:=Y;rw[G i]at n;obtain⟨b,e,rfl⟩:=FE.mp n;exact⟨b,rfl,e⟩
    ·cases FD.mp H;obtain⟨o',I,_,J⟩:=hs.1;rw[I]at ho;cases ho;exact⟨_,J⟩
    ·obtain⟨o,items,q,ho,r⟩:=g j b k m e2;exact⟨o,items,q,Fo _ (Fo _ ho),r⟩
    ·obtain⟨h',g',d',L,M⟩:=s';have q1:g'=s.gens:=p.gens;have q2:d'=s.drawn:=p.drawn;have q3:M=s.os:=p.os;subst q1 q2 q3;show Vf _ _ _ _ _ _;refine Fm ?_;show Vf _ _ (ret Value.none) _ _ _;refine Fm ⟨rfl,h',L,rfl,d,λb o hb e=>p.heap b o (λz=>?_) (Fo _ (Fo _ e))⟩;rcases FH.mp z with z|z
     ·exact FL hb z
     ·have z:=FD.mp z;rw[m]at z;exact FL (Nat.lt_succ_of_lt hb) z
   ·cases W with
    | error e=>exact a
    | ok f2=>
     cases f2 with
     | ret r=>
      obtain⟨rfl,h',tk,rfl,d⟩:=a
      repeat (any_goals (first|assumption|wp_step))
      exact h _ _ d
     | _=>exact a.elim
  | _=>exact x.elim
end
end L2.Og
namespace L2.Og
open PySem PySem.Spec PyProof.Rows
def iK(a:Vb)(n:Nat):HO:=.ext λh=>∃o es ep t,h.get? a=Vo o/\o.ExactSet/\o.data=.set es ep t/\t.fits es.size=true/\es.size=n
def yn{P:Vd}{w:Ve}{H:Hp}{h:Vh}{a:Vb}{ks:List (List Key)}(S:fL (cN P w) h a ks):bE P w H h a (iK a ks.length):=by
 obtain⟨o,es,ep,t,ho,hex,hd,i,b,l,c,hlen,_⟩:=S;refine⟨⟨o,es,ep,t,ho,hex,hd,?_,hlen⟩,⟨o,ho⟩,λh1 h2 z k=>?_⟩
 ·simp only[SetTable.fits,F5,beq_iff_eq,decide_eq_true_eq];refine⟨i,?_⟩;unfold SetTable.fill;rw[b,i];have:es.size<=t.mask:=by omega
  simpa using this
 ·obtain⟨o',d,e,j,g,r⟩:=z;exact⟨o',d,e,j,k _ g,r⟩
def b9(H:Hp)(p:Vb)(kk:List (List Key)):Prop:=∃bs:List Vb,H p=Vo (.tup (bs.map V.ref))/\bs.length=kk.length/\∀(j:Nat) (b:Vb) (k:List Key),bs[j]?=Vo b->kk[j]?=Vo k->H b=Vo (.tup (k.map kV))
theorem uW:∀{bs:List Vb} {us:List Va},Vals (bs.map V.ref) us->us=bs.map Value.ref
 | [],_,.nil=>rfl
 | b::bs,_,.cons r t=>by rw[List.map_cons,←uW (bs:=bs) t];exact congrArg (· :: _) r
section
variable {X:Cx}
def vo:List V->Hp->VK->Prop:=λxs H Q=>∃p a,xs=[.ref p]/\b9 H p a/\a.Nodup/\a.length<200/\∀l,H l=Vp->Q (.ref l) (upd H l (iK l a.length))
def call_setT{k:Nat}(c:Room k X.A):cy X (.type "set") vo:=by
 intro pins s σ H xs us Q I r h;obtain⟨p,kk,rfl,⟨bs,h1,h2,g⟩,a,i,q⟩:=h;obtain⟨u,rfl,l⟩:=vals1 r;cases l;obtain⟨_,m,v,gt⟩:=I.hok p _ h1;have x:=uW v;subst x;have E:=c.units;have hA:=c.hd;refine DS (knd:=cN X.prog X.w) (kk:=kk) (bs:=bs) hA (by omega) (show s.heap.IsTuple p _ from gt) rfl (by simp[h2]) a (by simp[h2];exact i) (λj b k y z=>?_) λh' tk d=>?_
 ·obtain⟨_,F,B,o,ho,C,n,hd⟩:=I.hok b _ (g j b k y z);exact⟨o,_,n,ho,C,hd,oX B⟩
 ·have hok:=yn (H:=upd H s.heap.objs.size (iK s.heap.objs.size kk.length)) d.1;rw[List.length_reverse]at hok;exact⟨.ref s.heap.objs.size,_,I.laid (t':=tk) (λb o e=>d.2 b o (Fq e) e) (FN _) hok,rfl,q _ (I.hok.fresh (FN _))⟩
def tX:List V->Hp->VK->Prop:=λxs H Q=>∃p n,xs=[.ref p]/\H p=Vo (iK p n)/\n<200/\Q (.int n) H
def call_lenSet:cy X (.builtin "len") tX:=by intro pins s σ H xs us Q I r h;obtain⟨p,n,rfl,a,d,q⟩:=h;obtain⟨u,rfl,b⟩:=vals1 r;cases b;obtain⟨⟨o,es,ep,t,ho,hex,hd,c,hs⟩,_⟩:=I.hok p _ a;refine call_len_set ho hex hd c (by omega) ⟨.int n,H,I.tok _,⟨s.toks+1,by rw[hs]⟩,q⟩
def rd_setOf{H:Hp}{Q:VK}{p:Vb}{kk:List (List Key)}(h:b9 H p kk)(a:kk.Nodup)(b:kk.length<200)(q:∀l H',Ext H H'->H' l=Vo (iK l kk.length)->Q (.ref l) H'):vo [.ref p] H Q:=
 ⟨p,kk,rfl,h,a,b,λl c=>q l _ (aV c) aI⟩
def rd_lenSet{H:Hp}{Q:VK}{p:Vb}{n:Nat}(h:H p=Vo (iK p n))(a:n<200)(q:Q (.int n) H):tX [.ref p] H Q:=⟨p,n,rfl,h,a,q⟩
end
end L2.Og
namespace L2.Ti
open PySem PySem.Spec PyProof.Rows
def eM(t:SetTable):Prop:=t.dummies = #[]/\t.place.toList.Pairwise (· < ·)
def lF(t:SetTable)(n:Nat):eM (t.standIn n):=⟨rfl,by show(Array.range n).toList.Pairwise _;rw[Array.toList_range];exact List.pairwise_lt_range⟩
def AB{mask finger moves:Nat}{led plain:Bool}{hashes:Array Int}{t':SetTable}{order:Array Nat}(h:SetTable.laid mask finger moves led plain hashes=Vo (t',order)):eM t':=by unfold SetTable.laid at h;obtain⟨owner,_,h⟩:=Option.bind_eq_some_iff.mp h;have h:=F8 h;have h1:=(congrArg Prod.fst h).symm;dsimp only at h1;subst h1;refine⟨rfl,?_⟩;show(List.map (λx:Nat×Nat=>x.1) (List.filterMap (λj=>Option.map (λx=>(j,x)) (owner.getD j Vp)) (Gm (mask+1)))).Pairwise (· < ·);rw[List.pairwise_map,List.pairwise_filterMap];refine List.Pairwise.imp ?_ (List.pairwise_lt_range (n:=mask+1));intro a b hab x c y d;obtain⟨u,_,rfl⟩:=FE.mp c;obtain⟨v,_,rfl⟩:=FE.mp d;exact hab
def BI(t:SetTable)(es:Array (Int×Va))(wanted:Nat):eM (relayAll t es wanted).2.1:=by
 unfold relayAll;cases h:t.relaid (es.map (·.1)) wanted with
 | none=>exact lF _ _
 | some x=>
  obtain⟨a,order⟩:=x;dsimp only;split
  ·exact AB h
  ·exact lF _ _
def Av{t:SetTable}(hd:t.dummies = #[])(j:Nat):t.slot j≠.dummy:=by
 unfold SetTable.slot;dsimp only;split
 ·intro z;cases z
 ·rw[hd];rw[Gq (by unfold SetTable.has;simp)];intro z;cases z
theorem sj{t:SetTable}(hd:t.dummies = #[])(hash:Nat->Int)(h:Int):∀(fuel:Nat) (p:SetTable.Probe) (j:Nat) (d:Option Nat),p.dummy=Vp->SetTable.probe.go t hash h fuel p=Vo (.empty j d)->d=Vp/\t.slot j=.empty
 | 0,p,j,d,_,e=>by unfold SetTable.probe.go at e;cases e
 | fuel+1,p,j,d,a,e=>by
  unfold SetTable.probe.go at e;cases hs:t.slot p.j with
  | empty=>
   rw[hs]at e;cases e;exact⟨a,hs⟩
  | dummy=>exact absurd hs (Av hd _)
  | live i=>
   rw[hs]at e;dsimp only at e;split at e
   ·cases e
   ·refine sj hd hash h fuel _ j d ?_ e;unfold SetTable.advance;split<;>exact a
def Cn{t:SetTable}(hi:eM t){j:Nat}(h:t.slot j=.empty):eM (t.put j).1:=by refine⟨?_,Tb.EF hi.2 (Tb.BD hi.2 h)⟩;show(if SetTable.has t.dummies j then _ else t.dummies) = #[];rw[hi.1,Gq (by unfold SetTable.has;simp)]
def zo{t:SetTable}(hi:eM t)(es:Array (Int×Va))(h:Int)(x:Va):eM (layNew t es h x).2.1:=by
 unfold layNew;cases a:t.freeSlot h with
 | none=>exact lF _ _
 | some y=>
  obtain⟨slot,b⟩:=y;dsimp only;show eM ((t.put slot).1.orStandIn _);unfold SetTable.orStandIn;split
  ·refine Cn hi ?_;unfold SetTable.freeSlot at a;split at a
   ·rename_i j d hpr;obtain⟨rfl,h2⟩:=sj hi.1 _ _ _ _ _ _ (show(t.probeStart h).dummy=Vp from rfl) hpr;cases a;exact h2
   ·cases a
  ·exact lF _ _
def below_at{xs:Array Nat}(hs:xs.toList.Pairwise (· < ·)){i j:Nat}(h:xs[i]?=Vo j):SetTable.below xs (j+1)=i+1:=by
 obtain⟨h1,h2,d⟩:=Tb.lO hs (j+1);have hi:i<SetTable.below xs (j+1):=by
  rcases Gf i (SetTable.below xs (j+1))with z|z
  ·exact z
  ·have:=d i j z h;omega
 rcases Gf (i+1) (SetTable.below xs (j+1))with z|z
 ·have c:xs[i+1]?=Vo xs[i+1]:=getElem?_pos xs (i+1) (by omega);have a:=h2 (i+1) _ z c;have b:=Tb.kT hs h c (Nat.lt_succ_self i);omega
 ·omega
def Ct{xs:Array Nat}(hs:xs.toList.Pairwise (· < ·)):SetTable.below xs 0=0:=by
 obtain⟨h1,h2,a⟩:=Tb.lO hs 0;rcases Nat.eq_zero_or_pos (SetTable.below xs 0)with z|z
 ·exact z
 ·have:=h2 0 _ z (getElem?_pos xs 0 (by omega));omega
section
variable {P:Vd} {w:Ve} {A:Vi} {E:Va->Vc->Prop} {s:Vc}
def Bq{it a:Vb}{i ep slot:Nat}{o:Obj}{es:Array (Int×Va)}{t:SetTable}{Q:Option Va->Vc->Prop}(e:w.params.followText "set-order" = false)(hit:s.heap.get? it=Vo (cc a (rawInt (slot:Int)) i es.size ep))(ho:s.heap.get? a=Vo o)(hd:o.data=.set es ep t)(d:t.fits es.size=true)(h1:(!t.plain && decide (es.size>1))=false)(g:t.led=true)
  {x:Int×Va} {j:Nat} (h:es[SetTable.below t.place slot]?=Vo x) (l:t.place[SetTable.below t.place slot]?=Vo j) (m:∀h',h'.get? it=Vo (cc a (rawInt ((j+1:Nat):Int)) (i+1) es.size ep)->Heap.SameBut it s.heap h'->Q (Vo x.2) { s with heap:=h' }):Vf (Vg P w) A (pyNext (.ref it)) Q E s:=by
 have T:s.TypeIs (.ref it) "set_iterator":=⟨_,hit,rfl⟩;unfold pyNext;refine Fl (wpAny_attempt (Gk (name:=F7 "__next__") T SF.slot_next (wpAny_call_entry SF.slot_next T SF.entry_next ?_ (SF.args_next _))));show Vf _ _ (fieldsOf (.ref it) >>= _) _ _ s;refine Fl (wpAny_fieldsOf hit rfl ?_);show Vf _ _ (setEntries a >>= _) _ _ s;unfold setEntries;refine Fl (Fl (Gj ho hd d (Fm ?_)));rw[Gq (by simp)];show Vf _ _ (setNext a slot _ _ >>= _) _ _ s;unfold setNext;refine Fl (Fl (Gj ho hd d ?_));dsimp only;unfold setsByText;refine Fl (Fl (wpAny_askSetting (Fm ?_)));rw[show (Vg P w).w.params.followText "set-order" = false from e];simp only[Ge,if_false];have c:¬((!t.plain && decide (es.size>1))=true):=by rw[h1];exact FI
 split
 ·rename_i hh;exact absurd hh c
 ·refine Fl ?_;show Vf _ _ (if(!t.led && !es.isEmpty)=true then unsupported _ else pure ()) _ _ _;rw[Gq (by rw[g];exact FI)];refine Fm (Fm ?_);rw[h,l];dsimp only;refine Fl (wpAny_setField hit rfl (by simp) ?_);have b:(s.heap.update it (Obj.mapFields (·.setIfInBounds 0 (rawInt ((j+1:Nat):Int))))).get? it=Vo (cc a (rawInt ((j+1:Nat):Int)) i es.size ep):=jc (k:=0) (x:=rawInt ((j+1:Nat):Int)) hit rfl;refine Fl (wpAny_setField (s:={ s with heap:=s.heap.update it (Obj.mapFields (·.setIfInBounds 0 (rawInt ((j+1:Nat):Int)))) }) b rfl (by simp) ?_);have n:=jc (k:=1) (x:=rawInt ((i:Int)+1)) b rfl;refine Fm ⟨_,rfl,Fm (m _ ?_ ((Heap.SameBut.update ..).trans (Heap.SameBut.update ..)))⟩;exact n
def Dk{it a:Vb}{i ep slot:Nat}{o:Obj}{es:Array (Int×Va)}{t:SetTable}{Q:Option Va->Vc->Prop}(b:A.handled=Vp)(e:w.params.followText "set-order" = false)(hit:s.heap.get? it=Vo (cc a (rawInt (slot:Int)) i es.size ep))(ho:s.heap.get? a=Vo o)(hd:o.data=.set es ep t)(d:t.fits es.size=true)(h1:(!t.plain && decide (es.size>1))=false)(g:t.led=true)
  (h:es[SetTable.below t.place slot]?=Vp) (j:∀h',Heap.ExtBut it s.heap h'->Q Vp { s with heap:=h' }):Vf (Vg P w) A (pyNext (.ref it)) Q E s:=by
 have T:s.TypeIs (.ref it) "set_iterator":=⟨_,hit,rfl⟩;unfold pyNext;refine Fl (wpAny_attempt (Gk (name:=F7 "__next__") T SF.slot_next (wpAny_call_entry SF.slot_next T SF.entry_next ?_ (SF.args_next _))));show Vf _ _ (fieldsOf (.ref it) >>= _) _ _ s;refine Fl (wpAny_fieldsOf hit rfl ?_);show Vf _ _ (setEntries a >>= _) _ _ s;unfold setEntries;refine Fl (Fl (Gj ho hd d (Fm ?_)));rw[Gq (by simp)];show Vf _ _ (setNext a slot _ _ >>= _) _ _ s;unfold setNext;refine Fl (Fl (Gj ho hd d ?_));dsimp only;unfold setsByText;refine Fl (Fl (wpAny_askSetting (Fm ?_)));rw[show (Vg P w).w.params.followText "set-order" = false from e];simp only[Ge,if_false];have c:¬((!t.plain && decide (es.size>1))=true):=by rw[h1];exact FI
 split
 ·rename_i b;exact absurd b c
 ·refine Fl ?_;show Vf _ _ (if(!t.led && !es.isEmpty)=true then unsupported _ else pure ()) _ _ _;rw[Gq (by rw[g];exact FI)];refine Fm (Fm ?_);rw[h];dsimp only;refine Fl (wpAny_setField hit rfl (by simp) ?_);exact pP (s:=s) (it:=it) b (Heap.SameBut.update ..).extBut j
def AH(B:A.handled=Vp)(n:w.params.followText "set-order" = false)(I a:Vb)(hne:a≠I){o:Obj}{es:Array (Int×Va)}{ep:Nat}{t:SetTable}(hd:o.data=.set es ep t)(p:t.fits es.size=true)(h1:(!t.plain && decide (es.size>1))=false)(q:t.led=true)(F:t.place.size=es.size)(c:t.place.toList.Pairwise (· < ·)):
  Walks P w A I [I,a] [I] es.size (λi v=>∃x,es[i]?=Vo x/\v=x.2) (λi h=>(∃slot:Nat,h.get? I=Vo (cc a (rawInt (slot:Int)) i es.size ep)/\SetTable.below t.place slot=i)/\h.get? a=Vo o) where
 sub:=λb hb=>by simp at hb;simp[hb]
 frame:=λ_ _ _ st r=>by obtain⟨⟨slot,h1,h2⟩,C⟩:=st;exact⟨⟨slot,r I (by simp) _ h1,h2⟩,r a (by simp) _ C⟩
 item:=λi s Q E hi st d=>by obtain⟨⟨slot,g,j⟩,k⟩:=st;have u:=getElem?_pos es i hi;have y:=getElem?_pos t.place i (by omega);refine Bq n g k hd p h1 q (by rw[j];exact u) (by rw[j];exact y) λh' l z=>?_;refine d _ h' s.toks ⟨_,u,rfl⟩ ⟨⟨_,l,?_⟩,(z.2 a hne).trans k⟩ λb o hb e=>z.extBut b o (λh=>hb (by simp[h])) e;exact below_at c y
 done:=λs Q E st d=>by obtain⟨⟨slot,g,j⟩,k⟩:=st;exact Dk B n g k hd p h1 q (by rw[j];exact Array.getElem?_eq_none (FN _)) λh' m=>d h' s.toks λb o hb e=>m b o (λh=>hb (by simp[h])) e
 self:=λi s Q E st d=>by obtain⟨⟨slot,g,j⟩,k⟩:=st;exact pW g d
def yq{a:Vb}{o:Obj}{es:Array (Int×Va)}{ep:Nat}{t:SetTable}{Q:Va->Vc->Prop}(ho:s.heap.get? a=Vo o)(hex:o.ExactSet)(hd:o.data=.set es ep t)(b:t.fits es.size=true)(hsz:es.size<=sizeLine)
  (k:w.params.followText "set-order" = true\/(!t.plain && decide (es.size>1))=false->Q (.ref s.heap.objs.size) { s with heap:=s.heap.push (cc a (rawInt 0) 0 es.size ep) })
  (l:∀(ys:List Nat) d,ys.Perm (Gm es.size)->Q (.ref (s.heap.objs.size+1)) { s with heap:=(s.heap.push (seqObj "tuple" (ys.map λ(i:Nat)=>rawInt i).toArray 0)).push (cc a (.ref s.heap.objs.size) 0 es.size ep),drawn:=d }) :
  Vf (Vg P w) A (pyIter (.ref a)) Q E s:=by
 have T:s.TypeIs (.ref a) "set":=⟨o,ho,hex.1⟩;refine wpAny_pyIter_slot T F.slot_set_iter (wpAny_call_entry F.slot_set_iter T SF.Ae ?_ (SF.zk _));show Vf _ _ (Builtin.Frozenset.sizeOf a >>= _) _ _ s;unfold Builtin.Frozenset.sizeOf setEntries;refine Fl (Fl (Fl (Gj ho hd b (Fm (Fm ?_)))));show Vf _ _ (setDrawn a >>= _) _ _ s;unfold setDrawn;refine Fl (Fl (Gj ho hd b ?_));dsimp only;unfold setsByText;refine Fl (Fl (wpAny_askSetting (Fm (Fm ?_))));by_cases c:(!(w.params.followText "set-order") && (!t.plain && decide (es.size>1)))=true
 ·rw[Gr (by exact c)];refine Fl (sk _ _ s (by rw[List.length_range]) λys d j=>?_);have e:ys.length=es.size:=by rw[j.length_eq,List.length_range]
  simp only[newTuple];refine Fl (wpAny_newObj_type ?_ (by show(List.map _ ys).toArray.size<=sizeLine;rw[Fx,Fs,e];exact hsz));unfold setEpoch;refine Fl (Fl (Gj (s:={ s with heap:=s.heap.push (seqObj "tuple" (ys.map λ(i:Nat)=>rawInt i).toArray 0),drawn:=d }) (Fo _ ho) hd b (Fm ?_)));simp only[newFields];have g:(s.heap.push (seqObj "tuple" (ys.map λ(i:Nat)=>rawInt i).toArray 0)).objs.size=s.heap.objs.size+1:=Heap.size_push _ _;refine Fl (wpAny_newObj_type (Fm ⟨_,rfl,"set_iterator",_,⟨_,Fp _ rfl,rfl⟩,SF.slot_next.lookup,?_⟩) (by size_fits));have:=l ys d j;rw[←g]at this;exact this
 ·rw[Gq (by exact c)];refine Fl (Fm ?_);unfold setEpoch;refine Fl (Fl (Gj ho hd b (Fm ?_)));simp only[newFields];refine Fl (wpAny_newObj_type (Fm ⟨_,rfl,"set_iterator",_,⟨_,Fp _ rfl,rfl⟩,SF.slot_next.lookup,?_⟩) (by size_fits));refine k ?_;cases h:w.params.followText "set-order" with
  | true=>exact .inl rfl
  | false=>
   rw[h,Bool.not_false,Bool.true_and]at c;exact .inr (Bool.eq_false_iff.mpr c)
def BH{a:Vb}{o:Obj}{es:Array (Int×Va)}{ep:Nat}{t:SetTable}{Q:Va->Vc->Prop}(hA:A.handled=Vp)(ho:s.heap.get? a=Vo o)(hex:o.ExactSet)(hd:o.data=.set es ep t)(m:t.fits es.size=true)(k:t.led=dj w)(M:t.place.size=es.size)(j:t.place.toList.Pairwise (· < ·))(hsz:es.size<=sizeLine)
  (h:∀(I:Vb) (h1:Vh) d (fp:List Vb) (Pz:Nat->Va->Prop) (St:Nat->Vh->Prop),Walks P w A I fp [I] es.size Pz St->St 0 h1->s.heap.objs.size<=I->(∀c∈fp,c=a\/s.heap.objs.size<=c)->(∀b o',s.heap.get? b=Vo o'->h1.get? b=Vo o')->(∀acc:Array Va,acc.size=es.size->(∀i v,acc[i]?=Vo v->Pz i v)->acc.toList.Perm (es.toList.map (·.2)))->Q (.ref I) { s with heap:=h1,drawn:=d }):Vf (Vg P w) A (pyIter (.ref a)) Q E s:=by
 have hlt:a<s.heap.objs.size:=Fq ho;have inOrder:∀{xs:Array (Int×Va)} {acc:Array Va},acc.size=xs.size->(∀i v,acc[i]?=Vo v->∃x:Int×Va,xs[i]?=Vo x/\v=x.2)->acc.toList=xs.toList.map (·.2):=λ{xs acc} p l=>by
  apply List.ext_getElem
  ·rw[Fw,Fs,Fw,p]
  ·intro i q W;rw[Fw]at q;obtain⟨x,u,B⟩:=l i acc[i] (getElem?_pos acc i q);rw[Array.getElem_toList,B,List.getElem_map,Array.getElem_toList];obtain⟨_,e⟩:=Array.getElem?_eq_some_iff.mp u;rw[e]
 refine yq ho hex hd m hsz (λN=>?_) (λys d g=>?_)
 ·have hfp:∀c∈[s.heap.objs.size,a],c=a\/s.heap.objs.size<=c:=λc C=>by
   rcases FH.mp C with z|z
   ·exact .inr (Nat.le_of_eq z.symm)
   ·exact .inl (FD.mp z)
  have r:(s.heap.push (cc a (rawInt 0) 0 es.size ep)).get? s.heap.objs.size=Vo (cc a (rawInt 0) 0 es.size ep):=Fp _ rfl;have L:=Fo (cc a (rawInt 0) 0 es.size ep) ho;cases g:w.params.followText "set-order" with
  | true=>
   refine h _ _ s.drawn _ _ _ (Br hA g s.heap.objs.size a (FL hlt) hd m) ⟨r,L⟩ (FN _) hfp (λb o' e=>Fo _ e) λacc a1 a2=>?_;have F:(pickOrder (w.params.setOrder a ep) es).size=es.size:=by rw[←Fw,(jZ _ es).length_eq,Fw]
   rw[inOrder (a1.trans F.symm) a2];exact(jZ (w.params.setOrder a ep) es).map (·.2)
  | false=>
   have F:t.led=true:=by rw[k];show(!w.params.followText "set-order")=true;rw[g];rfl
   refine h _ _ s.drawn _ _ _ (AH hA g s.heap.objs.size a (FL hlt) hd m (N.resolve_left (by rw[g];decide)) F M j) ⟨⟨0,r,Ct j⟩,L⟩ (FN _) hfp (λb o' e=>Fo _ e) λacc a1 a2=>?_;rw[inOrder a1 a2]
 ·have G:(s.heap.push (seqObj "tuple" (ys.map λ(i:Nat)=>rawInt i).toArray 0)).objs.size=s.heap.objs.size+1:=Heap.size_push _ _;have r:((s.heap.push (seqObj "tuple" (ys.map λ(i:Nat)=>rawInt i).toArray 0)).push (cc a (.ref s.heap.objs.size) 0 es.size ep)).get? (s.heap.objs.size+1)=some (cc a (.ref s.heap.objs.size) 0 es.size ep):=by rw[←G];exact Fp _ rfl
  refine h _ _ d _ _ _ (yZ hA (s.heap.objs.size+1) a s.heap.objs.size (FL (Nat.lt_succ_of_lt hlt)) (FL (Nat.lt_succ_self _)) hd m g) ⟨r,Fo _ (Fo _ ho),Fo _ (Fp _ rfl)⟩ (Nat.le_succ _) (λc C=>?_) (λb o' e=>Fo _ (Fo _ e)) λacc h1 h2=>?_
  ·rcases FH.mp C with z|z
   ·exact .inr (by rw[z];exact Nat.le_succ _)
   ·rcases FH.mp z with z|z
    ·exact .inl z
    ·exact .inr (Nat.le_of_eq (FD.mp z).symm)
  ·have H:ys.length=es.size:=by rw[g.length_eq,List.length_range]
   have O:acc.toList=(ys.filterMap (es[·]?)).map (·.2):=by
    apply List.ext_getElem?;intro i;rw[Fu,Tb.mS es ys (λy J=>List.mem_range.mp (g.mem_iff.mp J))];by_cases q:i<acc.size
    ·have p:=getElem?_pos acc i q;obtain⟨y,x,J,u,B⟩:=h2 i acc[i] p;have l:acc.toList[i]?=Vo acc[i]:=by rw[Array.getElem?_toList];exact p
     rw[l,J,Option.bind_some,u,B];rfl
    ·have l:acc.toList[i]?=none:=List.getElem?_eq_none (by rw[Fw];omega);rw[l,List.getElem?_eq_none (by rw[H,←h1];omega)];rfl
   rw[O];refine List.Perm.map _ ?_;have R:(Gm es.size).filterMap (es[·]?)=es.toList:=by
    apply List.ext_getElem?;intro n;have S:es.toList[n]?=es[n]?:=Array.getElem?_toList;rw[S,Tb.mS es _ (λi hi=>List.mem_range.mp hi)];by_cases T:n<es.size
    ·rw[List.getElem?_range T];rfl
    ·have U:(Gm es.size)[n]?=Vp:=List.getElem?_eq_none (by rw[List.length_range];omega);rw[U,Array.getElem?_eq_none (by omega)];rfl
   rw[←R];exact g.filterMap _
def zw{a:Vb}{o:Obj}{es:Array (Int×Va)}{ep:Nat}{t:SetTable}{Q:List Va->Vc->Prop}(hA:A.handled=Vp)(ho:s.heap.get? a=Vo o)(hex:o.ExactSet)(hd:o.data=.set es ep t)(B:t.fits es.size=true)(n:t.led=dj w)(C:t.place.size=es.size)
  (p:t.place.toList.Pairwise (· < ·)) (hsz:es.size<=sizeLine) (G:∀(h':Vh) (tk:Nat) d (vs:List Va),vs.Perm (es.toList.map (·.2))->s.toks<=tk->s.heap.objs.size<h'.objs.size->(∀b o,b<s.heap.objs.size->s.heap.get? b=Vo o->h'.get? b=Vo o)->Q vs { s with heap:=h',toks:=tk,drawn:=d }):Vf (Vg P w) A (collect (.ref a)) Q E s:=by
 have hlt:a<s.heap.objs.size:=Fq ho;unfold collect;refine Fl (wpAny_runValue (codeAny_builtin F.entry_proto_collect ?_));rw[Around.under_plainId F.plain_proto_collect _];show Vf _ A.in1 (newList [] >>= λl=>again (.builtin "list.__iadd__" ⟨[l,.ref a],[]⟩)) _ _ s;refine Fl (wpAny_newObj_type ?_);refine Fm ⟨plainId_quiet F.plain_list_iadd _,codeAny_builtin F.entry_list_iadd ?_⟩;rw[Around.under_plainId F.plain_list_iadd _];show Vf _ A.in1 (Builtin.List.listExtendWith (.ref s.heap.objs.size) (.ref a) (.ref s.heap.objs.size)) _ _ { s with heap:=s.heap.push (seqObj "list" #[] 0) };unfold Builtin.List.listExtendWith;have j:(s.heap.push (seqObj "list" #[] 0)).get? a=Vo o:=Fo _ ho;have k:(s.heap.push (seqObj "list" #[] 0)).objs.size=s.heap.objs.size+1:=Heap.size_push _ _;refine Fl (wpAny_typeOf (T:="set") ⟨o,j,hex.1⟩ ?_);have H:Builtin.List.listSameRef (.ref s.heap.objs.size) (.ref a)=false:=by have:s.heap.objs.size≠a:=Nat.ne_of_gt hlt;simp[Builtin.List.listSameRef,this]
 have J:(Value.type "set" == Value.type "list")=false:=by decide
 have L:(Value.type "set" == Value.type "tuple")=false:=by decide
 simp only[H,J,L,Bool.or_false,Ge,if_false];refine Fl (BH (s:={ s with heap:=s.heap.push (seqObj "list" #[] 0) }) (by simp[hA]) j hex hd B n C p hsz λI h1 d fp Pz St W hst M hfp hold hPm=>?_);have v:s.heap.objs.size+1<=I:=by rw[←k];exact M
 refine Fl (wpAny_holding (Df (s:={ s with heap:=h1,drawn:=d }) ⟨o,hold _ _ j,hex.1⟩ ?_));rw[Gr (by first|rfl|decide +kernel|kernel_rfl)];refine Fl (wpAny_rule ?_);have g:h1.get? s.heap.objs.size=Vo (seqObj "list" #[] 0):=hold _ _ (Fp _ rfl);refine Fl ?_;show Vf _ A.in1 (updateSeq s.heap.objs.size (·.push .none) >>= λ_=>updateSeq s.heap.objs.size (·.pop)) _ _ { s with heap:=h1,drawn:=d };refine Fl (wpAny_updateSeq g rfl ?_);have h:=Heap.get?_update_self (Obj.mapSeq (·.push Value.none)) g rfl;refine wpAny_updateSeq (s:={ s with heap:=h1.update s.heap.objs.size (Obj.mapSeq (·.push Value.none)),drawn:=d }) h rfl ?_;have m:=Heap.get?_update_self (Obj.mapSeq (·.pop)) h rfl;have oth:∀b o,b≠s.heap.objs.size->h1.get? b=Vo o →
   ((h1.update s.heap.objs.size (Obj.mapSeq (·.push Value.none))).update s.heap.objs.size (Obj.mapSeq (·.pop))).get? b=Vo o:=
  λb o hb e=>(Heap.get?_update_other _ _ (Ne.symm hb)).trans ((Heap.get?_update_other _ _ (Ne.symm hb)).trans e)
 refine Fm ⟨plainId_quiet F.plain_extend_loop _,codeAny_extend_loopS W.toS hsz _ (λz=>by
  rcases hfp _ z with e|e
  ·exact Nat.ne_of_gt hlt e
  ·rw[k]at e;exact absurd e (Nat.not_succ_le_self _)) _ es.size 0 { s with heap:=(h1.update s.heap.objs.size (Obj.mapSeq (·.push Value.none))).update s.heap.objs.size (Obj.mapSeq (·.pop)),drawn:=d } _ _ rfl (Nat.zero_le _)
  (W.frame _ _ _ hst λc N o' e=>oth c o' (λz=>by
   rcases hfp c N with e|e
   ·rw[z]at e;exact Nat.ne_of_gt hlt e
   ·rw[z,k]at e;exact absurd e (Nat.not_succ_le_self _)) e) m (ItemsOf.nil _) λs' q c' r u i=>?_⟩
 show Vf _ A (load s.heap.objs.size >>= _) _ _ s';refine Fl (wpAny_load u ?_);obtain⟨h',O,R,x,y⟩:=s';have z1:O=s.gens:=r.gens;have z2:R=d:=r.drawn;have z3:y=s.os:=r.os;subst z1 z2 z3;refine Fm (G h' x _ _ (hPm q i.1 i.2) r.toks (Fq u) λb o' hb e=>r.heap b o' (λz=>?_) (oth b o' (FL hb) ?_))
 ·rcases FH.mp z with z|z
  ·exact FL hb z
  ·have z:=FD.mp z;rw[z]at hb;exact absurd hb (Nat.not_lt.mpr (Nat.le_of_succ_le v))
 ·exact hold _ _ (Fo _ e)
def dF(P:Vd)(w:Ve)(h:Vh)(a:Vb)(S:Int->Bool)(n:Nat):Prop:=
 ∃o es ep t,h.get? a=Vo o/\o.ExactSet/\o.data=.set es ep t/\ElemsOf (PySem.intKind P w) es.toList/\(∀k,S k=true↔∃e∈es.toList,(PySem.intKind P w).is k e.2=true)/\es.size<scanBound/\t.fits es.size=true/\es.size=n/\t.led=dj w/\eM t
def dF.store{h:Vh}{a:Vb}{o:Obj}{es b:Array (Int×Va)}{ep:Nat}{t t':SetTable}{S':Int->Bool}(ho:h.get? a=Vo o)(hex:o.ExactSet)(hd:o.data=.set es ep t)
  (c:ElemsOf (PySem.intKind P w) b.toList) (hmem:∀k,S' k=true↔∃e∈b.toList,(PySem.intKind P w).is k e.2=true) (hb:b.size<scanBound) (g:t'.fits b.size=true) (i:t'.led=dj w) (hi:eM t') :
  (h.update a (Obj.putSet b t')).get? a=Vo { o with data:=.set b (ep+1) t' }/\dF P w (h.update a (Obj.putSet b t')) a S' b.size:=by
 have d:(h.update a (Obj.putSet b t')).get? a=Vo { o with data:=.set b (ep+1) t' }:=by have:=Heap.get?_update_self (Obj.putSet b t') ho (by rw[putSet_of b t' hd];rfl);rw[putSet_of b t' hd]at this;exact this
 exact⟨d,_,b,ep+1,t',d,hex,rfl,c,hmem,hb,g,rfl,i,hi⟩
def xH {g : Bool → Sem Unit} (I : ∀ (b : Bool) (i : Vc) (G : Unit → Vc → Prop), G () i → Vf (Vg P w) A (g b) G E i)
    {a : Vb} {o : Obj} {es c : Array (Int × Va)} {ep : Nat} {t d : SetTable} {S' : Int → Bool} (ho : s.heap.get? a = Vo o) (hex : o.ExactSet) (hd : o.data = .set es ep t)
    (hel1 : ElemsOf (PySem.intKind P w) c.toList) (hmem1 : ∀ v, S' v = true ↔ ∃ e ∈ c.toList, (PySem.intKind P w).is v e.2 = true) (n : c.size < scanBound) (x : d.fits c.size = true) (p : d.led = dj w) (y : eM d) {J : Bool} {R : Option Bool → Vc → Prop}
    (h : ∀ h', Heap.SameBut a s.heap h' → dF P w h' a S' c.size → R (Vo true) { s with heap := h' }) :
    Vf (Vg P w) A (do
        storeSet a c d
        if (!J && d.tooFull) = true then do
            g (relayAll d c (SetTable.grown c.size)).2.2
            storeSet a (relayAll d c (SetTable.grown c.size)).1 (relayAll d c (SetTable.grown c.size)).2.1
            pure (Vo true)
          else pure (Vo true)) R E s := by
  refine Fl (wpAny_storeSet_of ho hd ?_ (fits_of_scanBound n));obtain ⟨r, z⟩ := dF.store (P := P) ho hex hd hel1 hmem1 n x p y;have j := Heap.SameBut.update s.heap a (Obj.putSet c d);split
  · have m := relayAll_perm d c (SetTable.grown c.size)
    have k := relayAll_fits d c (SetTable.grown c.size);obtain ⟨l1, l2⟩ := yK d c (SetTable.grown c.size);have l := BI d c (SetTable.grown c.size);generalize relayAll d c (SetTable.grown c.size) = L at m k l1 l2 l ⊢;obtain ⟨B, M, H⟩ := L;dsimp only at m k l1 l2 l ⊢;have C : B.size = c.size := by rw [← Fw, m.length_eq, Fw]
    refine Fl (I _ _ _ (Fl (wpAny_storeSet_of r rfl ?_ (fits_of_scanBound (by omega)))));obtain ⟨_, u⟩ := dF.store (P := P) (w := w) (S' := S') r hex rfl (hel1.perm m) (λv => (hmem1 v).trans ⟨λ⟨e, F, q⟩ => ⟨e, m.mem_iff.mpr F, q⟩, λ⟨e, F, q⟩ => ⟨e, m.mem_iff.mp F, q⟩⟩) (by omega) k (l1.trans p) l;rw [C] at u;exact Fm (h _ (j.trans (Heap.SameBut.update _ a _)) u)
  · exact Fm (h _ j z)
def Fd{a:Vb}{S:Int->Bool}{n:Nat}{k:Int}{tk:Tok}{Q:Bool->Vc->Prop}(T:dF P w s.heap a S n)(H:n+1<scanBound)
  (h:∀h' b,Heap.SameBut a s.heap h'->dF P w h' a (λi=>S i || decide (i=k)) (if S k then n else n+1)->Q b { s with heap:=h' }) :
  Vf (Vg P w) A (setAddHashed a (.int k tk) ((PySem.intKind P w).hash k)) Q E s:=by
 obtain⟨o,es,ep,t,ho,hex,hd,r,hmem,hb,I,N,l,z⟩:=T;have m:(PySem.intKind P w).is k (.int k tk)=true:=tI k tk;have hsc:(Value.int k tk).scannable=true:=rfl;unfold setAddHashed setAddHashedIn;refine wpAny_holding (Fl (Gj ho hd I ?_));dsimp only;rw[byScan_of hsc hb r];simp only[↓reduceIte];unfold setAddByScan;refine Fl (Fl (wpAny_rule (Fl (wpAny_setScan_of m ho hd I r ?_))));cases O:List.findIdx? (λe=>(PySem.intKind P w).is k e.2) es.toList with
 | some j=>
  dsimp only;obtain⟨U,J,_⟩:=List.findIdx?_eq_some_iff_getElem.mp O;have u:S k=true:=(hmem k).mpr ⟨es.toList[j],FU U,J⟩;refine Fm (Fm ?_);have e:s={ s with heap:=s.heap }:=by cases s;rfl
  rw[e];refine h s.heap _ (Heap.SameBut.refl a s.heap) ⟨o,es,ep,t,ho,hex,hd,r,λi=>?_,hb,I,by rw[u];exact N,l,z⟩;rw[F6,decide_eq_true_eq,←hmem i];exact⟨λM=>M.elim id (λe=>e ▸ u),.inl⟩
 | none=>
  dsimp only;have u:S k=false:=by
   cases M:S k with
   | false=>rfl
   | true=>
    obtain⟨e,W,X⟩:=(hmem k).mp M;have:=List.findIdx?_eq_none_iff.mp O e W;rw[X]at this;cases this
  have hgw:∀(b:Bool) {g:Vc} {C:Unit->Vc->Prop},C () g->Vf (Vg P w) A (match b with|true=>rule "set.scan.the-table-gave-way"|false=>pure ()) C E g:=
   λb g C B=>by cases b<;>first|exact Fm B|exact wpAny_rule B
  have c:=layNew_perm t es ((PySem.intKind P w).hash k) (.int k tk);have d:=layNew_fits t es ((PySem.intKind P w).hash k) (.int k tk);have v:=zg t es ((PySem.intKind P w).hash k) (.int k tk);have x:=zo z es ((PySem.intKind P w).hash k) (.int k tk);generalize layNew t es ((PySem.intKind P w).hash k) (.int k tk)=L at c d v x ⊢;obtain⟨y,Y,Z,R⟩:=L;dsimp only at c d v x ⊢;rw[Array.toList_push]at c;have hel1:ElemsOf (PySem.intKind P w) y.toList:=(r.push m hsc).perm c;have hmem1:∀i,(S i || decide (i=k))=true↔∃e∈y.toList,(PySem.intKind P w).is i e.2=true:=mem_push_iff m hmem c;have F:y.size=n+1:=by rw[←Fw,c.length_eq,FK,Fw,N];rfl
  refine Fl (hgw _ ?_);have hend:∀h' b,Heap.SameBut a s.heap h'->dF P w h' a (λi=>S i || decide (i=k)) y.size->Q b { s with heap:=h' }:=by intro h' b p q;refine h h' b p ?_;rw[u,Gq FI,←F];exact q
  by_cases G:Y.plain=true
  ·rw[Gr G];refine Fl ?_;rw[hashByValue_scannable 8 hsc];refine Fm ?_;rw[show plainKind (.int k tk)=true from rfl];simp only[if_true];refine xH ?_ ho hex hd hel1 hmem1 (by omega) d (v.trans l) x ?_
   ·intro b g C B;cases b<;>first|exact Fm B|exact wpAny_rule B
   ·intro h' p q;dsimp only;exact Fm (hend h' _ p q)
  ·rw[Gq G];refine Fl (Fm ?_);simp only[if_true];refine xH ?_ ho hex hd hel1 hmem1 (by omega) d (v.trans l) x ?_
   ·intro b g C B;cases b<;>first|exact Fm B|exact wpAny_rule B
   ·intro h' p q;dsimp only;exact Fm (hend h' _ p q)
def eC(P:Vd)(w:Ve)(h:Vh)(a:Vb)(D:List Int):Prop:=D.Nodup/\dF P w h a (λk=>decide (k∈D)) D.length
def eC.elems{h:Vh}{a:Vb}{D:List Int}(l:eC P w h a D):∃o es ep t ds,h.get? a=Vo o/\o.ExactSet/\o.data=.set es ep t/\t.fits es.size=true/\t.led=dj w/\eM t/\es.size<scanBound/\es.size=D.length/\IntsAre (es.toList.map (·.2)) ds/\ds.Perm D:=by
 obtain⟨d,o,es,ep,t,ho,hex,hd,g,hmem,hb,m,j,b,c⟩:=l;obtain⟨ds,h1,h2⟩:=tT g;refine⟨o,es,ep,t,ds,ho,hex,hd,m,b,c,hb,j,h1,E7 d (λk n=>?_) ?_⟩
 ·obtain⟨e,p,i⟩:=(hmem k).mp (Gp n);exact h2 e p k i
 ·rw[←IntsAre.length h1,Fs,Fw,j]
def dF.moved{h h':Vh}{a:Vb}{S:Int->Bool}{n:Nat}(b:dF P w h a S n)(c:∀o,h.get? a=Vo o->h'.get? a=Vo o):dF P w h' a S n:=by obtain⟨o,es,ep,t,ho,r⟩:=b;exact⟨o,es,ep,t,c _ ho,r⟩
def zu{h:Vh}{a:Vb}{D:List Int}{k:Int}(hd:D.Nodup)(c:dF P w h a (λb=>decide (b∈D) || decide (b=k)) (if decide (k∈D)then D.length else D.length+1)):∃g,eC P w h a g/\g.length<=D.length+1/\∀x,x∈g↔x∈D\/x=k:=by
 by_cases d:k∈D
 ·refine⟨D,⟨hd,?_⟩,Nat.le_succ _,λx=>⟨.inl,λz=>z.elim id λe=>e ▸ d⟩⟩;rw[Gp d,Gr rfl]at c;have e:(λb=>decide (b∈D) || decide (b=k))=λb=>decide (b∈D):=by
   funext b;by_cases e:b=k
   ·subst e;simp[d]
   ·simp[e]
  rw[e]at c;exact c
 ·refine⟨k::D,⟨List.nodup_cons.mpr ⟨d,hd⟩,?_⟩,FN _,λx=>by rw[FH];exact⟨λz=>z.symm,λz=>z.symm⟩⟩;rw[Gn d,Gq FI]at c;have e:(λb=>decide (b∈D) || decide (b=k))=λb=>decide (b∈k::D):=by funext b;simp only[FH];by_cases e:b=k<;>by_cases i:b∈D<;>simp[e,i]
  rw[e]at c;exact c
def zM{I:Vb}{fp wr:List Vb}{G:Array GenState->Array GenState->Prop}{n:Nat}{Pz:Nat->Va->Prop}{St:Nat->Vc->Prop}(W:WalksS P w A.in1 I fp wr G n Pz St)(S:Vb)(L:S∉fp)(zs:List Int)(r:zs.length=n)(hsz:n+1<scanBound)
  (h:∀i v,Pz i v->∃z t,v=.int z t/\zs[i]?=Vo z) {R:Result->Vc->Prop} :
  ∀(m i:Nat) (s:Vc) (D:List Int),n-i=m->i<=n->St i s->eC P w s.heap S D->D.length<=i->(∀k,k∈D↔k∈zs.take i) →
   (∀s' D,Moved (S::wr) G s s'->eC P w s'.heap S D->(∀k,k∈D↔k∈zs)->R (.ok (.ret .none)) s') →
   codeAny (Vg P w) A (.builtin "set.update.loop" ⟨[.ref S,.ref I],[]⟩) R s:=by
 have j:S∉wr:=λz=>L (W.sub _ z);have more:∀b∈wr,b∈S::wr:=λb z=>Fv _ z;intro m;induction m with
 | zero=>
  intro i s D O hi hst a _ q u;obtain rfl:i=n:=by omega
  refine codeAny_builtin F.entry_set_update_loop ?_;rw[Around.under_plainId F.plain_set_update_loop _];show Vf _ A.in1 (pyNext (.ref I) >>= _) _ _ s;refine Fl (W.done s _ _ hst λs' l=>?_);rw[←r,FW]at q;exact Fm (u s' D (l.mono more) ⟨a.1,a.2.moved λo=>l.heap S o j⟩ q)
 | succ m Q=>
  intro i s D O hi hst a T q u;have hlt:i<n:=by omega
  refine codeAny_builtin F.entry_set_update_loop ?_;rw[Around.under_plainId F.plain_set_update_loop _];show Vf _ A.in1 (pyNext (.ref I) >>= _) _ _ s;refine Fl (W.item i s _ _ hlt hst λv s' U p l=>?_);obtain⟨z,t,rfl,X⟩:=h i v U;have d:dF P w s'.heap S (λk=>decide (k∈D)) D.length:=a.2.moved λo=>l.heap S o j;show Vf _ A.in1 (holding [Value.int z t] (setAdd S (.int z t)) >>= _) _ _ s';refine Fl (wpAny_holding ?_);unfold setAdd;refine wpAny_holding (Fl ((PySem.intKind P w).pyHash (k:=z) (tI z t) ?_));refine Fd (s:={ s' with toks:=s'.toks+1 }) d (by omega) λh' b M g=>?_;obtain⟨N,x,Y,y⟩:=zu a.1 g;have B:∀k,k∈N↔k∈zs.take (i+1):=λk=>by rw[y,q k,List.take_add_one,X,FQ];simp
  refine Fm ⟨plainId_quiet F.plain_set_update_loop _,Q (i+1) _ N (by omega) hlt (W.frame _ s' _ _ p (Nat.le_succ _) λc C o e=>?_) x (by omega) B λE Z H J=>u E Z (Moved.trans W.gtrans ((l.mono more).then_heap (Nat.le_succ _) λc o C e=>?_) H) J⟩
  ·rw[M.2 c (λz:c=S=>L (z ▸ C))];exact e
  ·rw[M.2 c (λz:c=S=>C (by rw[z];exact Fy))];exact e
def Fe{l:Vb}{ys:Array Va}{zs:List Int}{Q:Va->Vc->Prop}(hA:A.handled=Vp)(gt:s.heap.IsList l ys)(G:IntsAre ys.toList zs)(hsz:ys.size+1<scanBound)
  (h:∀(h':Vh) (tk:Nat) (D:List Int),eC P w h' s.heap.objs.size D->(∀k,k∈D↔k∈zs)->(∀b o,b<s.heap.objs.size->s.heap.get? b=Vo o->h'.get? b=Vo o)->Q (.ref s.heap.objs.size) { s with heap:=h',toks:=tk }):Vf (Vg P w) A (call (.type "set") [.ref l]) Q E s:=by
 have x1:=F.called_set.notType;have x2:=F.called_set.canCreate;have x3:=F.typeCall_set_1 (.ref l);have x4:=F.called_set.made;have x5:=F.called_set.sub;obtain⟨c,tl,x6⟩:=F.called_set.mro;refine wpAny_call (codeAny_of_tree ?_);show Vf _ _ (callAny (.type "set") _) _ _ _;refine Fm ⟨Code.quiet_builtin _ (by decide +kernel),codeAny_builtin F.entry_type_call ?_⟩;rw[Around.under_plain (weight_type_call_type "set" [.ref l] []) rfl]
 repeat (any_goals (first|assumption|wp_step))
 refine codeAny_mono (DK (.ref l) (E:=E) (Q₁:=λv s1=>v=.ref s.heap.objs.size/\s1={ s with heap:=s.heap.push (cB (dj w)) }) ⟨rfl,rfl⟩) λr s1 m=>?_;cases r with
 | error e=>exact m
 | ok I=>
  cases I with
  | ret v=>
   obtain⟨rfl,rfl⟩:=m;have H:(s.heap.push (cB (dj w))).get? s.heap.objs.size=Vo (cB (dj w)):=Fp _ rfl;have J:Shared.TypeIs { s with heap:=s.heap.push (cB (dj w)) } (.ref s.heap.objs.size) "set":=⟨_,H,rfl⟩;have x7:=F.called_set.init.lookup;have x8:=F.called_set.init.bind (.ref s.heap.objs.size)
   repeat (any_goals (first|assumption|wp_step))
   refine codeAny_mono (codeAny_call_builtin (R:=wants (λr s2=>r=.none/\∃h' tk D,s2={ s with heap:=h',toks:=tk }/\eC P w h' s.heap.objs.size D/\(∀k,k∈D↔k∈zs)/\∀b o,b<s.heap.objs.size->s.heap.get? b=Vo o->h'.get? b=Vo o) E) F.called_set.init.plain F.entry_set_init (check_set_init_1 J ?_)) λL s2 a=>?_
   ·have n:(s.heap.push (cB (dj w))).IsList l ys:=gt.push _;have hlt:l<s.heap.objs.size:=by obtain⟨o,ho,_⟩:=gt;exact Fq ho
    obtain⟨ol,M,hcl,nl,g⟩:=id n;obtain⟨c0,d0,dt,sl⟩:=ol;simp only at hcl g;subst hcl g;have y1:=F.sub_list_set;have y2:=F.sub_list_frozenset;have y3:(Value.type "list" == Value.type "dict")=false:=by decide
    unfold Builtin.«set.__init__» noKeywords Builtin.Frozenset.updateFrom;generalize hit:pyIter=PI
    wp_walk
    subst hit;refine wpAny_pyIter_list n ?_;refine Fl (wpAny_runValue ?_);have p:(s.heap.push (cB (dj w))).objs.size=s.heap.objs.size+1:=Heap.size_push _ _;have q:A.in1.in1.in1.handled=Vp:=by simp[hA]
    have hne:l≠(s.heap.push (cB (dj w))).objs.size:=by rw[p];exact FL (Nat.lt_succ_of_lt hlt)
    have u:s.heap.objs.size∉[(s.heap.push (cB (dj w))).objs.size,l]:=by
     intro z;rcases FH.mp z with z|z
     ·rw[p]at z;exact FL (Nat.lt_succ_self _) z
     ·exact Nat.ne_of_gt hlt (FD.mp z)
    have x:zs.length=ys.size:=by rw[←IntsAre.length G,Fw]
    refine zM ((Walks.list q _ l hne ys).toS) s.heap.objs.size u zs x hsz (λi v N=>?_) (ys.size-0) 0 _ [] (by omega) (Nat.zero_le _) ⟨⟨_,Fp _ rfl,rfl,rfl⟩,n.push _⟩
     ⟨List.nodup_nil,cB (dj w),#[],0,_,Fo _ H,⟨rfl,rfl,rfl⟩,rfl,λe O=>by simp at O,λk=>by simp,by decide,by rfl,rfl,rfl,rfl,.nil⟩ (FN _) (λk=>by simp) λs' D j d y=>?_
    ·exact we G i v (by rw[Array.getElem?_toList];exact N)
    ·obtain⟨h',S,T,B,C⟩:=s';have U:S=s.gens:=j.gens;have W:T=s.drawn:=j.drawn;have X:C=s.os:=j.os;subst U W X;show Vf _ _ _ _ _ _;refine Fm ?_;show Vf _ _ (ret Value.none) _ _ _;refine Fm ⟨rfl,h',B,D,rfl,d,y,λb o hb e=>j.heap b o (λz=>?_) (Fo _ (Fo _ e))⟩;rcases FH.mp z with z|z
     ·exact FL hb z
     ·have z:=FD.mp z;rw[p]at z;exact FL (Nat.lt_succ_of_lt hb) z
   ·cases L with
    | error e=>exact a
    | ok Y=>
     cases Y with
     | ret r=>
      obtain⟨rfl,h',tk,D,rfl,d,y,Z⟩:=a
      repeat (any_goals (first|assumption|wp_step))
      exact h _ _ D d y Z
     | _=>exact a.elim
  | _=>exact m.elim
end
def intOf:Va->Int
 | .int z _=>z
 | _=>0
theorem ints_map:∀(vs:List Va),(∀v∈vs,∃z t,v=Value.int z t)->IntsAre vs (vs.map intOf)
 | [],_=>.nil
 | v::vs,h=>by obtain⟨z,t,rfl⟩:=h v Fy;exact .cons z t (ints_map vs λu a=>h u (Fv _ a))
theorem rY:∀{vs:List Va} {zs:List Int},IntsAre vs zs->∀v∈vs,∃z t,v=Value.int z t
 | _,_,.nil,v,h=>by cases h
 | _,_,.cons z t r,v,h=>by
  rcases FH.mp h with rfl|h
  ·exact⟨z,t,rfl⟩
  ·exact rY r v h
theorem wG:∀{vs:List Va} {zs:List Int},IntsAre vs zs->vs.map intOf=zs
 | _,_,.nil=>rfl
 | _,_,.cons z t r=>by show z::_=_;rw[wG r]
section
variable {P:Vd} {w:Ve} {A:Vi} {E:Va->Vc->Prop} {s:Vc}
def Aq{a:Vb}{D:List Int}{Q:List Va->Vc->Prop}(hA:A.handled=Vp)(l:eC P w s.heap a D)
  (m:∀(h':Vh) (tk:Nat) d (vs:List Va) (ds:List Int),IntsAre vs ds->ds.Perm D->s.toks<=tk->s.heap.objs.size<h'.objs.size->(∀b o,b<s.heap.objs.size->s.heap.get? b=Vo o->h'.get? b=Vo o)->Q vs { s with heap:=h',toks:=tk,drawn:=d }):Vf (Vg P w) A (collect (.ref a)) Q E s:=by
 obtain⟨o,es,ep,t,ds,ho,hex,hd,g,c,e,hb,u,hs,h⟩:=l.elems;have n:t.place.size=es.size:=by simp only[SetTable.fits,F5,beq_iff_eq,decide_eq_true_eq]at g;exact g.1
 have i:es.size<=sizeLine:=FY (Nat.le_of_lt hb) (by decide);have key:∀(h':Vh) (tk:Nat) d (vs:List Va),vs.Perm (es.toList.map (·.2))->s.toks<=tk->s.heap.objs.size<h'.objs.size->(∀b o,b<s.heap.objs.size->s.heap.get? b=Vo o->h'.get? b=Vo o)->Q vs { s with heap:=h',toks:=tk,drawn:=d }:=λh' tk d vs k p q r=>by refine m h' tk d vs _ (ints_map vs λv j=>rY hs v (k.mem_iff.mp j)) ?_ p q r;refine((k.map intOf).trans (List.Perm.of_eq ?_)).trans h;exact wG hs
 exact zw hA ho hex hd g c n e.2 i key
def CZ{a:Vb}{D:List Int}{Q:Va->Vc->Prop}(hA:A.handled=Vp)(u:eC P w s.heap a D)(v:D.length<64)
  (h:∀(h':Vh) (tk:Nat) d (l:Vb) (vs:List Va) (n:List Int),s.heap.objs.size<=l->(∃e,h'.get? l=Vo (seqObj "list" vs.toArray e))->IntsAre vs n->n.Perm D->n.Pairwise (λa b:Int=>a<=b)->s.toks<=tk →
   (∀b o,b<s.heap.objs.size->s.heap.get? b=Vo o->h'.get? b=Vo o)->Q (.ref l) { s with heap:=h',toks:=tk,drawn:=d }) :
  Vf (Vg P w) A (call (.builtin "sorted") [.ref a]) Q E s:=by
 refine Calls.call_function_entry kind_sorted plain_sorted entry_sorted (args_sorted1 _) ?_;unfold Builtin.«sorted»;refine Fl (m:=checkCount "sorted" 1 1 _) (Fm ?_);refine Fl (Aq (by simp[hA]) u λh1 tk d vs ds hst i p c q=>?_);have x:vs.length=D.length:=(IntsAre.length hst).trans i.length_eq;refine Fl (wpAny_newList ?_ (FY (show vs.length<=64 by omega) (by decide)));have g:(h1.push (seqObj "list" vs.toArray 0)).get? h1.objs.size=Vo (seqObj "list" vs.toArray 0):=Fp _ rfl;refine Fl (wpAny_holding (wpAny_call_entry slot_list_sort ⟨_,g,rfl⟩ entry_list_sort (list_sort_tree (s:={ s with heap:=h1.push (seqObj "list" vs.toArray 0),toks:=tk,drawn:=d }) g hst (by omega) λout r y z B=>⟨_,rfl,?_⟩) (args_list_sort _)));refine Fm ⟨_,rfl,?_⟩;refine h _ tk d h1.objs.size out.toList r (Nat.le_of_lt c) ?_ y (z.trans i) B p λb o' hb e=>?_
 ·obtain⟨j,r1⟩:∃j,((h1.push (seqObj "list" vs.toArray 0)).update h1.objs.size (Obj.mapSeq λ_=>#[])).get? h1.objs.size=Vo (seqObj "list" #[] j):=⟨_,get?_update_seq g (λ_=>#[])⟩;have C:(((((h1.push (seqObj "list" vs.toArray 0)).update h1.objs.size (Obj.mapSeq λ_=>#[])).push (seqObj "tuple" vs.toArray 0)).push (seqObj "list" #[] 0))).get? h1.objs.size=Vo (seqObj "list" #[] j):=Fo _ (Fo _ r1);have F:=get?_update_seq C (λ_=>out);exact⟨_,by rw[Array.toArray_toList];exact F⟩
 ·have k:b<h1.objs.size:=Nat.lt_trans hb c;have j:=q b o' hb e;unfold sortedHeap;refine(Heap.get?_update_other _ _ (Nat.ne_of_gt k)).trans (Fo _ (Fo _ ((Heap.get?_update_other _ _ (Nat.ne_of_gt k)).trans (Fo _ j))))
end
def setIO(P:Vd)(w:Ve)(a:Vb)(D:List Int):HO:=.ext λh=>eC P w h a D
def yW{P:Vd}{w:Ve}{H:Hp}{h:Vh}{a:Vb}{D:List Int}(S:eC P w h a D):bE P w H h a (setIO P w a D):=by
 refine⟨S,?_,λh1 h2 z k=>?_⟩
 ·obtain⟨_,o,es,ep,t,ho,_⟩:=S;exact⟨o,ho⟩
 ·exact⟨z.1,z.2.moved k⟩
section
variable {X:Cx}
def By(P:Vd)(w:Ve):List V->Hp->VK->Prop:=λxs H Q=>∃p zs,xs=[.ref p]/\H p=Vo (.lst (List.map V.int zs))/\zs.length<=4000 ∧
 ∀l D,H l=Vp->D.Nodup->(∀z,z∈D↔z∈zs)->Q (.ref l) (upd H l (setIO P w l D))
def call_setJ{k:Nat}(g:Room k X.A):cy X (.type "set") (By X.prog X.w):=by intro pins s σ H xs us Q I r h;obtain⟨p,zs,rfl,i,j,q⟩:=h;obtain⟨u,rfl,l⟩:=vals1 r;cases l;obtain⟨_,a,n,m,gt⟩:=I.hok p _ i;have hst:=intsAre_of m;have v:a.length=zs.length:=IntsAre.length hst;refine Fe g.hd (ys:=a.toArray) (zs:=zs) (show s.heap.IsList p _ from⟨_,gt,rfl,n,rfl⟩) hst (by rw[Fx,v];exact Nat.lt_of_le_of_lt (Nat.succ_le_succ j) (by decide)) λh' tk D d x y=>?_;have c:=I.hok.fresh (FN _);exact⟨.ref s.heap.objs.size,_,I.laid (t':=tk) (λb o e=>y b o (Fq e) e) (FN _) (yW d),rfl,q _ D c d.1 x⟩
def rSortJ(P:Vd)(w:Ve):List V->Hp->VK->Prop:=λxs H Q=>∃(p:Vb) (D:List Int),xs=[.ref p]/\H p=Vo (setIO P w p D)/\D.length<64 ∧
 ∀l c,H l=Vp->c.Perm D->c.Pairwise (λa b:Int=>a<=b)->Q (.ref l) (upd H l (.lst (List.map V.int c)))
def call_sortJ{k:Nat}(n:Room k X.A):cy X (.builtin "sorted") (rSortJ X.prog X.w):=by intro pins s σ H xs us Q I r h;obtain⟨p,D,rfl,v,j,q⟩:=h;obtain⟨u,rfl,x⟩:=vals1 r;cases x;obtain⟨y,_⟩:=I.hok p _ v;refine CZ n.hd (show eC X.prog X.w s.heap p D from y) j λh' tk d l vs m hle a hst c g z B=>?_;have i:=I.hok.fresh hle;obtain⟨e,C⟩:=a;refine⟨.ref l,_,((I.dr d).laid (t':=tk) (o:=.lst (m.map V.int)) (λb o e=>B b o (Fq e) e) hle ?_),rfl,q l m i c g⟩;exact⟨by rw[Fs,c.length_eq];exact FY (Nat.le_of_lt j) (by decide),vs,e,wF hst,C⟩
end
end L2.Ti
namespace L2
open PySem PySem.Spec PyProof.Rows
section
variable {X:Cx} {pins:List (Vb×Obj)} {σ:St} {H:Hp} {s:Vc}
def gD{i:Nat}{y:Vn}{py:Pos}{elt tg iter:Vk}{ifs:List Vk}{sc:Scope}{pos c:Pos}(own:List Vn)(js:List Nat){M:TI}{g:TG}{tc:TT}{te:TE}(U:X.N.Nodup)(d:X.N[i]?=Vo y)(Z:Loc X.env.scope y)
  (hi:PI X tg iter M) (hg:∀z,PG (cM X sc own js z) tg g) (ht:∀z,jD (cM X sc own js z) ifs tc)
  (he:∀z,PE (cM X sc own js z) elt te) (j:swapsWith (.ListComp elt [⟨tg,iter,ifs,0⟩] sc pos) (Vo (.Name y py)) c.line X.env=pure true:=by rfl) (hc:X.calm=true:=by rfl) (O:sc.kind=.function:=by rfl) (hb:ef sc X.env.scope=true:=by rfl) (hj:kA sc X.N js=true:=by rfl)
  (hs:∀x,foldedSetIterable iter X.env x=pure x:=by intro _;rfl) (k:X.fn y=true\/X.env.scope.names.lookup y=Vo .local:=by first|exact .inl rfl|exact .inr rfl|assumption) :
  PS X (.Assign [.Name y py] (.ListComp elt [⟨tg,iter,ifs,0⟩] sc pos) c) (kO (pR own.length js M g tc te) (jR i)):=by
 intro pins s σ H l I h;rw[exec_Assign_Name_used _ _ _ _ j];refine Fl (wpAny_standAt (Fl ?_));show Vf _ X.A (do let _ ←comprehension (.ListComp elt [⟨tg,iter,ifs,0⟩] sc pos) sc X.env _ (newList []) false (eval iter X.env) (some (assign (.Name y py) X.env))) _ _ s;refine Fl (wpAny_mono (wpAny_comprehension_free (use:=some (assign (.Name y py) X.env)) (Q:=λ_ s'=>SP X pins l .next s') rfl hs (nR λp n k=>I.ok.has p.1 (kI hb n k)) O (λp n hl=>ua hb n hl)
  (aD (hi pins s σ H _ I h) λv s1 h1=>aD h1 λa0 s2 h2=>?_)) (λ_ s' hq=>Fm (Fm hq)) λ_ _ e=>e)
 obtain⟨it,fp,tn,J,H2,e,I2,T,r,P,W,w0,turn⟩:=h2;subst e;refine xG (Q:=λx H1=>jR i x σ H1 l.nx) (RR:=λacc C=>compPost (Vg X.prog X.w) X.A X.xe (Vo (assign (.Name y py) X.env)) (λ_ s'=>SP X pins l .next s') acc C) O hb hj (λ_=>hg _) (λ_=>ht _) (λ_=>he _) I2 (λC=>Turn.at_ (Y:=cM X sc own js ⟨_,_,_,C⟩) T hc) r P w0 turn ?_;intro D C s' ys H' nD I' hC ⟨m,hm⟩ a1 q;show Vf _ X.A (assign (.Name y py) X.env (.ref D)) _ _ _;refine wpAny_assign_Name (xT I' U d Z (v:=.ref D) rfl (λu B ⟨a,E,ha⟩=>?_) k);obtain⟨f0,R,P,f3,S,f5⟩:=hC;have F:a≠C:=by
  rcases ha with rfl|ha
  ·exact Ne.symm R
  ·exact S y a ha
 refine⟨m,hm.sameBut E (Ne.symm F),λh' G=>?_⟩;exact⟨_,_,B.turned (t':=u.toks) (it:=C) (λb o L e=>(G.2 b L).trans e) f0 R f3 S f5,q⟩
end
section
variable {X:Cx}
end
def oB(q:Vd)(loose:List Vn)(c:(Vn->Option Va)->Vh->Prop)(e:Ve->Vh->Prop)(r:PySem.W.RowW)(d:DefRec)(a:List (Vn×Vk))(run:Va->List Va->Sem Va)(w:Ve):Prop:=PySem.W.WalkO q loose c (λb h=>e b h/\b=w) r d a run
def sL{q:Vd}{loose:List Vn}{b:(Vn->Option Va)->Vh->Prop}{c:Ve->Vh->Prop}{r:PySem.W.RowW}{d:DefRec}{a:List (Vn×Vk)}{run:Va->List Va->Sem Va}{e:Prop}(g:Params->Fn)(_:PySem.W.WalkO q loose b c r d a run->e):Fn:=@Classical.epsilon Fn ⟨default⟩ λK=>∃w:Ve,g w.params=K/\¬oB q loose b c r d a run w
def zA{q:Vd}{loose:List Vn}{c:(Vn->Option Va)->Vh->Prop}{g:Ve->Vh->Prop}{r:PySem.W.RowW}{d:DefRec}{a:List (Vn×Vk)}{run:Va->List Va->Sem Va}{k:Prop}(i:Params->Fn)(T:PySem.W.WalkO q loose c g r d a run->k)
  (h:PySem.W.WalkO q loose c (λw h=>g w h/\i w.params=sL i T) r d a run):PySem.W.WalkO q loose c g r d a run:=by
 have key:∀w,oB q loose c g r d a run w:=λw=>Classical.byContradiction λl=>by obtain⟨o,e,j⟩:=@Classical.epsilon_spec Fn (λK=>∃w:Ve,i w.params=K/\¬oB q loose c g r d a run w) ⟨_,w,rfl,l⟩;refine j λm s₀ b mg mb G Y=>?_;obtain⟨n,rfl⟩:=Y;exact h m s₀ b mg mb G ⟨n,e⟩
 exact λw s₀ b mg mb G Y=>key w w s₀ b mg mb G ⟨Y,rfl⟩
def A2{l:PySem.W.OpenLaw}{n k:Nat}{q:Vd}{loose:List Vn}{J:(Vn->Option Va)->Vh->Prop}{z:Ve->Vh->Prop}{d:DefRec}{K:Params->Fn}{sp:Ve->Sp}{x:Vn}(xs:List Vn)
  (L:l.most=Vo n) (A:n<=sizeLine) (B:d.params.defaults=[]) (M:Room k callerA)
  (N:∀(w:Ve) (h:Vh),z w h->(K w.params).In h) (O:∀w:Ve,PySem.W.noTabs (K w.params)=true) (hrec:∀y∈xs,((recsOf q).find? (λe=>e.name == y)).isSome=true) (htab:∀(w:Ve),∀y∈xs,(PySem.W.tabIn (K w.params) y).isSome=true)
  (F:∀(w:Ve) (mg:Vn->Option Va) (r:Vb) (h:Vh),z w h->(K w.params).In h->h.Ns Vj mg->mg d.name=Vo (.ref r) →
   ∃fd:Vm,(∀(s:Vc) (u:Va),BindsTo s fd ⟨[u],[]⟩ [(x,u)]) ∧
    ∀base:Vh,(K w.params).In base->base.Ns Vj mg->(∀y∈xs,∃c T,Tab (K w.params) mg base y c T)->FnOk l.prog w (K w.params) mg base dI k r fd [x] (sp w))
  (hsp:∀(w:Ve) (H:Hp) (a:Vb) (ns:List Int),ns.length<=n->(∀y∈xs,∀c T,PySem.W.tabIn (K w.params) y=Vo (c,T)->H T=Vo (.tbl #[]))->ag (K w.params) H a (ns.map V.int)->sp w [.ref a] H (λv _=>v=.bl true) λ_ _ _=>False) :
  PySem.W.WalkO q loose J z l.row.toRowW d [] (λf vs=>PySem.call f vs):=by
 refine Att.Bk L B λw s₀ j mg mb r o pm cd doc a vs ns G Y ho hd P C m hints hlen Q=>?_;have E:=N w _ Y;obtain⟨fd,hb,R⟩:=F w mg r _ Y E G.T.g C;have S:PySem.W.TabsAt (xs.filterMap (PySem.W.tabIn (K w.params))) j.heap:=λp U=>by obtain⟨y,i,e⟩:=List.mem_filterMap.mp U;obtain⟨dr,X⟩:=Option.isSome_iff_exists.mp (hrec y i);exact PySem.W.tab_of G.T E X e
 refine zC E (O w) S G.T.g G.T.b G.T.builtins G.T.nolimit G.T.bmain Q m hints (FY hlen A) M (λbase I nb tb=>R base I nb λy i=>?_) hb λH Z hS=>hsp w H a ns hlen (λy i c T e=>Z (c,T) (List.mem_filterMap.mpr ⟨y,i,e⟩)) hS;obtain⟨⟨c,T⟩,e⟩:=Option.isSome_iff_exists.mp (htab w y i);obtain⟨h1,h2,h3⟩:=tb (c,T) (List.mem_filterMap.mpr ⟨y,i,e⟩);exact⟨c,T,e,h1,h2,h3,I,nb⟩
end L2
namespace St
def g7(lo hi:Int)(xs:List Int):Prop:=xs.Pairwise (· < ·)/\∀x∈xs,lo<=x/\x<hi
structure Ok(b s:Int)(o a:List Int):Prop where
 hb:0<=b
 hs:1<=s
 ho:g7 0 b o
 ha:g7 b (b+s) a
def mem(b s:Int)(o a:List Int)(x:Int):Bool:=if x<b then o.contains x else a.contains (b+(x-b) % s)
section
variable {b s:Int} {o a:List Int}
def kZ(x:Int)(h:x<b):mem b s o a x=o.contains x:=Gr h
def iO(x:Int)(h:b<=x):mem b s o a x=a.contains (b+(x-b) % s):=Gq (by omega)
end
end St
namespace St
def aS(f:Nat->Bool)(b d:Nat):Prop:=∀x,b<=x->f (x+d)=f x
theorem aS.mul{f:Nat->Bool}{b d:Nat}(h:aS f b d):∀k x,b<=x->f (x+k*d)=f x
 | 0,x,a=>by simp
 | k+1,x,a=>by rw[Nat.succ_mul,←Nat.add_assoc,h _ (by omega),h.mul k x a]
def aS.mono{f:Nat->Bool}{b c d:Nat}(h:aS f b d)(a:b<=c):aS f c d:=λx e=>h x (by omega)
def aS.times{f:Nat->Bool}{b d:Nat}(h:aS f b d)(k:Nat):aS f b (k*d):=λx a=>h.mul k x a
def aS.down{f:Nat->Bool}{b s a d:Nat}(h:aS f b s)(hs:1<=s)(h':aS f a d):aS f b d:=λx c=>by have e:=h.mul a (x+d) (by omega);have g:=h.mul a x c;rw[←e,←g,show x+d+a*s=(x+a*s)+d by omega];exact h' _ (by have:a*1<=a*s:=Nat.mul_le_mul_left _ hs;omega)
def aS.mod{f:Nat->Bool}{b s d:Nat}(h:aS f b s)(h':aS f b d):aS f b (s % d):=λx a=>by have e:=(h'.times (s / d)) (x+s % d) (by omega);rw[←e,show x+s % d+s / d*d=x+s by have:=Nat.div_add_mod s d;rw[Nat.mul_comm]at this;omega];exact h x a
structure Least(f:Nat->Bool)(st low:Nat):Prop where
 pos:1<=st
 per:aS f low st
 step:∀d b,1<=d->aS f b d->st<=d
 base:∀b,aS f b st->low<=b
def Alike(f:Nat->Bool)(b s d:Nat):Prop:=s % d=0/\∀i,i+d<s->f (b+i+d)=f (b+i)
def Alike.per{f:Nat->Bool}{b s d:Nat}(h:aS f b s)(hs:1<=s)(hd:1<=d)(a:Alike f b s d):aS f b d:=by
 obtain⟨q,rfl⟩:∃q,s=d*q:=⟨s / d,by have:=Nat.div_add_mod s d;rw[a.1]at this;omega⟩;have o:1<=q:=by
  cases q with
  | zero=>simp at hs
  | succ q=>omega
 have inner:∀k i,i<d->k<q->f (b+i+k*d)=f (b+i):=by
  intro k;induction k with
  | zero=>intro i _ _;simp
  | succ k c=>
   intro i hi p;have e:=a.2 (i+k*d) (by have:(k+1+1)*d<=q*d:=Nat.mul_le_mul_right _ (by omega);rw[Nat.succ_mul,Nat.succ_mul,Nat.mul_comm q d]at this;omega)
   rw[show b+i+(k+1)*d=b+(i+k*d)+d by rw[Nat.succ_mul];omega,e,←Nat.add_assoc];exact c i hi (by omega)
 have all:∀n,f (b+n)=f (b+n % d):=λn=>by
  have g:f (b+n)=f (b+n % (d*q)):=by have:=h.mul (n / (d*q)) (b+n % (d*q)) (by omega);rw[←this];congr 1;have:=Nat.div_add_mod n (d*q);rw[Nat.mul_comm (d*q)]at this;omega
  rw[g];have hlt:n % (d*q)<d*q:=Nat.mod_lt _ (by omega);have j:n % (d*q)=n % (d*q) % d+n % (d*q) / d*d:=by have:=Nat.div_add_mod (n % (d*q)) d;rw[Nat.mul_comm]at this;omega
  have l:n % (d*q) % d=n % d:=Nat.mod_mul_right_mod n d q;have m:n % (d*q) / d<q:=Nat.div_lt_of_lt_mul hlt;rw[j,←Nat.add_assoc,inner _ _ (Nat.mod_lt _ (by omega)) m,l]
 intro x r;obtain⟨n,rfl⟩:∃n,x=b+n:=⟨x-b,by omega⟩;rw[Nat.add_assoc,all (n+d),all n,Nat.add_mod_right]
def aS.alike{f:Nat->Bool}{b s d:Nat}(h:aS f b d)(a:s % d=0):Alike f b s d:=⟨a,λi _=>h (b+i) (by omega)⟩
def E4{f:Nat->Bool}{b s d:Nat}(h:aS f b s)(hs:1<=s)(hd:1<=d)(a:Alike f b s d)(first:∀e,1<=e->e<d->¬Alike f b s e):aS f b d/\∀e i,1<=e->aS f i e->d<=e:=by
 have j:=a.per h hs hd;refine⟨j,λe i k c=>?_⟩;have g:aS f b e:=h.down hs c;have go:∀n e,e<=n->1<=e->aS f b e->d<=e:=by
  intro n;induction n with
  | zero=>intro e h1 h2;omega
  | succ n l=>
   intro e h1 h2 c;by_cases m:s % e=0
   ·rcases Gf e d with hlt|hge
    ·exact absurd (c.alike m) (first e h2 hlt)
    ·exact hge
   ·have hlt:s % e<e:=Nat.mod_lt _ (by omega);have:=l (s % e) (by omega) (by omega) (h.mod c);omega
 exact go e e (FN _) k g
def CG{f:Nat->Bool}{b s d low:Nat}(h:aS f b s)(hs:1<=s)(hd:1<=d)(a:Alike f b s d)(first:∀e,1<=e->e<d->¬Alike f b s e)(l:low<=b)
  (down:∀x,low<=x->x<b->f x=f (x+d)) (stop:low=0\/f (low-1)≠f (low-1+d)):Least f d low:=by
 obtain⟨g,c⟩:=E4 h hs hd a first
 refine⟨hd,λx i=>?_,c,λj k=>?_⟩
 ·rcases Gf x b with hlt|hge
  ·exact(down x i hlt).symm
  ·exact g x hge
 ·rcases stop with m|hne
  ·omega
  ·rcases Gf j low with hlt|hge
   ·exact absurd (k (low-1) (by omega)).symm hne
   ·exact hge
def row(f:Nat->Bool)(lo n:Nat):List Int:=((Gm n).filter λi=>f (lo+i)).map λi=>((lo+i:Nat):Int)
end St
namespace St
def gN(f:Nat->Bool)(lo n:Nat):row f lo (n+1)=row f lo n++if f (lo+n)then[((lo+n:Nat):Int)]else[]:=by unfold row;rw[List.range_succ,List.filter_append,FJ];congr 1;by_cases h:f (lo+n)=true<;>simp[h]
def gn(f:Nat->Bool)(lo n:Nat):(row f lo n).length<=n:=by unfold row;rw[Fs];exact FY (List.length_filter_le _ _) (by simp)
def il{f:Nat->Bool}{lo n:Nat}{x:Int}:x∈row f lo n↔(lo:Int)<=x/\x<lo+n/\f x.toNat=true:=by
 unfold row;simp only[List.mem_map,List.mem_filter,List.mem_range];constructor
 ·rintro⟨i,⟨hi,a⟩,rfl⟩;refine⟨by omega,by omega,?_⟩;rw[FF];exact a
 ·rintro⟨h1,h2,b⟩;refine⟨x.toNat-lo,⟨by omega,?_⟩,by omega⟩;rw[show lo+(x.toNat-lo)=x.toNat by omega];exact b
def wK(f:Nat->Bool)(lo n:Nat):g7 lo (lo+n) (row f lo n):=by refine⟨?_,λx c=>⟨(il.mp c).1,(il.mp c).2.1⟩⟩;unfold row;rw[List.pairwise_map];refine List.Pairwise.imp (R:=λa b=>a<b) (λh=>by omega) ?_;exact List.Pairwise.filter _ List.pairwise_lt_range
def rZ{f:Nat->Bool}{lo n:Nat}{x:Int}(h1:(lo:Int)<=x)(h2:x<lo+n):(row f lo n).contains x=f x.toNat:=by
 rw[F4,List.contains_iff_mem,il];constructor
 ·exact λh=>h.2.2
 ·exact λh=>⟨h1,h2,h⟩
def jh(f:Nat->Bool)(b s:Nat)(hs:1<=s):Ok b s (row f 0 b) (row f b s):=
 ⟨by omega,by omega,by have:=wK f 0 b;simpa using this,wK f b s⟩
def mH{f:Nat->Bool}{b s:Nat}(hs:1<=s)(h:aS f b s)(x:Nat):mem b s (row f 0 b) (row f b s) x=f x:=by
 by_cases a:x<b
 ·rw[kZ _ (by omega),rZ (by omega) (by omega),FF]
 ·rw[iO _ (by omega)];have r0:0<=((x:Int)-b) % s:=Int.emod_nonneg _ (by omega);have r1:((x:Int)-b) % s<s:=Int.emod_lt_of_pos _ (by omega);rw[rZ (by omega) (by omega)];have e:((b:Int)+((x:Int)-b) % s).toNat=b+(x-b) % s:=by
   have:((x:Int)-b) % s=(((x-b) % s:Nat):Int):=by rw[show (x:Int)-b=((x-b:Nat):Int) by omega];rfl
   omega
  rw[e];have:=h.mul ((x-b) / s) (b+(x-b) % s) (by omega);rw[←this];congr 1;have:=Nat.div_add_mod (x-b) s;rw[Nat.mul_comm]at this;omega
def fn(b s:Int)(o a:List Int)(n:Nat):Bool:=mem b s o a n
def zE{b s:Int}{o a:List Int}(S:Ok b s o a):aS (fn b s o a) b.toNat s.toNat:=λx c=>by
 have hb:=S.hb;have hs:=S.hs;unfold fn;rw[iO _ (by omega),iO _ (by omega)];congr 2;have:((x+s.toNat:Nat):Int)-b=(x:Int)-b+s*1:=by omega
 rw[this,Int.add_mul_emod_self_left]
def yI{b s:Int}{o a:List Int}(S:Ok b s o a){y:Int}(i:0<=y):(o.contains y || a.any λx=>decide (x<=y) && (y-x) % s == 0)=mem b s o a y:=by
 have hs:=S.hs;by_cases h:y<b
 ·rw[kZ _ h];have:(a.any λx=>decide (x<=y) && (y-x) % s == 0)=false:=by rw[List.any_eq_false];intro x c;have:=S.ha.2 x c;simp;omega
  rw[this,Bool.or_false]
 ·rw[iO _ (by omega)];have:o.contains y=false:=by rw[Bool.eq_false_iff];intro d;rw[List.contains_iff_mem]at d;have:=S.ho.2 y d;omega
  rw[this,Bool.false_or,F4,F3,List.contains_iff_mem];have r0:0<=(y-b) % s:=Int.emod_nonneg _ (by omega);have r1:(y-b) % s<s:=Int.emod_lt_of_pos _ (by omega);have j:=Int.mul_ediv_add_emod (y-b) s;have q0:0<=(y-b) / s:=Int.ediv_nonneg (by omega) (by omega);have k:0<=s*((y-b) / s):=Int.mul_nonneg (by omega) q0;constructor
  ·rintro⟨x,c,d⟩;simp only[F5,decide_eq_true_eq,beq_iff_eq]at d;have hb:=S.ha.2 x c;have e:(y-b) % s=x-b:=by
    have g:y-b=(x-b)+s*((y-x) / s):=by have:=Int.mul_ediv_add_emod (y-x) s;rw[d.2]at this;omega
    rw[g,Int.add_mul_emod_self_left,Int.emod_eq_of_lt (by omega) (by omega)]
   rw[e,show b+(x-b)=x by omega];exact c
  ·intro c;refine⟨_,c,?_⟩;simp only[F5,decide_eq_true_eq,beq_iff_eq];refine⟨by omega,?_⟩;rw[show y-(b+(y-b) % s)=s*((y-b) / s) by omega];exact Int.mul_emod_right _ _
def xF(f:Nat->Bool)(lo m n:Nat):row f lo (m+n)=row f lo m++row f (lo+m) n:=by
 induction n with
 | zero=>simp[row]
 | succ n a=>rw[←Nat.add_assoc,gN,a,gN,List.append_assoc,Nat.add_assoc]
end St
namespace St
def cm(a b:Nat):Nat:=a / Nat.gcd a b*b
def nG(a b:Nat):cm a b=b / Nat.gcd a b*a:=by unfold cm;have ha:Nat.gcd a b*(a / Nat.gcd a b)=a:=Nat.mul_div_cancel' (Nat.gcd_dvd_left a b);have hb:Nat.gcd a b*(b / Nat.gcd a b)=b:=Nat.mul_div_cancel' (Nat.gcd_dvd_right a b);generalize c:Nat.gcd a b=g at *;generalize a / g=x at *;generalize b / g=y at *;rw[←ha,←hb,Nat.mul_comm y,Nat.mul_comm g y,Nat.mul_comm g x,Nat.mul_assoc,Nat.mul_comm g y,←Nat.mul_assoc]
def jJ{a b:Nat}(ha:1<=a)(hb:1<=b):1<=cm a b:=by unfold cm;have h1:0<a / Nat.gcd a b:=Nat.div_pos (Nat.le_of_dvd ha (Nat.gcd_dvd_left a b)) (Nat.gcd_pos_of_pos_left b ha);exact Nat.mul_pos h1 hb
def Co(a b:Nat):cm a b=cm b a:=by rw[nG a b];unfold cm;rw[Nat.gcd_comm]
def tY{a:Nat}(ha:1<=a):cm a a=a:=by unfold cm;rw[Nat.gcd_self,Nat.div_self ha,Nat.one_mul]
def zH(x y:Nat):Nat.gcd y (x % y)=Nat.gcd x y:=by rw[Nat.gcd_comm x y,Nat.gcd_rec y x,Nat.gcd_comm]
def pZ{a b:Nat}:cm a b<=a*b:=by unfold cm;exact Nat.mul_le_mul_right _ (Nat.div_le_self _ _)
end St
namespace St
def kU(a b:Nat):cm a b=Nat.lcm a b:=by unfold cm Nat.lcm;have hd:Nat.gcd a b ∣ a:=Nat.gcd_dvd_left a b;rw[Nat.div_mul_right_comm hd]
end St
namespace Bfs
theorem iJ:∀(N:Nat) (l:List Nat),l.Nodup->(∀x∈l,x<N)->l.length<=N
 | 0,l,_,h=>by
  cases l with
  | nil=>exact FN _
  | cons x l=>exact absurd (h x Fy) (Nat.not_lt_zero _)
 | N+1,l,a,h=>by
  have b:=iJ N (l.erase N) (a.erase N) (λx c=>by
   have:=h x (List.mem_of_mem_erase c);have hne:x≠N:=λe=>by subst e;exact(List.Nodup.not_mem_erase a) c
   omega)
  by_cases d:N∈l
  ·rw[List.length_erase_of_mem d]at b;omega
  ·rw[List.erase_of_not_mem d]at b;omega
abbrev Pl:=Int×Int
def inR(T:Int)(x:Pl):Prop:=0<=x.1/\x.1<12/\0<=x.2/\x.2<=T
def Ag{T:Int}{l:List Pl}(j:T<=2000)(d:l.Nodup)(h:∀x∈l,inR T x):l.length<=24012:=by
 have c:(l.map λx=>(x.1*2001+x.2).toNat).Nodup:=by unfold List.Nodup at d ⊢;rw[List.pairwise_map];refine List.Pairwise.imp_of_mem ?_ d;intro a b ha hb hab e;obtain⟨a1,a2,a3,a4⟩:=h a ha;obtain⟨k,m,b3,n⟩:=h b hb;refine hab (Prod.ext ?_ ?_)<;>omega
 have:=iJ 24012 _ c (λy g=>by obtain⟨x,i,rfl⟩:=List.mem_map.mp g;obtain⟨a1,a2,a3,a4⟩:=h x i;omega)
 rwa [Fs]at this
section
variable (nx:Pl->Nat->Option Pl) (s:Pl)
variable {nx s}
end
end Bfs
namespace Bfs
inductive Rw(S:Pl->Pl->Prop):Nat->Pl->Pl->Prop
 | nil {x:Pl}:Rw S 0 x x
 | snoc {n:Nat} {x y z:Pl}:Rw S n x y->S y z->Rw S (n+1) x z
def Rw.trans{S:Pl->Pl->Prop}{n k:Nat}{x y z:Pl}(h:Rw S n x y)(g:Rw S k y z):Rw S (n+k) x z:=by
 induction g with
 | nil=>exact h
 | snoc _ hs a=>exact .snoc (a h) hs
def Rw.fn{S:Pl->Pl->Prop}{n:Nat}{x y:Pl}(h:Rw S n x y):∃w:Nat->Pl,w 0=x/\w n=y/\∀i,i<n->S (w i) (w (i+1)):=by
 induction h with
 | @nil x=>exact⟨λ_=>x,rfl,rfl,λi hi=>absurd hi (Nat.not_lt_zero _)⟩
 | @snoc n x y z _ hs a=>
  obtain⟨w,b,c,d⟩:=a;refine⟨λi=>if i<=n then w i else z,by simp[b],(by show(if n+1<=n then w (n+1)else z)=z;rw[Gq (by omega)]),λi hi=>?_⟩
  try dsimp only
  rcases Gf i n with l|l
  ·rw[Gr (by omega),Gr (by omega)];exact d i l
  ·have:i=n:=by omega
   subst this;rw[Gr (FN _),Gq (by omega),c];exact hs
theorem sx{S:Pl->Pl->Prop}{w:Nat->Pl}{i:Nat}:∀(k:Nat),(∀j,i<=j->j<i+k->S (w j) (w (j+1)))->Rw S k (w i) (w (i+k))
 | 0,_=>.nil
 | k+1,h=>.snoc (sx k λj h1 h2=>h j h1 (by omega)) (h (i+k) (by omega) (by omega))
def B7{S:Pl->Pl->Prop}{w:Nat->Pl}{i j:Nat}(a:i<=j)(h:∀k,i<=k->k<j->S (w k) (w (k+1))):Rw S (j-i) (w i) (w j):=by
 have:=sx (S:=S) (w:=w) (i:=i) (j-i) (λk h1 h2=>h k h1 (by omega))
 rwa [show i+(j-i)=j by omega]at this
theorem lh{h:Nat->Int}{l:Int}:∀(P:Nat),(∀i,i<P->h (i+1)<=h i+1)->h 0<=l->l<=h P->∃u,u<=P/\h u=l/\∀i,u<i->i<=P->l<h i
 | 0,_,a,b=>⟨0,FN _,by omega,λi h1 h2=>by omega⟩
 | P+1,hs,a,b=>by
  by_cases e:h (P+1)=l
  ·exact⟨P+1,FN _,e,λi h1 h2=>by omega⟩
  ·have:=hs P (by omega);obtain⟨u,d,c,hi⟩:=lh P (λi hi=>hs i (by omega)) a (by omega);refine⟨u,by omega,c,λi h1 h2=>?_⟩;rcases Gf P i with g|g
   ·have:i=P+1:=by omega
    subst this;omega
   ·exact hi i h1 g
def Dx{h:Nat->Int}{l:Int}{P n:Nat}(g:P<=n)(hs:∀i,P<=i->i<n->h i<=h (i+1)+1)(c:h n<=l)(e:l<=h P):∃d,P<=d/\d<=n/\h d=l/\∀i,P<=i->i<d->l<h i:=by
 obtain⟨u,j,a,b⟩:=lh (h:=λi=>h (n-i)) (l:=l) (n-P) (λi hi=>by
  have:=hs (n-(i+1)) (by omega) (by omega)
  rwa [show n-(i+1)+1=n-i by omega]at this) (by simpa using c) (by
  try dsimp only
  rw[show n-(n-P)=P by omega];exact e)
 refine⟨n-u,by omega,by omega,a,λi h1 h2=>?_⟩;have:=b (n-i) (by omega) (by omega)
 (try dsimp only at this)
 rwa [show n-(n-i)=i by omega]at this
def twice{K:Nat}(code:Nat->Nat)(h:∀j,j<=K->code j<K):∃i j,i<j/\j<=K/\code i=code j:=by
 refine Classical.byContradiction λno=>?_;have c:((Gm (K+1)).map code).Nodup:=by unfold List.Nodup;rw[List.pairwise_map];refine List.Pairwise.imp_of_mem ?_ (List.pairwise_lt_range (n:=K+1));intro a b ha hb hab e;exact no ⟨a,b,hab,by have:=List.mem_range.mp hb;omega,e⟩
 have:=iJ K _ c (λx d=>by obtain⟨j,g,rfl⟩:=List.mem_map.mp d;exact h j (by have:=List.mem_range.mp g;omega))
 rw[Fs,List.length_range]at this;omega
end Bfs
namespace Bfs
end Bfs
namespace Rnd
inductive Wg{α:Type}(S:α->α->Prop):Nat->α->α->Prop
 | nil {x:α}:Wg S 0 x x
 | snoc {n:Nat} {x y z:α}:Wg S n x y->S y z->Wg S (n+1) x z
def Wg.trans{α:Type}{S:α->α->Prop}{n k:Nat}{x y z:α}(h:Wg S n x y)(g:Wg S k y z):Wg S (n+k) x z:=by
 induction g with
 | nil=>exact h
 | snoc _ hs a=>exact .snoc (a h) hs
def Wg.fn{α:Type}{S:α->α->Prop}{n:Nat}{x y:α}(h:Wg S n x y):∃w:Nat->α,w 0=x/\w n=y/\∀i,i<n->S (w i) (w (i+1)):=by
 induction h with
 | @nil x=>exact⟨λ_=>x,rfl,rfl,λi hi=>absurd hi (Nat.not_lt_zero _)⟩
 | @snoc n x y z _ hs a=>
  obtain⟨w,b,c,d⟩:=a;refine⟨λi=>if i<=n then w i else z,by simp[b],(by show(if n+1<=n then w (n+1)else z)=z;rw[Gq (by omega)]),λi hi=>?_⟩
  try dsimp only
  rcases Gf i n with l|l
  ·rw[Gr (by omega),Gr (by omega)];exact d i l
  ·have:i=n:=by omega
   subst this;rw[Gr (FN _),Gq (by omega),c];exact hs
theorem wO{α:Type}{S:α->α->Prop}{w:Nat->α}{i:Nat}:∀(k:Nat),(∀j,i<=j->j<i+k->S (w j) (w (j+1)))->Wg S k (w i) (w (i+k))
 | 0,_=>.nil
 | k+1,h=>.snoc (wO k λj h1 h2=>h j h1 (by omega)) (h (i+k) (by omega) (by omega))
def seg{α:Type}{S:α->α->Prop}{w:Nat->α}{n i j:Nat}(a:∀k,k<n->S (w k) (w (k+1)))(b:i<=j)(c:j<=n):Wg S (j-i) (w i) (w j):=by
 have:=wO (S:=S) (w:=w) (i:=i) (j-i) (λk h1 h2=>a k (by omega))
 rwa [show i+(j-i)=j by omega]at this
def yt{α:Type}{S:α->α->Prop}{I:α->Prop}{N:Nat}(code:α->Nat)(m:∀a,I a->code a<N)(inj:∀a b,I a->I b->code a=code b->a=b)(n:∀a b,S a b->I b):∀(k:Nat) (x y:α),I x->Wg S k x y->∃d,d<N/\Wg S d x y:=by
 intro k;induction k using Nat.strongRecOn with
 | _ k o=>
  intro x y g h;by_cases p:k<N
  ·exact⟨k,p,h⟩
  ·obtain⟨w,l,q,c⟩:=h.fn;have hIn:∀i,i<=k->I (w i):=λi hi=>by
    cases i with
    | zero=>rw[l];exact g
    | succ i=>exact n _ _ (c i (by omega))
   obtain⟨i,j,r,s,e⟩:=Bfs.twice (K:=N) (λj=>code (w j)) (λj s=>m _ (hIn j (by omega)));have u:=inj _ _ (hIn i (by omega)) (hIn j (by omega)) e;have a1:=seg c (Nat.zero_le i) (by omega);have a2:=seg c (show j<=k by omega) (FN k);rw[←u]at a2;have a3:=a1.trans a2;rw[l,q]at a3;exact o _ (by omega) x y g a3
section
variable {n:Nat} {A:Nat->Nat->Prop} (hA:∀i j,A i j->i<n/\j<n)
def Pr(A:Nat->Nat->Prop)(c:Nat)(a b:Nat×Nat):Prop:=A a.1 b.1/\b.2=(a.2+1) % c
def lift{c k:Nat}{i j:Nat}(h:Wg A k i j):Wg (Pr A c) k (i,0 % c) (j,k % c):=by
 induction h with
 | nil=>exact .nil
 | @snoc k x y z _ hs a=>exact .snoc a ⟨hs,by show(k+1) % c=(k % c+1) % c;rw[Nat.mod_add_mod]⟩
def drop{c k:Nat}{a b:Nat×Nat}(h:Wg (Pr A c) k a b):a.2 % c=a.2->Wg A k a.1 b.1/\b.2=(a.2+k) % c:=by
 induction h with
 | nil=>exact λe=>⟨.nil,e.symm⟩
 | @snoc k x y z _ hs d=>
  intro e;obtain⟨h1,h2⟩:=d e;refine⟨.snoc h1 hs.1,?_⟩;rw[hs.2,h2,Nat.mod_add_mod,Nat.add_assoc]
include hA
def xO{c k i j:Nat}(q:1<=c)(hi:i<n)(h:Wg A k i j):∃d,d<n*c/\d % c=k % c/\Wg A d i j:=by
 obtain⟨d,g,l⟩:=yt (S:=Pr A c) (I:=λa=>a.1<n/\a.2<c) (N:=n*c) (λa=>a.1*c+a.2) (λa ha=>by
   have:(a.1+1)*c<=n*c:=Nat.mul_le_mul_right _ ha.1;rw[Nat.succ_mul]at this;have:=ha.2;show a.1*c+a.2<n*c;omega) (λa b ha hb e=>by
   have m:a.1*c+a.2=b.1*c+b.2:=e;have o:a.2=b.2:=by
    have:=congrArg (· % c) m
    try dsimp only at this
    rwa [Nat.mul_add_mod_self_right,Nat.mul_add_mod_self_right,Nat.mod_eq_of_lt ha.2,Nat.mod_eq_of_lt hb.2]at this
   have p:a.1=b.1:=Nat.eq_of_mul_eq_mul_right (show 0<c by omega) (by omega);exact Prod.ext p o) (λa b h=>⟨(hA _ _ h.1).2,by rw[h.2];exact Nat.mod_lt _ (by omega)⟩) k _ _ ⟨hi,Nat.mod_lt _ (by omega)⟩ (lift h)
 obtain⟨h1,h2⟩:=drop l (Nat.mod_mod _ _);refine⟨d,g,?_,h1⟩;rw[Nat.zero_mod,Nat.zero_add]at h2;exact h2.symm
def vt{k i j:Nat}(hi:i<n)(h:Wg A k i j):j<n:=by
 cases h with
 | nil=>exact hi
 | snoc _ hs=>exact(hA _ _ hs).2
def Sm(A:Nat->Nat->Prop)(u v:Nat):Prop:=(∃k,Wg A k u v)/\∃k,Wg A k v u
omit hA in
def Sm.symm{u v:Nat}(h:Sm A u v):Sm A v u:=⟨h.2,h.1⟩
omit hA in
theorem Sm.trans{u v z:Nat}(h:Sm A u v)(g:Sm A v z):Sm A u z:=by obtain⟨⟨a,ha⟩,b,hb⟩:=h;obtain⟨⟨c,e⟩,d,hd⟩:=g;exact⟨⟨_,ha.trans e⟩,_,hd.trans hb⟩
omit hA in
def Sm.refl{u:Nat}:Sm A u u:=⟨⟨0,.nil⟩,0,.nil⟩
omit hA in
def rR{P:Nat->Prop}:∀k,P k->∃q,P q/\∀u,P u->q<=u:=by
 intro k;induction k using Nat.strongRecOn with
 | _ k b=>
  intro c;by_cases h:∃u,u<k/\P u
  ·obtain⟨u,a,pu⟩:=h;exact b u a pu
  ·exact⟨k,c,λu a=>Classical.byContradiction λz=>h ⟨u,by omega,a⟩⟩
def Rp(A:Nat->Nat->Prop)(q:Nat):Prop:=(∃k,1<=k/\Wg A k q q)/\∀u,Sm A q u->q<=u
omit hA in
def De{u k:Nat}(g:1<=k)(h:Wg A k u u):∃q,Rp A q/\Sm A u q:=by obtain⟨q,c,d⟩:=rR (P:=λq=>Sm A u q) u Sm.refl;obtain⟨⟨a,ha⟩,b,hb⟩:=id c;exact⟨q,⟨⟨b+k+a,by omega,(hb.trans h).trans ha⟩,λv e=>d v (c.trans e)⟩,c⟩
def ring{q:Nat}(l:q<n)(h:Rp A q):∃(c:Nat) (L:List Nat),1<=c/\Wg A c q q/\L.length=c/\L.Nodup/\∀v∈L,v<n/\Sm A q v:=by
 obtain⟨⟨k,m,o⟩,_⟩:=h;obtain⟨c,⟨p,a⟩,r⟩:=rR (P:=λk=>1<=k/\Wg A k q q) k ⟨m,o⟩;obtain⟨w,d,g,b⟩:=a.fn;refine⟨c,(Gm c).map w,p,a,by simp,?_,?_⟩
 ·unfold List.Nodup;rw[List.pairwise_map];refine List.Pairwise.imp_of_mem ?_ (List.pairwise_lt_range (n:=c));intro i j hi s u e;have x:=List.mem_range.mp s;have a1:=seg b (Nat.zero_le i) (by omega);have a2:=seg b (show j<=c by omega) (FN c);rw[←e]at a2;have a3:=a1.trans a2;rw[d,g]at a3;have:=r _ ⟨by omega,a3⟩;omega
 ·intro v y;obtain⟨i,hi,rfl⟩:=List.mem_map.mp y;have z:=List.mem_range.mp hi;have a1:=seg b (Nat.zero_le i) (by omega);have a2:=seg b (show i<=c by omega) (FN c);rw[d]at a1;rw[g]at a2;exact⟨vt hA l a1,⟨_,a1⟩,_,a2⟩
def rings(H:n<=12):∀k,k<=n->∃(L:List Nat) (P:Nat),L.Nodup/\(∀v∈L,v<n/\∃q,q<k/\Rp A q/\Sm A q v)/\1<=P/\P ^ 3<=3 ^ L.length/\∀q,q<k->Rp A q->∃c,1<=c/\c<=n/\c ∣ P/\Wg A c q q:=by
 intro k;induction k with
 | zero=>exact λ_=>⟨[],1,List.nodup_nil,λv h=>(nomatch h),FN _,by decide,λq h=>absurd h (Nat.not_lt_zero _)⟩
 | succ k C=>
  intro I;obtain⟨L,P,nd,p,w,i,x⟩:=C (by omega);by_cases o:Rp A k
  ·obtain⟨c,M,y,E,B,j,hMs⟩:=ring hA (show k<n by omega) o;have r:c<=n:=by rw[←B];exact Bfs.iJ n M j λv l=>(hMs v l).1
   refine⟨L++M,P*c,?_,?_,Nat.mul_pos w y,?_,?_⟩
   ·rw[List.nodup_append];refine⟨nd,j,λa ha b hb e=>?_⟩;subst e;obtain⟨_,q,m,g,s⟩:=p a ha;have hs:Sm A k q:=(hMs a hb).2.trans s.symm;have:=o.2 q hs;omega
   ·intro v l;rcases FQ.mp l with z|z
    ·obtain⟨h1,q,h2,i⟩:=p v z;exact⟨h1,q,by omega,i⟩
    ·exact⟨(hMs v z).1,k,by omega,o,(hMs v z).2⟩
   ·rw[Nat.mul_pow,FK,B,Nat.pow_add];have u:∀c,c<13->c ^ 3<=3 ^ c:=by decide
    exact Nat.mul_le_mul i (u c (by omega))
   ·intro q m g;by_cases e:q=k
    ·subst e;exact⟨c,y,r,⟨P,Nat.mul_comm _ _⟩,E⟩
    ·obtain⟨d,h1,h2,F,G⟩:=x q (by omega) g;exact⟨d,h1,h2,Nat.dvd_trans F ⟨c,rfl⟩,G⟩
  ·refine⟨L,P,nd,λv l=>?_,w,i,λq m g=>?_⟩
   ·obtain⟨h1,q,h2,i⟩:=p v l;exact⟨h1,q,by omega,i⟩
   ·by_cases e:q=k
    ·subst e;exact absurd g o
    ·exact x q (by omega) g
omit hA in
theorem times{c q:Nat}(h:Wg A c q q):∀t,Wg A (t*c) q q
 | 0=>by rw[Nat.zero_mul];exact .nil
 | t+1=>by rw[Nat.succ_mul];exact(times h t).trans h
def round(I:n<=12):∃P,1<=P/\P<=81/\∀s r k g,s<n->n<=k->2*(n*n)<=g->k % P=g % P->Wg A k s r->Wg A g s r:=by
 obtain⟨L,P,nd,J,M,N,O⟩:=rings hA I n (FN _);have hl:L.length<=n:=Bfs.iJ n L nd λv Q=>(J v Q).1;refine⟨P,M,?_,?_⟩
 ·refine Classical.byContradiction λz=>?_;have h1:82 ^ 3<=P ^ 3:=Nat.pow_le_pow_left (by omega) 3;have h2:3 ^ L.length<=3 ^ 12:=Nat.pow_le_pow_right (by decide) (by omega);have:82 ^ 3<=3 ^ 12:=FY h1 (FY N h2);exact absurd this (by decide)
 ·intro s r k g hs hk R m h;obtain⟨w,E,u,p⟩:=h.fn;have hIn:∀i,i<=k->w i<n:=λi hi=>by
   cases i with
   | zero=>rw[E];exact hs
   | succ i=>exact(hA _ _ (p i (by omega))).2
  obtain⟨i,j,x,S,e⟩:=Bfs.twice (K:=n) w (λj S=>hIn j (by omega));have loop:=seg p (Nat.le_of_lt x) (show j<=k by omega);rw[←e]at loop;obtain⟨q,T,⟨⟨a,ha⟩,b,hb⟩⟩:=De (by omega) loop;have o:q<n:=vt hA (hIn i (by omega)) ha;obtain⟨c,F,y,B,C⟩:=O q o T;have G:=seg p (Nat.zero_le i) (show i<=k by omega);have H:=seg p (show i<=k by omega) (FN k);rw[E]at G;rw[u]at H;have U:=G.trans ha;have W:=(hb.trans (times (ha.trans hb) (c-1))).trans H;obtain⟨l,l1,m1,w1⟩:=xO hA F hs U;obtain⟨p2,l2,X,Y⟩:=xO hA F o W;have Z:n*c<=n*n:=Nat.mul_le_mul_left _ y;have hle:l+p2<=g:=by omega
  have hm:(l+p2) % c=g % c:=by
   have e1:(l+p2) % c=((i-0+a)+(b+(c-1)*(a+b)+(k-i))) % c:=by rw[Nat.add_mod,m1,X,←Nat.add_mod]
   have e2:(i-0+a)+(b+(c-1)*(a+b)+(k-i))=k+c*(a+b):=by obtain⟨d,rfl⟩:∃d,c=d+1:=⟨c-1,by omega⟩;rw[Nat.add_sub_cancel,Nat.succ_mul];omega
   rw[e1,e2,Nat.add_mul_mod_self_left];obtain⟨d,rfl⟩:=B;rw[←Nat.mod_mul_right_mod k c d,m,Nat.mod_mul_right_mod]
  obtain⟨t,ht⟩:∃t,g=l+p2+t*c:=by refine⟨(g-(l+p2)) / c,?_⟩;have hd:(g-(l+p2)) % c=0:=(Nat.sub_mod_eq_zero_of_mod_eq hm.symm);have:=Nat.div_add_mod (g-(l+p2)) c;rw[hd,Nat.mul_comm]at this;omega
  rw[ht,show l+p2+t*c=l+t*c+p2 by omega];exact(w1.trans (times C t)).trans Y
end
open St in
def Bh{f:Nat->Bool}{st low b P:Nat}(h:Least f st low)(d:1<=P)(a:aS f b P):st ∣ P/\low<=b:=by
 have hd:st ∣ P:=by
  have e:aS f (max b low) P:=λx c=>a x (by omega);have p2:aS f (max b low) st:=λx c=>h.per x (by omega);have g:=e.mod p2;have hs:=h.pos;by_cases z:P % st=0
  ·exact Nat.dvd_of_mod_eq_zero z
  ·have:=h.step (P % st) _ (by omega) g;have:=Nat.mod_lt P (show st>0 by omega);omega
 refine⟨hd,h.base b λx c=>?_⟩;have i:=a.times low x c;have j:=a.times low (x+st) (by omega);have hge:low<=low*P:=Nat.le_mul_of_pos_right low d;have k:=h.per (x+low*P) (by omega);rw[←i,←j,←k];congr 1;omega
end Rnd
namespace My
open PySem L2 St
@[irreducible] noncomputable def K:Fn:=L2.sL _root_.My.top.heap_39 _root_.My.top
def stq (i : Nat) : Vl := PySem.Challenge.pw_stairrooms_k37_closed_of_told.main.body.getD i (.Pass ⟨0, 0, 0, 0⟩)
local macro_rules|`(tactic| walk_at "cond") => `(tactic| first|decide|omega|(dsimp only; omega)|(unfold iF; omega)|(unfold vR; exact ⟨by decide, by decide, by decide⟩)|(dsimp only; exact ⟨by omega, by omega⟩)|exact .inr ⟨by decide, by decide⟩|exact .inl ⟨by decide, by decide⟩|(unfold g9; omega))
local macro_rules|`(tactic| walk_at"") => do
 let ts ← ("seq ret retN asg drop ifS next name var c op un CB cons nil ints test B exb not and or andV orV notV ifE yes I0 I U EqI NeI EqB NeB call BM tup lst sl noPart part exi chain comp iL iT i1 i2 i3 for tTru intB max2 min2 sub gcons gnil aug ipI zip rev par par2 lam calV raise fs try bseq bnext bplain bif bcall enum gget gin revL leS disp dget lrev disp1 din dnin dput min3 iS iD bm0 revS iD2 iLT thaw iD3 iDL dgt2 fs3 fs5".splitOn " ").toArray.mapM λn =>
  let i := Lean.mkIdent (.mkSimple ("rd_" ++ n))
  if n == "var" || n == "aug" then `(tacticSeq| ((with_reducible apply $i); (exact rfl)))
  else if n == "I" then `(tacticSeq| ((with_reducible apply $i); (walk_at "cond")))
  else `(tacticSeq| with_reducible refine $i ?_)
 `(tactic| repeat (first $[| $ts]*|dsimp only))
def b9(H:Hp)(p:Vb)(kk:List (List Key)):Prop:=∃bs:List Vb,H p=Vo (.tup (bs.map V.ref))/\bs.length=kk.length/\∀(j:Nat) (b:Vb) (k:List Key),bs[j]?=Vo b->kk[j]?=Vo k->H b=Vo (.tup (k.map kV))
def b9.ext{H H':Hp}{p:Vb}{kk:List (List Key)}(e:Ext H H')(h:b9 H p kk):b9 H' p kk:=by obtain⟨bs,h1,h2,a⟩:=h;exact⟨bs,e _ _ h1,h2,λj b k c d=>e _ _ (a j b k c d)⟩
structure Blt(mg:Vn->Option Va):Prop where
 len_:mg "len" = Vp
 isinstance_:mg "isinstance" = Vp
 tuple_:mg "tuple" = Vp
 list_:mg "list" = Vp
 int_:mg "int" = Vp
 bool_:mg "bool" = Vp
 range_:mg "range" = Vp
 zip_:mg "zip" = Vp
 max_:mg "max" = Vp
 min_:mg "min" = Vp
 abs_:mg "abs" = Vp
 all_:mg "all" = Vp
 set_:mg "set" = Vp
 str_:mg "str" = Vp
 any_:mg "any" = Vp
 sorted_:mg "sorted" = Vp
def isInt:V->Bool
 | .int _=>true
 | _=>false
def Es{H:Hp}{v:V}{n:String}(h:ib H v n):∃b c,jb n "int" = Vo b/\jb n "bool" = Vo c/\(b && !c)=isInt v:=by
 cases v with
 | non=>cases(show n = "NoneType" from h);exact⟨_,_,rfl,rfl,rfl⟩
 | bl b=>cases(show n = "bool" from h);exact⟨_,_,rfl,rfl,rfl⟩
 | int i=>cases(show n = "int" from h);exact⟨_,_,rfl,rfl,rfl⟩
 | str z=>cases(show n = "str" from h);exact⟨_,_,rfl,rfl,rfl⟩
 | ref a=>rcases h with⟨rfl,xs,e⟩|⟨rfl,xs,e⟩<;>exact⟨_,_,rfl,rfl,rfl⟩
 | _=>exact False.elim h
inductive ig(K:Fn)(vs:List V)(H:Hp)(Q:VK)(E:XK):Prop|mk:∀v n,vs=[v]->ib H v n->Q (.bl (isInt v)) H->ig K vs H Q E
abbrev rE:Vl:=stq 9
def yd:FnScope ["thing"] ["thing"] (aH rE):=⟨rfl,rfl,rfl,by decide +kernel,rfl,by decide +kernel,by decide +kernel⟩
def AG{P:Vd}{w:Ve}{mg:Vn->Option Va}{base:Vh}(D:Dfn K mg "is_whole" rE ["thing"])(T:Blt mg):Cal P w K mg base "is_whole" 1 ["thing"] (ig K):=by
 have nd:=(yd).nd;refine D.ok yd (λvs H Q E h=>?_) (λX d H vs Q E h=>?_)
 ·obtain⟨v,n,rfl,_⟩:=h;rfl
 ·obtain⟨f,cdv,A,outer,s,H0,E0,rfl,i⟩:=d;obtain⟨v,n,rfl,a,q⟩:=h;obtain⟨b,c,hb,g,e⟩:=Es a;refine⟨_,(ao (aB (cK (aU eF rfl T.isinstance_ PyProof.Rows.boot_isinstance (aa (pv 0) (aa (dZ (v:=.ty "int") rfl T.int_ PyProof.Rows.boot_int rfl) ae))) (cS (jS (aU eF rfl T.isinstance_ PyProof.Rows.boot_isinstance (aa (pv 0) (aa (dZ (v:=.ty "bool") rfl T.bool_ PyProof.Rows.boot_bool rfl) ae)))))))),?_⟩;walk_at"";refine eI a hb ?_;walk_at"";cases b with
  | false=>refine aw ?_;rw[←e]at q;exact q
  | true=>
   refine av ?_;walk_at"";refine eI a g ?_;walk_at"";rw[←e]at q;exact q
structure Way where
 room:Int
 deed:Vn
 other:Int
 sign:Vn
 deriving DecidableEq
abbrev Way.key(w:Way):List Key:=[.inl w.room,.inr w.deed,.inl w.other,.inr w.sign]
abbrev Way.vs(w:Way):List V:=[.int w.room,.str w.deed,.int w.other,.str w.sign]
def Way.key_inj{w u:Way}(h:w.key=u.key):w=u:=by cases w;cases u;simp only[Way.key,List.cons.injEq,Sum.inl.injEq,Sum.inr.injEq]at h;obtain⟨rfl,rfl,rfl,rfl,_⟩:=h;rfl
def w5(z:Vn):Prop:=∃c:Nat,97<=c/\c<=122/\z=⟨#[c]⟩
def cx(z:Vn):Prop:=z = "up"\/z = "down"\/z = "stay"\/z = "zero"
structure Way.Ok(m:Int)(w:Way):Prop where
 r0:0<=w.room
 r1:w.room<m
 o0:0<=w.other
 o1:w.other<m
 dd:cx w.deed
 sg:w5 w.sign
structure HOuse(m:Int)(ws:List Way):Prop where
 m1:1<=m
 m12:m<=12
 few:ws.length<=100
 ok:∀w∈ws,w.Ok m
 nd:ws.Nodup
def HOuse.keys{m:Int}{ws:List Way}(h:HOuse m ws):(ws.map Way.key).Nodup:=by have:=h.nd;unfold List.Nodup at this ⊢;rw[List.pairwise_map];exact this.imp λne e=>ne (Way.key_inj e)
def bC(H:Hp)(v:V)(m:Int)(ws:List Way):Prop:=∃p q,v=.ref p/\H p=Vo (.tup [.int m,.ref q])/\b9 H q (ws.map Way.key)
theorem bC.ext{H H':Hp}{v:V}{m:Int}{ws:List Way}(e:Ext H H')(h:bC H v m ws):bC H' v m ws:=by obtain⟨p,q,rfl,h1,h2⟩:=h;exact⟨p,q,rfl,e _ _ h1,h2.ext e⟩
def dy{n:Nat}(h:n<=1000):n<=sizeLine:=FY h (by decide)
inductive jF(K:Fn)(vs:List V)(H:Hp)(Q:VK)(E:XK):Prop|mk:∀i m,vs=[.int i,.int m]->0<=i->i<m->Q (.bl true) H->jF K vs H Q E
abbrev qk:Vl:=stq 26
def wJ:FnScope ["thing","many"] ["thing","many"] (aH qk):=⟨rfl,rfl,rfl,by decide +kernel,rfl,by decide +kernel,by decide +kernel⟩
def E9{P:Vd}{w:Ve}{mg:Vn->Option Va}{base:Vh}(D:Dfn K mg "is_room" qk ["thing","many"])(T:Blt mg)(a:Cal P w K mg base "is_whole" 1 ["thing"] (ig K)):Cal P w K mg base "is_room" 2 ["thing","many"] (jF K):=by
 have nd:=(wJ).nd;refine D.ok wJ (λvs H Q E h=>?_) (λX b H vs Q E h=>?_)
 ·obtain⟨i,m,rfl,_⟩:=h;rfl
 ·obtain⟨f,cdv,A,outer,s,H0,E0,rfl,c⟩:=b;obtain⟨i,m,rfl,d,h1,q⟩:=h;refine⟨_,(ao (aB (cK (ax a c (aa (pv 0) ae)) (cS (kz fN dP af (pv 0) (pv 1)))))),?_⟩;walk_at"";refine⟨_,"int",rfl,rfl,?_⟩;refine rd_exb ?_;refine av ?_;walk_at"";rw[Gp d];refine av ?_;walk_at"";rw[Gp h1];exact q
def mD:List (Key×V):=[(.inr "up",.str "down"),(.inr "down",.str "up"),(.inr "stay",.str "stay"),(.inr "zero",.str "zero")]
def BZ{w:Ve}{K:Fn}{a:Vb}{b c d e g i j k:Tok}{ep:Nat}(h:K.lookup a=Vo (iN w [("up",b,.str "down" c),("down",d,.str "up" e),("stay",g,.str "stay" i),("zero",j,.str "zero" k)] ep))(hs:(a == sysModules)=false):GDict w K a mD:=
 ⟨⟨_,_,h,.cons ⟨rfl,⟨_,rfl⟩⟩ (.cons ⟨rfl,⟨_,rfl⟩⟩ (.cons ⟨rfl,⟨_,rfl⟩⟩ (.cons ⟨rfl,⟨_,rfl⟩⟩ .nil)))⟩,by decide +kernel,hs⟩
def Au(z:Vn):Vn:=if z = "up" then "down" else if z = "down" then "up" else z
def AO{z:Vn}(h:cx z):bR mD (.inr z)=Vo (.str (Au z)):=by rcases h with rfl|rfl|rfl|rfl<;>decide +kernel
inductive m3(K:Fn)(vs:List V)(H:Hp)(Q:VK)(E:XK):Prop|mk:∀z,vs=[.str z]->cx z->Q (.bl true) H->m3 K vs H Q E
abbrev nL:Vl:=stq 27
def tR:FnScope ["thing"] ["thing"] (aH nL):=⟨rfl,rfl,rfl,by decide +kernel,rfl,by decide +kernel,by decide +kernel⟩
def Dt{P:Vd}{w:Ve}{mg:Vn->Option Va}{base:Vh}(D:Dfn K mg "is_deed" nL ["thing"])(T:Blt mg)(c:∃a,mg "TURNED" = Vo (.ref a)/\GDict w K a mD):Cal P w K mg base "is_deed" 1 ["thing"] (m3 K):=by
 have nd:=(tR).nd;refine D.ok tR (λvs H Q E h=>?_) (λX i H vs Q E h=>?_)
 ·obtain⟨z,rfl,_⟩:=h;rfl
 ·obtain⟨f,cdv,A,outer,s,H0,E0,rfl,k⟩:=i;obtain⟨g,d,e⟩:=c;obtain⟨z,rfl,j,q⟩:=h;refine⟨_,(ao (aB (cK (aU eF rfl T.isinstance_ PyProof.Rows.boot_isinstance (aa (pv 0) (aa (dZ (v:=.ty "str") rfl T.str_ PyProof.Rows.boot_str rfl) ae))) (cS (DD (zQ rfl d e (pv 0)) (by with_unfolding_all rfl)))))),?_⟩;walk_at"";refine eI (n:="str") rfl (b:=true) rfl ?_;walk_at"";refine av ?_;walk_at"";refine⟨.inr z,rfl,?_⟩;rw[AO j];exact q
def B2{c:Nat}(h:97<=c):(!decide (([c]:List Nat)<(F7 "a").cps.toList))=true:=by
 have e:(F7 "a").cps.toList=[97]:=by decide +kernel
 rw[e,Gn (λz=>by
  rw[List.cons_lt_cons_iff]at z;rcases z with z|⟨_,z⟩
  ·omega
  ·cases z)]
 rfl
def zx{c:Nat}(h:c<=122):(!decide ((F7 "z").cps.toList<([c]:List Nat)))=true:=by
 have e:(F7 "z").cps.toList=[122]:=by decide +kernel
 rw[e,Gn (λz=>by
  rw[List.cons_lt_cons_iff]at z;rcases z with z|⟨_,z⟩
  ·omega
  ·cases z)]
 rfl
inductive mx(K:Fn)(vs:List V)(H:Hp)(Q:VK)(E:XK):Prop|mk:∀z,vs=[.str z]->w5 z->Q (.bl true) H->mx K vs H Q E
abbrev oY:Vl:=stq 28
def yh:FnScope ["thing"] ["thing"] (aH oY):=⟨rfl,rfl,rfl,by decide +kernel,rfl,by decide +kernel,by decide +kernel⟩
def Af{P:Vd}{w:Ve}{mg:Vn->Option Va}{base:Vh}(D:Dfn K mg "is_sign" oY ["thing"])(T:Blt mg):Cal P w K mg base "is_sign" 1 ["thing"] (mx K):=by
 have nd:=(yh).nd;refine D.ok yh (λvs H Q E h=>?_) (λX e H vs Q E h=>?_)
 ·obtain⟨z,rfl,_⟩:=h;rfl
 ·obtain⟨f,cdv,A,outer,s,H0,E0,rfl,g⟩:=e;obtain⟨z,rfl,⟨c,a,d,rfl⟩,q⟩:=h;refine⟨_,(ao (aB (cK (aU eF rfl T.isinstance_ PyProof.Rows.boot_isinstance (aa (pv 0) (aa (dZ (v:=.ty "str") rfl T.str_ PyProof.Rows.boot_str rfl) ae))) (cK (dz bH (aU yw rfl T.len_ PySem.boot_len (aa (pv 0) ae)) af (aJ _)) (cS (kz w6 w6 aR (pv 0) aR)))))),?_⟩;walk_at"";refine eI (n:="str") rfl (b:=true) rfl ?_;walk_at"";refine av ?_;walk_at"";refine⟨_,rfl,dy (show 1<=1000 by decide),?_⟩;walk_at"";refine av ?_;walk_at"";rw[B2 a];refine av ?_;walk_at"";rw[zx d];exact q
def mR{H:Hp}{p:Vb}{xs:List V}(h:H p=Vo (.tup xs)):ib H (.ref p) "tuple":=.inr ⟨rfl,xs,h⟩
inductive oN(K:Fn)(vs:List V)(H:Hp)(Q:VK)(E:XK):Prop|mk:∀p w m,vs=[.ref p,.int m]->H p=Vo (.tup (Way.vs w))->w.Ok m->Q (.bl true) H->oN K vs H Q E
abbrev rG:Vl:=stq 29
def sS:FnScope ["thing","many"] ["thing","many"] (aH rG):=⟨rfl,rfl,rfl,by decide +kernel,rfl,by decide +kernel,by decide +kernel⟩
def CA{P:Vd}{w:Ve}{mg:Vn->Option Va}{base:Vh}(D:Dfn K mg "is_way" rG ["thing","many"])(T:Blt mg)(c:Cal P w K mg base "is_sign" 1 ["thing"] (mx K))(d:Cal P w K mg base "is_deed" 1 ["thing"] (m3 K))(a:Cal P w K mg base "is_room" 2 ["thing","many"] (jF K)):Cal P w K mg base "is_way" 3 ["thing","many"] (oN K):=by
 have nd:=(sS).nd;refine D.ok sS (λvs H Q E h=>?_) (λX i H vs Q E h=>?_)
 ·obtain⟨p,w,m,rfl,_⟩:=h;rfl
 ·obtain⟨f,cdv,A,outer,s,H0,E0,rfl,g⟩:=i;obtain⟨p,w,m,rfl,e,ok,q⟩:=h;refine⟨_,(ai (aZ (PW.pt (cC (bM (aX (aU eF rfl T.isinstance_ PyProof.Rows.boot_isinstance (aa (pv 0) (aa (dZ (v:=.ty "tuple") rfl T.tuple_ PyProof.Rows.boot_tuple rfl) ae))))) (cW (aM eO (aU (dh K) rfl T.len_ PySem.boot_len (aa (pv 0) ae)) af (aJ _))))) (ao (aB aT)) aP)
    (ai (aZ (PW.pt (cC (bM (aX (ax a g (aa (ah (ay K) (pv 0) af (λ_ _=>rfl)) (aa (pv 1) ae))))) (cW (bM (aX (ax a g (aa (ah (ay K) (pv 0) af (λ_ _=>rfl)) (aa (pv 1) ae)))))))) (ao (aB aT)) aP)
    (ao (aB (cK (ax d g (aa (ah (ay K) (pv 0) af (λ_ _=>rfl)) ae)) (cS (ax c g (aa (ah (ay K) (pv 0) af (λ_ _=>rfl)) ae)))))))),?_⟩
  walk_at"";refine eI (mR e) (b:=true) rfl ?_;walk_at"";refine aw ?_;walk_at"";refine iB (aj.of e) ?_;walk_at"";refine aw ?_;walk_at"";refine az (aj.of e) (v:=.int w.room) rfl ?_;walk_at"";refine⟨_,_,rfl,ok.r0,ok.r1,?_⟩;walk_at"";refine aw ?_;walk_at"";refine az (aj.of e) (v:=.int w.other) rfl ?_;walk_at"";refine⟨_,_,rfl,ok.o0,ok.o1,?_⟩;walk_at"";refine aw ?_;walk_at"";refine az (aj.of e) (v:=.str w.deed) rfl ?_;walk_at"";refine⟨_,rfl,ok.dd,?_⟩;walk_at"";refine av ?_;walk_at"";refine az (aj.of e) (v:=.str w.sign) rfl ?_;walk_at"";exact⟨_,rfl,ok.sg,q⟩
def b9.item{H:Hp}{ws:List Way}{bs:List Vb}(h:∀(j:Nat) (b:Vb) (k:List Key),bs[j]?=Vo b->(ws.map Way.key)[j]?=Vo k->H b=Vo (.tup (k.map kV))){j:Nat}{b:Vb}{w:Way}(a:bs[j]?=Vo b)(c:ws[j]?=Vo w):H b=Vo (.tup w.vs):=
 h j b w.key a (by rw[Fu,c];rfl)
inductive rd(K:Fn)(vs:List V)(H:Hp)(Q:VK)(E:XK):Prop|mk:∀q ws m,vs=[.ref q,.int m]->b9 H q (ws.map Way.key)->HOuse m ws->(∀H',Ext H H'->Q (.bl true) H')->rd K vs H Q E
abbrev rN:Vl:=stq 30
def xV:FnScope ["thing","many"] ["thing","many"] (aH rN):=⟨rfl,rfl,rfl,by decide +kernel,rfl,by decide +kernel,by decide +kernel⟩
def DM{P:Vd}{w:Ve}{mg:Vn->Option Va}{base:Vh}(D:Dfn K mg "are_ways" rN ["thing","many"])(T:Blt mg)(a:∃t,mg "GREATEST_WAYS" = Vo (.int 100 t))(d:Cal P w K mg base "is_way" 3 ["thing","many"] (oN K)):Cal P w K mg base "are_ways" 4 ["thing","many"] (rd K):=by
 have nd:=(xV).nd;refine D.ok xV (λvs H Q E h=>?_) (λX B H vs Q E h=>?_)
 ·obtain⟨p,w,m,rfl,_⟩:=h;rfl
 ·obtain⟨f,cdv,A,outer,s,H0,E0,rfl,n⟩:=B;obtain⟨g,c⟩:=a;obtain⟨q,ws,m,rfl,o,ok,C⟩:=h;obtain⟨bs,h1,h2,F⟩:=id o;rw[Fs]at h2;have r:=ok.few;refine⟨_,(ai (aZ (PW.pt (cC (bM (aX (aU eF rfl T.isinstance_ PyProof.Rows.boot_isinstance (aa (pv 0) (aa (dZ (v:=.ty "tuple") rfl T.tuple_ PyProof.Rows.boot_tuple rfl) ae))))) (cW (aM eG (aU (dh K) rfl T.len_ PySem.boot_len (aa (pv 0) ae)) (fU (v:=.int 100) rfl c ⟨_,rfl⟩) (aJ _))))) (ao (aB aT)) aP)
    (ao (aB (cK (aU (og K rfl) rfl T.all_ PyProof.Rows.boot_all (aa (bK ["way"] [1] (ft K (pv 0)) (λ_=>(aA (i:=0) (show(["way","many"]:List Vn).Nodup from by decide +kernel) rfl (Or.inl rfl) (Or.inr rfl))) (λ_=>cn) (λ_=>(ax d n (aa (pv 0) (aa (pv 1) ae))))) ae)) (cS (dz bH (aU Og.call_lenSet rfl T.len_ PySem.boot_len (aa (dQ (Og.call_setT n) rfl T.set_ PyProof.Rows.boot_set (aa (pv 0) ae)) ae)) (aU (dh K) rfl T.len_ PySem.boot_len (aa (pv 0) ae)) (aJ _))))))),?_⟩
  walk_at"";refine eI (mR h1) (b:=true) rfl ?_;walk_at"";refine aw ?_;walk_at"";refine iB (aj.of h1) ?_;walk_at"";rw[Gn (show ¬((100:Int)<((bs.map V.ref).length:Nat)) by rw[Fs];omega)];refine aw ?_;walk_at"";refine eT (aj.of h1) ?_;refine lZ (xs:=bs.map V.ref) (λi ys H'=>Ext H H'/\ys=(Gb i true).map V.bl) (dy (by rw[Fs];omega)) ⟨λ_ _ z=>z,rfl⟩ (λi ys H' hi h=>⟨aj.of (h.1 _ _ h1),by rw[h.2];simp⟩) ?_ ?_
  ·rintro i x ys H' u ⟨e,rfl⟩;rw[Fu]at u;obtain⟨b,hb,rfl⟩:=FE.mp u;have hi:i<ws.length:=by rw[←h2];exact(FA.mp hb).1
   have j:ws[i]?=Vo ws[i]:=Ft hi;walk_at"";refine av ?_;walk_at"";refine⟨b,ws[i],m,rfl,e _ _ (b9.item F hb j),ok.ok _ (FU hi),e,?_⟩;rw[List.replicate_succ',FJ];rfl
  ·rintro ys H' p ⟨e,rfl⟩ G;walk_at"";have k:Ext H (upd H' p (.lst ((Gb (bs.map V.ref).length true).map V.bl))):=e.trans (aV G);refine⟨p,Gb (bs.map V.ref).length true,rfl,ag.of aI,?_⟩;rw[show (Gb (bs.map V.ref).length true).all id=true by simp];walk_at"";refine av ?_;walk_at"";refine Og.rd_setOf (o.ext k) ok.keys (by rw[Fs];omega) λl H2 y I=>?_;walk_at"";refine Og.rd_lenSet I (by rw[Fs];omega) ?_;walk_at"";refine iB (aj.of ((k.trans y) _ _ h1)) ?_;walk_at"";rw[show decide (((((ws.map Way.key).length:Nat):Int))=((bs.map V.ref).length:Nat))=true by rw[Fs,Fs,h2];simp];exact C _ (k.trans y)
inductive j7(K:Fn)(vs:List V)(H:Hp)(Q:VK)(E:XK):Prop|mk:∀v m ws,vs=[v]->bC H v m ws->HOuse m ws->(∀H',Ext H H'->Q (.bl true) H')->j7 K vs H Q E
abbrev pB:Vl:=stq 31
def wV:FnScope ["thing"] ["thing"] (aH pB):=⟨rfl,rfl,rfl,by decide +kernel,rfl,by decide +kernel,by decide +kernel⟩
def Ap{P:Vd}{w:Ve}{mg:Vn->Option Va}{base:Vh}(D:Dfn K mg "is_house" pB ["thing"])(T:Blt mg)(a:∃t,mg "GREATEST_MANY" = Vo (.int 12 t))(d:Cal P w K mg base "are_ways" 4 ["thing","many"] (rd K))(e:Cal P w K mg base "is_whole" 1 ["thing"] (ig K)):Cal P w K mg base "is_house" 5 ["thing"] (j7 K):=by
 have nd:=(wV).nd;refine D.ok wV (λvs H Q E h=>?_) (λX j H vs Q E h=>?_)
 ·obtain⟨p,w,m,rfl,_⟩:=h;rfl
 ·obtain⟨f,cdv,A,outer,s,H0,E0,rfl,i⟩:=j;obtain⟨g,c⟩:=a;obtain⟨v,m,ws,rfl,⟨p,r,rfl,h1,h2⟩,ok,q⟩:=h;have m1:=ok.m1;have k:=ok.m12;refine⟨_,(ai (aZ (PW.pt (cC (bM (aX (aU eF rfl T.isinstance_ PyProof.Rows.boot_isinstance (aa (pv 0) (aa (dZ (v:=.ty "tuple") rfl T.tuple_ PyProof.Rows.boot_tuple rfl) ae))))) (cW (aM eO (aU (dh K) rfl T.len_ PySem.boot_len (aa (pv 0) ae)) af (aJ _))))) (ao (aB aT)) aP)
    (ao (aB (cK (ax e i (aa (ah (ay K) (pv 0) af (λ_ _=>rfl)) ae)) (cK (kz fN fN af (ah (ay K) (pv 0) af (λ_ _=>rfl)) (fU (v:=.int 12) rfl c ⟨_,rfl⟩)) (cS (ax d i (aa (ah (ay K) (pv 0) af (λ_ _=>rfl)) (aa (ah (ay K) (pv 0) af (λ_ _=>rfl)) ae))))))))),?_⟩
  walk_at"";refine eI (mR h1) (b:=true) rfl ?_;walk_at"";refine aw ?_;walk_at"";refine iB (aj.of h1) ?_;walk_at"";refine aw ?_;walk_at"";refine az (aj.of h1) (v:=.int m) rfl ?_;walk_at"";refine⟨_,"int",rfl,rfl,?_⟩;refine rd_exb (av ?_);walk_at"";refine az (aj.of h1) (v:=.int m) rfl ?_;walk_at"";rw[Gp m1];refine av ?_;walk_at"";rw[Gp k];refine av ?_;walk_at"";refine az (aj.of h1) (v:=.ref r) rfl ?_;walk_at"";refine az (aj.of h1) (v:=.int m) rfl ?_;walk_at"";exact⟨r,ws,m,rfl,h2,ok,q⟩
inductive jz(K:Fn)(vs:List V)(H:Hp)(Q:VK)(E:XK):Prop|mk:∀v m ws,vs=[v]->bC H v m ws->HOuse m ws->(∀H',Ext H H'->Q .non H')->jz K vs H Q E
abbrev pz:Vl:=stq 32
def uq:FnScope ["thing"] ["thing"] (aH pz):=⟨rfl,rfl,rfl,by decide +kernel,rfl,by decide +kernel,by decide +kernel⟩
def El{P:Vd}{w:Ve}{mg:Vn->Option Va}{base:Vh}(D:Dfn K mg "refuse_no_house" pz ["thing"])(T:Blt mg)(a:Cal P w K mg base "is_house" 5 ["thing"] (j7 K)):Cal P w K mg base "refuse_no_house" 6 ["thing"] (jz K):=by
 have nd:=(uq).nd;refine D.ok uq (λvs H Q E h=>?_) (λX b H vs Q E h=>?_)
 ·obtain⟨p,w,m,rfl,_⟩:=h;rfl
 ·obtain⟨f,cdv,A,outer,s,H0,E0,rfl,c⟩:=b;obtain⟨v,m,ws,rfl,h1,ok,q⟩:=h;refine⟨_,(ao (aZ (bM (aX (ax a c (aa (pv 0) ae)))) (ao i9) aP)),?_⟩;walk_at"";refine⟨v,m,ws,rfl,h1,ok,λH' e=>?_⟩;refine rd_exb (aw ?_);walk_at"";exact q H' e
def fb{xs:List Int}{i:Nat}{v:V}(h:(xs.map V.int)[i]?=Vo v):∃x,v=.int x/\xs[i]?=Vo x:=by
 rw[Fu]at h;cases e:xs[i]? with
 | none=>rw[e]at h;cases h
 | some x=>rw[e]at h;exact⟨x,(F8 h).symm,rfl⟩
def bw{n:Nat}(h:n<=1000000):n<=sizeLine:=FY h (by decide)
def aK{xs:List V}{H:Hp}{o:HO}{Q:VK}(h:∀p H',Ext H H'->H' p=Vo o->H p=Vp->Q (.ref p) H')(a:xs.length<=1000000:=by simp):xs.length<=sizeLine/\eB H o Q:=⟨bw a,bL h⟩
inductive qU(K:Fn)(vs:List V)(H:Hp)(Q:VK)(E:XK):Prop|mk:∀(a:Vb) (ns:List Int) (k:Int),vs=[.ref a,.int k]->ag K H a (ns.map V.int)->ns.length<=63->0<=k->(∀z,Q (.int z) H)->qU K vs H Q E
def sy{ns:List Int}{i:Int}(a:0<=i)(h:i<ns.length):∃z,bF (ns.map V.int) i=Vo (.int z)/\ns[i.toNat]?=Vo z:=by
 have hi:i.toNat<ns.length:=by omega
 refine⟨ns[i.toNat],eD a ?_,Ft hi⟩;rw[Fu,Ft hi];rfl
abbrev oq:Vl:=stq 68
def tu:FnScope ["_law_script","_law_k"] ["_law_script","_law_k"] (aH oq):=⟨rfl,rfl,rfl,by decide +kernel,rfl,by decide +kernel,by decide +kernel⟩
def Cj{P:Vd}{w:Ve}{mg:Vn->Option Va}{base:Vh}(D:Dfn K mg "_law_cell" oq ["_law_script","_law_k"])(T:Blt mg):Cal P w K mg base "_law_cell" 1 ["_law_script","_law_k"] (qU K):=by
 have nd:=(tu).nd;refine D.ok tu (λvs H Q E h=>?_) (λX e H vs Q E h=>?_)
 ·obtain⟨a,ns,k,rfl,_⟩:=h;rfl
 ·obtain⟨f,cdv,A,outer,s,H0,E0,rfl,i⟩:=e;obtain⟨a,ns,k,rfl,ha,j,g,q⟩:=h;refine⟨_,(ai (aZ (aM bH (aU (dh K) rfl T.len_ PySem.boot_len (aa (pv 0) ae)) af (aJ _)) (ao (aB (aq eE af (aq aN (pv 1) af)))) aP)
    (ai (aZ (aM dP (pv 1) (aU (dh K) rfl T.len_ PySem.boot_len (aa (pv 0) ae)) (aJ _)) (ao (aB (ah (aF K) (pv 0) (pv 1) (λ_ _=>rfl)))) aP)
    (ao (aB (aq aN (ah (aF K) (pv 0) (aq bW (pv 1) (aU (dh K) rfl T.len_ PySem.boot_len (aa (pv 0) ae))) (λ_ _=>rfl)) (aq eE af (pv 1))))))),?_⟩
  walk_at"";refine fK ha ?_;walk_at"";rw[Fs];by_cases c:(ns.length:Int)=0
  ·rw[Gp c];refine av ?_;walk_at"";exact q _
  ·rw[Gn c];refine aw ?_;walk_at"";refine fK ha ?_;walk_at"";rw[Fs];by_cases h1:k<ns.length
   ·rw[Gp h1];refine av ?_;obtain⟨z,b,_⟩:=sy g h1;walk_at"";refine aE ha b ?_;exact q _
   ·rw[Gn h1];refine aw ?_;walk_at"";refine fK ha ?_;rw[Fs];have d:(0:Int)<ns.length:=by omega
    refine rd_I d ?_;obtain⟨z,b,_⟩:=sy (ns:=ns) (Int.emod_nonneg k (by omega)) (Int.emod_lt_of_pos k d);refine aE ha b ?_;walk_at"";exact q _
inductive nX(K:Fn)(vs:List V)(H:Hp)(Q:VK)(E:XK):Prop|mk:∀c k p,vs=[.int c,.int k,.int p]->0<=k->k<100000->0<p->(∀z,0<=z->z<p->Q (.int z) H)->nX K vs H Q E
abbrev rF:Vl:=stq 69
def yc:FnScope ["_law_cell_here","_law_k","_law_prime","_law_far"] ["_law_cell_here","_law_k","_law_prime"] (aH rF):=⟨rfl,rfl,rfl,by decide +kernel,rfl,by decide +kernel,by decide +kernel⟩
def A5{P:Vd}{w:Ve}{mg:Vn->Option Va}{base:Vh}(D:Dfn K mg "_law_mixed" rF ["_law_cell_here","_law_k","_law_prime"])(T:Blt mg):Cal P w K mg base "_law_mixed" 1 ["_law_cell_here","_law_k","_law_prime"] (nX K):=by
 have nd:=(yc).nd;refine D.ok yc (λvs H Q E h=>?_) (λX a H vs Q E h=>?_)
 ·obtain⟨c,k,p,rfl,_⟩:=h;rfl
 ·obtain⟨f,cdv,A,outer,s,H0,E0,rfl,e⟩:=a;obtain⟨c,k,p,rfl,g,b,d,q⟩:=h;refine⟨_,(ai (aC (i:=3) nd rfl (Or.inl rfl) (aq bW (aq eE (aq aN (aq aN (aq aN (pv 0) (aq eE (aq eE af (pv 1)) (pv 1))) (aq eE af (pv 1))) af) af) af))
    (ai (aC (i:=3) nd rfl (Or.inl rfl) (aq bW (aq eE (pv 3) (pv 3)) af))
    (ao (aB (aq bW (aq eE (pv 3) af) (pv 2)))))),?_⟩
  walk_at"";exact q _ (Int.emod_nonneg _ (by omega)) (Int.emod_lt_of_pos _ d)
def cA{H H2:Hp}{q:Vb}{o:HO}(e:Ext H H2)(a:H q=Vp):Ext H (upd H2 q o):=λb u hb=>by rw[aG (cQ hb a)];exact e b u hb
inductive fQ(K:Fn)(vs:List V)(H:Hp)(Q:VK)(E:XK):Prop|mk:∀(c:Int) (w:Vb) (ws:List Int) (p:Int),vs=[.int c,.ref w,.int p]->H w=Vo (.lst (ws.map V.int))->(∀x∈ws,0<x/\x<2 ^ 40)->ws.length<=10000->0<p->(∀(q:Vb) (ds:List Int) (H':Hp),Ext H H'->H' q=Vo (.lst (ds.map V.int))->H q=Vp->ds.length=ws.length->(∀(i:Nat) d x,ds[i]?=Vo d->ws[i]?=Vo x->0<=d/\d<x)->Q (.ref q) H')->fQ K vs H Q E
def kE{K:Fn}{H:Hp}{c:Int}{w:Vb}{p:Int}{Q:VK}{xe:XK}(ws:List Int)(h1:H w=Vo (.lst (ws.map V.int)))(h2:∀x∈ws,0<x/\x<2 ^ 40)(a:ws.length<=10000)(b:0<p)
  (k:∀(q:Vb) (ds:List Int) (H':Hp),Ext H H'->H' q=Vo (.lst (ds.map V.int))->H q=Vp->ds.length=ws.length->(∀(i:Nat) d x,ds[i]?=Vo d->ws[i]?=Vo x->0<=d/\d<x)->Q (.ref q) H'):fQ K [.int c,.ref w,.int p] H Q xe:=⟨c,w,ws,p,rfl,h1,h2,a,b,k⟩
abbrev pG:Vl:=stq 70
def sW:FnScope ["_law_cell_here","_law_widths","_law_prime","_law_left","_law_found","_law_k"] ["_law_cell_here","_law_widths","_law_prime"] (aH pG):=⟨rfl,rfl,rfl,by decide +kernel,rfl,by decide +kernel,by decide +kernel⟩
def Bp{P:Vd}{w:Ve}{mg:Vn->Option Va}{base:Vh}(D:Dfn K mg "_law_draws" pG ["_law_cell_here","_law_widths","_law_prime"])(T:Blt mg)(a:Cal P w K mg base "_law_mixed" 1 ["_law_cell_here","_law_k","_law_prime"] (nX K)):Cal P w K mg base "_law_draws" 2 ["_law_cell_here","_law_widths","_law_prime"] (fQ K):=by
 have nd:=(sW).nd;refine D.ok sW (λvs H Q E h=>?_) (λX G H vs Q E h=>?_)
 ·obtain⟨c,w,ws,p,rfl,_⟩:=h;rfl
 ·obtain⟨f,cdv,A,outer,s,H0,E0,rfl,I⟩:=G;obtain⟨c,w,ws,p,rfl,y,r,hlen,J,q⟩:=h;refine⟨_,(ai (aC (i:=3) nd rfl (Or.inl rfl) af)
    (ai (cF (aM iG (pv 0) (aq jv af af) (aJ _)) (ao (aC (i:=3) nd rfl (Or.inl rfl) (aq cG (pv 0) (aq jv af af)))) aP)
    (ai (aC (i:=4) nd rfl (Or.inl rfl) (bo ae))
    (ai (bq PassesOwn.never rfl (cb rfl T.range_ (aa (aU (dh K) rfl T.len_ PySem.boot_len (aa (pv 1) ae)) ae)) (aA (i:=5) nd rfl (Or.inl rfl)) (ao (cF (aM eG (pv 3) af (aJ _)) (ai (bz (bT K Fz FO FP bZ (pv 4) (aa (aq bW (pv 3) (ah (aF K) (pv 1) (pv 5) (λ_ _=>rfl))) ae)))
    (ao (aC (i:=3) nd rfl (Or.inl rfl) (aq lT (pv 3) (ah (aF K) (pv 1) (pv 5) (λ_ _=>rfl)))))) (ao (bz (bT K Fz FO FP bZ (pv 4) (aa (aq bW (ax a I (aa (pv 0) (aa (pv 5) (aa (pv 2) ae)))) (ah (aF K) (pv 1) (pv 5) (λ_ _=>rfl))) ae)))))))
    (ao (aB (pv 4))))))),?_⟩
  walk_at"";refine eZ (λu H'=>H'=H/\∃l,u=[Vo (.int c),Vo (.ref w),Vo (.int p),Vo (.int l),Vp,Vp]) ?_ ?_
  ·walk_at"";refine fP (λh=>?_) (λh=>?_)
   ·walk_at"";exact⟨rfl,_,rfl⟩
   ·walk_at"";exact⟨rfl,_,rfl⟩
  rintro u H' ⟨rfl,l,rfl⟩;walk_at"";refine aK λf H1 F L hfn=>?_;walk_at"";refine fK (ag.of (F _ _ y)) ?_;rw[Fs];walk_at"";refine cj (by omega) ?_;refine forR (λi σ H2=>Ext H' H2/\∃(l:Int) (k:Option V) (ds:List Int),σ=[Vo (.int c),Vo (.ref w),Vo (.int p),Vo (.int l),Vo (.ref f),k]/\H2 f=Vo (.lst (ds.map V.int))/\ds.length=i/\∀(i:Nat) d x,ds[i]?=Vo d->ws[i]?=Vo x->0<=d/\d<x)
   ⟨F,l,Vp,[],rfl,L,rfl,λi d x hd=>by simp at hd⟩ ?_ ?_
  ·rintro i σ H2 hi ⟨g,l,k,ds,rfl,b,e,hb⟩;rw[FF]at hi;have v:ws[i]?=Vo ws[i]:=Ft hi;have R:=r ws[i] (FU hi);have hat:bF (ws.map V.int) (0+(i:Int))=Vo (.int ws[i]):=by rw[Int.zero_add];exact fk (by rw[Fu,v];rfl)
   have next:∀d,0<=d->d<ws[i]->∀(j:Nat) (o x:Int),(ds++[d])[j]?=Vo o->ws[j]?=Vo x->0<=o/\o<x:=λd M h1 j o x m n=>by
    rcases Gf j ds.length with h|h
    ·rw[FT h]at m;exact hb j o x m n
    ·rw[FR h]at m;have B:j-ds.length=0:=by
      rcases Nat.eq_zero_or_pos (j-ds.length)with h|h
      ·exact h
      ·rw[List.getElem?_eq_none (by simp;omega)]at m;cases m
     rw[B]at m;have C:j=i:=by omega
     subst C;rw[v]at n;cases n;have:d=o:=by simpa using m
     rw[←this];exact⟨M,h1⟩
   walk_at"";refine fY ?_;walk_at"";refine fP (λh=>?_) (λh=>?_)
   ·have h':1<l:=by simpa using h
    walk_at"";refine⟨cJ (ag.of b),?_⟩;walk_at"";refine aE (ag.of (g _ _ y)) hat ?_;refine rd_I (show 0<ws[i] by omega) ?_;walk_at"";refine bX b (by rw[Fs];exact Nat.lt_of_le_of_lt (show ds.length<=10000 by omega) (by decide)) ?_;walk_at"";refine aE (ag.of (cA g hfn _ _ y)) hat ?_;refine rd_I (show 0<ws[i]/\ws[i]<2 ^ 64 by omega) ?_;walk_at"";refine⟨cA g hfn,_,_,ds++[l % ws[i]],rfl,?_,by rw[FK,e];rfl,next _ (Int.emod_nonneg _ (by omega)) (Int.emod_lt_of_pos _ (by omega))⟩;rw[aI,FJ];rfl
   ·walk_at"";refine⟨cJ (ag.of b),?_⟩;walk_at"";refine⟨c,0+(i:Int),p,rfl,by omega,by omega,J,λz N O=>?_⟩;walk_at"";refine aE (ag.of (g _ _ y)) hat ?_;refine rd_I (show 0<ws[i] by omega) ?_;walk_at"";refine bX b (by rw[Fs];exact Nat.lt_of_le_of_lt (show ds.length<=10000 by omega) (by decide)) ?_;walk_at"";refine⟨cA g hfn,_,_,ds++[z % ws[i]],rfl,?_,by rw[FK,e];rfl,next _ (Int.emod_nonneg _ (by omega)) (Int.emod_lt_of_pos _ (by omega))⟩;rw[aI,FJ];rfl
  ·rintro σ H2 ⟨g,l,k,ds,rfl,b,e,hb⟩;walk_at"";exact q f ds H2 g b hfn (by rw[e,FF]) hb
inductive qP(K:Fn)(vs:List V)(H:Hp)(Q:VK)(E:XK):Prop|mk:∀c w,vs=[.int c,.int w]->0<w->w<2 ^ 64->(∀z,Q (.int z) H)->qP K vs H Q E
abbrev mU:Vl:=stq 71
def rQ:FnScope ["_law_cell_here","_law_width"] ["_law_cell_here","_law_width"] (aH mU):=⟨rfl,rfl,rfl,by decide +kernel,rfl,by decide +kernel,by decide +kernel⟩
def CU{P:Vd}{w:Ve}{mg:Vn->Option Va}{base:Vh}(D:Dfn K mg "_law_spare" mU ["_law_cell_here","_law_width"])(T:Blt mg):Cal P w K mg base "_law_spare" 1 ["_law_cell_here","_law_width"] (qP K):=by
 have nd:=(rQ).nd;refine D.ok rQ (λvs H Q E h=>?_) (λX a H vs Q E h=>?_)
 ·obtain⟨c,w,rfl,_⟩:=h;rfl
 ·obtain⟨f,cdv,A,outer,s,H0,E0,rfl,b⟩:=a;obtain⟨c,w,rfl,h1,h2,q⟩:=h;refine⟨_,(ai (aZ (aM iG (pv 0) (aq jv af af) (aJ _)) (ao (aB (aq aN (aq lT (aq cG (pv 0) (aq jv af af)) (pv 1)) (aq jv af af)))) aP)
    (ao (aB (aq aN (pv 0) af)))),?_⟩
  walk_at"";refine fP (λh=>?_) (λh=>?_)
  ·walk_at"";exact q _
  ·walk_at"";exact q _
def aQ(H:Hp)(bs:List Vb)(ws:List Way):Prop:=bs.length=ws.length/\∀(j:Nat) (b:Vb) (w:Way),bs[j]?=Vo b->ws[j]?=Vo w->H b=Vo (.tup w.vs)
def aQ.ext{H H':Hp}{bs:List Vb}{ws:List Way}(e:Ext H H')(h:aQ H bs ws):aQ H' bs ws:=⟨h.1,λj b w a c=>e _ _ (h.2 j b w a c)⟩
def aQ.put{H:Hp}{f:Vb}{xs ys:List V}{bs:List Vb}{ws:List Way}(a:H f=Vo (.lst xs))(h:aQ H bs ws):aQ (upd H f (.lst ys)) bs ws:=⟨h.1,λj b w c d=>by have:=h.2 j b w c d;rw[aG (dM this a (by intro z;cases z))];exact this⟩
def aQ.nil(H:Hp):aQ H [] []:=⟨rfl,λj b w e=>by simp at e⟩
def aQ.snoc{H:Hp}{bs:List Vb}{ws:List Way}{b:Vb}{w:Way}(h:aQ H bs ws)(hb:H b=Vo (.tup w.vs)):aQ H (bs++[b]) (ws++[w]):=by
 refine⟨by simp[h.1],λj g i a c=>?_⟩;rcases Gf j bs.length with d|d
 ·rw[FT d]at a;rw[FT (by rw[←h.1];exact d)]at c;exact h.2 j g i a c
 ·rw[FR d]at a;rw[FR (by rw[←h.1];exact d),←h.1]at c;cases e:j-bs.length with
  | zero=>
   rw[e]at a c;cases a;cases c;exact hb
  | succ k=>rw[e]at a;simp at a
def aQ.ways{H:Hp}{p:Vb}{bs:List Vb}{ws:List Way}(h:aQ H bs ws)(c:H p=Vo (.tup (bs.map V.ref))):b9 H p (ws.map Way.key):=
 ⟨bs,c,by rw[Fs];exact h.1,λj b k d a=>by rw[Fu]at a;obtain⟨w,e,rfl⟩:=FE.mp a;exact h.2 j b w d e⟩
def b9.al{H:Hp}{p:Vb}{ws:List Way}(h:b9 H p (ws.map Way.key)):∃bs:List Vb,H p=Vo (.tup (bs.map V.ref))/\aQ H bs ws:=by obtain⟨bs,h1,h2,a⟩:=h;rw[Fs]at h2;exact⟨bs,h1,h2,λj b w c d=>b9.item a c d⟩
abbrev Way.D(w:Way):PyData:=.tuple [.int w.room,.str w.deed,.int w.other,.str w.sign]
structure Way.Lay(w:Way):Prop where
 d:(PyData.str w.deed).canLay0=true
 s:(PyData.str w.sign).canLay0=true
def Cr:∀c:Fin 123,97<=c.1->(PyData.str ⟨#[c.1]⟩).canLay0=true:=by decide +kernel
def Way.Ok.lay{m:Int}{w:Way}(h:w.Ok m):w.Lay:=by
 constructor
 ·rcases h.dd with e|e|e|e<;>rw[e]<;>decide +kernel
 ·obtain⟨c,h1,h2,e⟩:=h.sg;rw[e];exact Cr ⟨c,Nat.lt_succ_of_le h2⟩ h1
def Way.rep{H:Hp}{b:Vb}{w:Way}(h:H b=Vo (.tup w.vs))(l:w.Lay):aW H 1 (.ref b) w.D:=
 .inr ⟨b,w.vs,_,rfl,.inl ⟨h,rfl⟩,.cons rfl (.cons ⟨rfl,l.d⟩ (.cons rfl (.cons ⟨rfl,l.s⟩ .nil)))⟩
theorem Way.eqv(w u:Way):PyData.eqv w.D u.D=decide (w=u):=by
 simp only[PyData.eqv,PyData.eqvAll];by_cases h:w=u
 ·subst h;simp
 ·rw[Gn h];obtain⟨a,b,c,d⟩:=w;obtain⟨g,i,c',j⟩:=u;simp only[Way.mk.injEq,not_and]at h;simp only[Bool.and_true,Bool.and_eq_false_iff,beq_eq_false_iff_ne];by_cases h1:a=g
  ·by_cases h2:b=i
   ·by_cases e:c=c'
    ·exact .inr (.inr (.inr (h h1 h2 e)))
    ·exact .inr (.inr (.inl e))
   ·exact .inr (.inl h2)
  ·exact .inl h1
theorem aQ.reps{H:Hp}:∀{bs:List Vb} {ws:List Way},aQ H bs ws->(∀w∈ws,w.Lay)->Paired (aW H 1) (bs.map V.ref) (ws.map Way.D)
 | [],[],_,_=>.nil
 | [],_::_,h,_=>by cases h.1
 | _::_,[],h,_=>by cases h.1
 | b::bs,w::ws,h,l=>.cons (Way.rep (h.2 0 b w rfl rfl) (l w Fy)) (aQ.reps ⟨Nat.succ.inj h.1,λj b w a c=>h.2 (j+1) b w a c⟩ λu d=>l u (Fv _ d))
def DU(ws:List Way)(w:Way):((ws.map Way.D).any λe=>PyData.eqv e w.D)=decide (w∈ws):=by
 rw[List.any_map];induction ws with
 | nil=>rfl
 | cons u ws a=>
  rw[List.any_cons,a,Function.comp_apply,Way.eqv];by_cases h:w∈ws
  ·simp[h]
  ·by_cases e:u=w
   ·simp[e]
   ·have:¬w=u:=λz=>e z.symm;simp[h,e,this]
inductive lg(K:Fn)(vs:List V)(H:Hp)(Q:VK)(E:XK):Prop|mk:∀l bs ws,vs=[.ref l]->H l=Vo (.lst (bs.map V.ref))->aQ H bs ws->(∀w∈ws,Way.Lay w)->ws.length<=200->(∀q H' us,Ext H H'->b9 H' q (List.map Way.key us)->us.Nodup->(∀u∈us,u∈ws)->us.length<=ws.length->Q (.ref q) H')->lg K vs H Q E
abbrev qg:Vl:=stq 72
def xl:FnScope ["_law_ways","_law_found","_law_way"] ["_law_ways"] (aH qg):=⟨rfl,rfl,rfl,by decide +kernel,rfl,by decide +kernel,by decide +kernel⟩
def B8{P:Vd}{w:Ve}{mg:Vn->Option Va}{base:Vh}(D:Dfn K mg "_law_unlike" qg ["_law_ways"])(T:Blt mg):Cal P w K mg base "_law_unlike" 1 ["_law_ways"] (lg K):=by
 have nd:=(xl).nd;refine D.ok xl (λvs H Q E h=>?_) (λX G H vs Q E h=>?_)
 ·obtain⟨l,bs,ws,rfl,_⟩:=h;rfl
 ·obtain⟨f,cdv,A,outer,s,H0,E0,rfl,I⟩:=G;obtain⟨l,bs,ws,rfl,y,al,lay,hlen,q⟩:=h;refine⟨_,(ai (aC (i:=1) nd rfl (Or.inl rfl) (bo ae))
    (ai (bq PassesOwn.never rfl (bP K (pv 0)) (aA (i:=2) nd rfl (Or.inl rfl)) (ao (cF (aM (uS I) (pv 2) (pv 1) (by with_unfolding_all rfl)) (ao (bz (bT K Fz FO FP bZ (pv 1) (aa (pv 2) ae)))) aP)))
    (ao (aB (dQ (fA K) rfl T.tuple_ PyProof.Rows.boot_tuple (aa (pv 1) ae)))))),?_⟩
  walk_at"";refine aK λf H1 B J hfn=>?_;walk_at"";refine bN (ag.of (B _ _ y)) ?_;refine forL (xs:=bs.map V.ref) (λi σ H2=>Ext H H2/\∃(k:Option V) (cs:List Vb) (us:List Way),σ=[Vo (.ref l),Vo (.ref f),k]/\H2 f=Vo (.lst (cs.map V.ref))/\aQ H2 cs us/\us.Nodup/\(∀u∈us,u∈ws)/\us.length<=i)
   ⟨B,Vp,[],[],rfl,J,aQ.nil _,List.nodup_nil,λu j=>by simp at j,FN _⟩ (λi σ H2 _ h=>ag.of (h.1 _ _ y)) ?_ ?_
  ·rintro i x σ H2 C ⟨o,k,cs,us,rfl,d,e,m,sub2,g⟩;rw[Fu]at C;obtain⟨b,hb,rfl⟩:=FE.mp C;have hi:i<ws.length:=by rw[←al.1];exact(FA.mp hb).1
   have r:ws[i]?=Vo ws[i]:=Ft hi;have n:=o _ _ (al.2 i b _ hb r);walk_at"";refine fY ?_;walk_at"";refine vI (Way.rep n (lay _ (FU hi))) d (e.reps λu j=>lay u (sub2 u j)) (by decide) ?_;simp only[if_true,DU];refine rd_exb ?_;by_cases v:ws[i]∈us
   ·rw[Gp v];refine aw ?_;walk_at"";exact⟨o,_,cs,us,rfl,d,e,m,sub2,by omega⟩
   ·rw[Gn v];refine av ?_;walk_at"";refine⟨cJ (ag.of d),?_⟩;walk_at"";refine bX d (by rw[Fs,e.1];exact Nat.lt_of_le_of_lt (show us.length<=1000 by omega) (by decide)) ?_;walk_at"";refine⟨cA o hfn,_,cs++[b],us++[ws[i]],rfl,by rw[aI,FJ];rfl,(e.put d).snoc ?_,?_,?_,by simp;omega⟩
    ·rw[aG (dM n d (by intro z;cases z))];exact n
    ·rw[List.nodup_append];exact⟨m,by simp,λa ha c L=>by rw[FD.mp L];exact λz=>v (z ▸ ha)⟩
    ·intro u j;rcases FQ.mp j with j|j
     ·exact sub2 u j
     ·rw[FD.mp j];exact FU hi
  ·rintro σ H2 ⟨o,k,cs,us,rfl,d,e,m,sub2,g⟩;walk_at"";refine fG (ag.of d) (bL λp M F N _=>?_);exact q p M us (o.trans F) ((e.ext F).ways N) m sub2 (by rw[Fs,al.1]at g;exact g)
def lG(z:Vn):Prop:=∃c:Nat,97<=c/\c<=99/\z=⟨#[c]⟩
structure Way.Ok3(m:Int)(w:Way):Prop where
 r0:0<=w.room
 r1:w.room<m
 o0:0<=w.other
 o1:w.other<m
 dd:cx w.deed
 sg:lG w.sign
structure HOuse3(m:Int)(ws:List Way):Prop where
 m1:1<=m
 m12:m<=12
 few:ws.length<=100
 ok:∀w∈ws,w.Ok3 m
 nd:ws.Nodup
def Way.Ok3.ok{m:Int}{w:Way}(h:w.Ok3 m):w.Ok m:=by obtain⟨c,h1,h2,a⟩:=h.sg;exact⟨h.r0,h.r1,h.o0,h.o1,h.dd,c,h1,by omega,a⟩
theorem Way.Ok3.lay{m:Int}{w:Way}(h:w.Ok3 m):w.Lay:=h.ok.lay
def HOuse3.house{m:Int}{ws:List Way}(h:HOuse3 m ws):HOuse m ws:=⟨h.m1,h.m12,h.few,λw a=>(h.ok w a).ok,h.nd⟩
def Cy{ds:List Int}{i:Nat}(h:i+4<=ds.length):∃a b c d,dO (ds.map V.int) (some (i:Int)) (some ((i+4:Nat):Int))=[.int a,.int b,.int c,.int d]/\ds[i]?=some a/\ds[i+1]?=some b/\ds[i+2]?=some c/\ds[i+3]?=some d:=by refine⟨ds[i],ds[i+1],ds[i+2],ds[i+3],?_,Ft _,Ft _,Ft _,Ft _⟩;unfold dO;rw[HT.uL,HT.uL,Fs,Nat.min_eq_left (by omega),Nat.min_eq_left (by omega),show i+4-i=4 by omega,←List.map_drop,←List.map_take];rw[List.drop_eq_getElem_cons (show i<ds.length by omega),List.drop_eq_getElem_cons (show i+1<ds.length by omega),List.drop_eq_getElem_cons (show i+1+1<ds.length by omega),List.drop_eq_getElem_cons (show i+1+1+1<ds.length by omega)];rfl
def fJ:List Int:=[8,12,13,31]++(Gb 30 ([12,6,12,3]:List Int)).flatten
def Cm{k:Nat}(h:k<30):fJ[4+4*k]?=Vo 12/\fJ[4+4*k+1]?=Vo 6/\fJ[4+4*k+2]?=Vo 12/\fJ[4+4*k+3]?=Vo 3:=by
 have:∀k:Fin 30,fJ[4+4*k.val]?=Vo 12/\fJ[4+4*k.val+1]?=Vo 6/\fJ[4+4*k.val+2]?=Vo 12/\fJ[4+4*k.val+3]?=Vo 3:=by decide +kernel
 exact this ⟨k,h⟩
inductive n8(K:Fn)(vs:List V)(H:Hp)(Q:VK)(E:XK):Prop|mk:∀c p,vs=[.int c,.int p]->0<p->(∀v m ws H',Ext H H'->bC H' v m ws->HOuse3 m ws->Q v H')->n8 K vs H Q E
def Ds{e:Int}(a:0<=e)(h1:e<6):∃z,bF ([.str "up",.str "down",.str "stay",.str "zero",.str "up",.str "down"]:List V) e=Vo (.str z)/\cx z:=by
 have:e=0\/e=1\/e=2\/e=3\/e=4\/e=5:=by omega
 rcases this with rfl|rfl|rfl|rfl|rfl|rfl
 ·exact⟨_,rfl,.inl rfl⟩
 ·exact⟨_,rfl,.inr (.inl rfl)⟩
 ·exact⟨_,rfl,.inr (.inr (.inl rfl))⟩
 ·exact⟨_,rfl,.inr (.inr (.inr rfl))⟩
 ·exact⟨_,rfl,.inl rfl⟩
 ·exact⟨_,rfl,.inr (.inl rfl)⟩
def AJ:(F7 "abc").cps.toList=[97,98,99]:=by decide +kernel
def DC{e:Int}(a:0<=e)(h1:e<3):∃c,bF (F7 "abc").cps.toList e=Vo c/\97<=c/\c<=99:=by
 rw[AJ];have:e=0\/e=1\/e=2:=by omega
 rcases this with rfl|rfl|rfl
 ·exact⟨97,rfl,by decide,by decide⟩
 ·exact⟨98,rfl,by decide,by decide⟩
 ·exact⟨99,rfl,by decide,by decide⟩
def EO{e:Int}(b:0<=e)(h1:e<8):∃w:Int,bF (([4,4,4,5,3,2,5,12]:List Int).map V.int) e=Vo (.int w)/\1<=w/\w<=12:=by
 obtain⟨n,rfl⟩:=Int.eq_ofNat_of_zero_le b;have a:n<8:=Int.ofNat_lt.mp h1;have key:∀i:Fin 8,1<=([4,4,4,5,3,2,5,12]:List Int)[i]/\([4,4,4,5,3,2,5,12]:List Int)[i]<=12:=by decide
 exact⟨([4,4,4,5,3,2,5,12]:List Int)[n],fk (by rw[Fu,Ft a];rfl),key ⟨n,a⟩⟩
def bC.mk{H:Hp}{p q:Vb}{m:Int}{ws:List Way}(h1:H p=Vo (.tup [.int m,.ref q]))(h2:b9 H q (ws.map Way.key)):bC H (.ref p) m ws:=⟨p,q,rfl,h1,h2⟩
abbrev oR:Vl:=stq 73
def rO:FnScope ["_law_cell_here","_law_prime","_law_draws_here","_law_many","_law_often","_law_ways","_law_k","_law_room","_law_deed","_law_other","_law_sign","_law_word"] ["_law_cell_here","_law_prime"] (aH oR):=⟨rfl,rfl,rfl,by decide +kernel,rfl,by decide +kernel,by decide +kernel⟩
def DP{P:Vd}{w:Ve}{mg:Vn->Option Va}{base:Vh}(D:Dfn K mg "_law_drawn_house" oR ["_law_cell_here","_law_prime"])(T:Blt mg)(e:Cal P w K mg base "_law_unlike" 1 ["_law_ways"] (lg K))(g:Cal P w K mg base "_law_draws" 2 ["_law_cell_here","_law_widths","_law_prime"] (fQ K)):Cal P w K mg base "_law_drawn_house" 3 ["_law_cell_here","_law_prime"] (n8 K):=by
 have nd:=(rO).nd;refine D.ok rO (λvs H Q E h=>?_) (λX hX H vs Q E h=>?_)
 ·obtain⟨c,p,rfl,_⟩:=h;rfl
 ·obtain⟨f,cdv,A,outer,s,H0,E0,rfl,hr⟩:=hX;obtain⟨c,p,rfl,hp,q⟩:=h;refine⟨_,(@ai _ _ _ _ _ (@aC _ _ 2 _ _ _ _ nd rfl (Or.inl rfl) (ax g hr (@aa _ _ _ _ _ (pv 0) (@aa _ _ _ _ _ (aq lY (@bo _ _ _ _ (gR (.c (.c (.c (.c .n)))))) (aq iZ (@bo _ _ _ _ (gR (.c (.c (.c (.c .n)))))) af)) (@aa _ _ _ _ _ (pv 1) ae rfl) rfl) rfl)) rfl (Or.inl rfl))
    (@ai _ _ _ _ _ (@aC _ _ 3 _ _ _ _ nd rfl (Or.inl rfl) (aq aN af (aq bW (@ah _ _ _ _ _ _ _ (aF K) (pv 2) af (λ_ _=>rfl)) (@ah _ _ _ _ _ _ _ (aF K) (@bo _ _ _ _ (gR (.c (.c (.c (.c (.c (.c (.c (.c .n)))))))))) (@ah _ _ _ _ _ _ _ (aF K) (pv 2) af (λ_ _=>rfl)) (λ_ _=>rfl)))) rfl (Or.inl rfl))
    (@ai _ _ _ _ _ (@aC _ _ 4 _ _ _ _ nd rfl (Or.inl rfl) (@ah _ _ _ _ _ _ _ (aF K) (pv 2) af (λ_ _=>rfl)) rfl (Or.inl rfl))
    (@ai _ _ _ _ _ (cF (aM bH (@ah _ _ _ _ _ _ _ (aF K) (pv 2) af (λ_ _=>rfl)) af (aJ _)) (@ao _ _ _ (@aC _ _ 4 _ _ _ _ nd rfl (Or.inl rfl) (@ah _ _ _ _ _ _ _ (aF K) (pv 2) af (λ_ _=>rfl)) rfl (Or.inl rfl))) aP)
    (@ai _ _ _ _ _ (@aC _ _ 5 _ _ _ _ nd rfl (Or.inl rfl) (@bo _ _ _ _ ae) rfl (Or.inl rfl))
    (@ai _ _ _ _ _ (bq PassesOwn.never rfl (cb rfl T.range_ (@aa _ _ _ _ _ (pv 4) ae rfl)) (aA (i:=6) nd rfl (Or.inl rfl)) (@ai _ _ _ _ _ (@dE _ _ _ _ _ _ (gM (hJ K) (pv 2) (f7 (aq aN af (aq eE af (pv 6)))) (f7 (aq aN af (aq eE af (pv 6))))) (Ed (n:=4) K rfl (bp (aA (i:=7) nd rfl (Or.inl rfl)) (bp (aA (i:=8) nd rfl (Or.inl rfl)) (bp (aA (i:=9) nd rfl (Or.inl rfl)) (bp (aA (i:=10) nd rfl (Or.inl rfl)) dC))))) rfl rfl rfl)
    (@ai _ _ _ _ _ (@aC _ _ 11 _ _ _ _ nd rfl (Or.inl rfl) (@ah _ _ _ _ _ _ _ (aF K) (@bo _ _ _ _ (@aa _ _ _ _ _ aR (@aa _ _ _ _ _ aR (@aa _ _ _ _ _ aR (@aa _ _ _ _ _ aR (@aa _ _ _ _ _ aR (@aa _ _ _ _ _ aR ae rfl) rfl) rfl) rfl) rfl) rfl)) (pv 8) (λ_ _=>rfl)) rfl (Or.inl rfl))
    (@ao _ _ _ (bz (bT K Fz FO FP bZ (pv 5) (@aa _ _ _ _ _ (@bf _ _ _ _ _ (@aa _ _ _ _ _ (aq bW (pv 7) (pv 3)) (@aa _ _ _ _ _ (pv 11) (@aa _ _ _ _ _ (aq bW (pv 9) (pv 3)) (@aa _ _ _ _ _ (@ah _ _ _ _ _ _ _ uX aR (pv 10) (λ_ _=>rfl)) ae rfl) rfl) rfl) rfl)) ae rfl)))))))
    (@ao _ _ _ (@aB _ _ _ _ (@bf _ _ _ _ _ (@aa _ _ _ _ _ (pv 3) (@aa _ _ _ _ _ (ax e hr (@aa _ _ _ _ _ (pv 5) ae rfl)) ae rfl) rfl)))))))))),?_⟩
  walk_at"";refine aK λw0 G1 f1 a0 _=>?_;walk_at"";refine aK λw1 G2 f2 a1 _=>?_;walk_at"";refine iH a1 (by omega) (bw (by decide)) (bL λw2 G3 f3 a2 _=>?_);walk_at"";refine ni (f3 _ _ (f2 _ _ a0)) a2 (bw (by decide)) (bL λw3 G4 f4 a3 _=>?_);walk_at"";refine kE fJ a3 (by decide +kernel) (by decide +kernel) (hp) λdq ds H1 e1 hd an hl hb=>?_;have eH:Ext H H1:=f1.trans (f2.trans (f3.trans (f4.trans e1)));have ap:ds.length=124:=hl;have at_:∀(i:Nat) (x:Int),fJ[i]?=Vo x->∃d,ds[i]?=Vo d/\0<=d/\d<x:=λi x hx=>by
   have hi:i<ds.length:=by rw[hl];exact(FA.mp hx).1
   exact⟨ds[i],Ft hi,hb i _ x (Ft hi) hx⟩
  obtain⟨d0,g0,C,F⟩:=at_ 0 8 rfl;obtain⟨d1,g1,a4,a5⟩:=at_ 1 12 rfl;obtain⟨d2,g2,G,a6⟩:=at_ 2 13 rfl;obtain⟨d3,g3,I,a7⟩:=at_ 3 31 rfl;have pick:∀{i:Nat} {d:Int},ds[i]?=Vo d->bF (ds.map V.int) (i:Int)=Vo (.int d):=λ{i d} h=>fk (by rw[Fu,h];rfl);walk_at"";refine aE (ag.of hd) (pick (i:=1) g1) ?_;walk_at"";refine aK λmq H2 Y a8 _=>?_;walk_at"";refine aE (ag.of (Y _ _ hd)) (pick (i:=0) g0) ?_;obtain⟨w,hw,J,L⟩:=EO C F;refine aE (ag.of a8) hw ?_
  try refine rd_I (show(0:Int)<w by omega) ?_
  walk_at"";have r0:0<=d1 % w:=Int.emod_nonneg _ (by omega);have r1:d1 % w<w:=Int.emod_lt_of_pos _ (by omega);obtain⟨m,hm,m1,m2⟩:∃m,1+d1 % w=m/\1<=m/\m<=12:=⟨_,rfl,by omega,by omega⟩;rw[hm];refine aE (ag.of (Y _ _ hd)) (pick (i:=2) g2) ?_;walk_at"";have a9:Ext H H2:=eH.trans Y;have k:=Y _ _ hd;refine eZ (λM H'=>H'=H2/\∃o:Nat,o<=30/\M=[Vo (.int c),Vo (.int p),Vo (.ref dq),Vo (.int m),Vo (.int o),Vp,Vp,Vp,Vp,Vp,Vp,Vp]) ?_ ?_
  ·walk_at"";refine aE (ag.of k) (pick (i:=0) g0) ?_;walk_at"";refine fP (λh=>?_) (λh=>?_)
   ·walk_at"";refine aE (ag.of k) (pick (i:=3) g3) ?_;walk_at"";exact⟨rfl,d3.toNat,by omega,by rw[FG I];rfl⟩
   ·walk_at"";exact⟨rfl,d2.toNat,by omega,by rw[FG G];rfl⟩
  rintro M H' ⟨rfl,o,ho,rfl⟩;clear hw J L r0 r1 C F a4 a5 G a6 I a7;walk_at"";refine aK λf H3 e3 hf hfn=>?_;walk_at"";refine cj (by omega) ?_;refine forR (λi σ N=>Ext H' N/\∃(k1 k2 k3 k4 k5 k6:Option V) (cs:List Vb) (us:List Way),σ=[Vo (.int c),Vo (.int p),Vo (.ref dq),Vo (.int m),Vo (.int o),Vo (.ref f),k1,k2,k3,k4,k5,k6]/\N f=Vo (.lst (cs.map V.ref))/\aQ N cs us/\(∀u∈us,u.Ok3 m)/\us.length=i)
   ⟨e3,Vp,Vp,Vp,Vp,Vp,Vp,[],[],rfl,hf,aQ.nil _,λu j=>by simp at j,rfl⟩ ?_ ?_
  ·rintro i σ N hi ⟨Z,k1,k2,k3,k4,k5,k6,cs,us,rfl,l,al,ok,len⟩;rw[FF]at hi;have O:i<30:=by omega
   obtain⟨a,b,c',d,R,ga,gb,gc,gd⟩:=Cy (ds:=ds) (i:=4+4*i) (by omega);obtain⟨y0,y1,y2,y3⟩:=Cm O;have ba:=hb _ _ _ ga y0;have bb:=hb _ _ _ gb y1;have bc:=hb _ _ _ gc y2;have bd:=hb _ _ _ gd y3;have ab:=Z _ _ k;walk_at"";refine ia (ag.of ab) (bL λt H5 S ht ar=>?_);rw[show (4:Int)+4*(0+(i:Int))=((4+4*i:Nat):Int) by omega,show (8:Int)+4*(0+(i:Int))=((4+4*i+4:Nat):Int) by omega,R]at ht;walk_at"";refine DF (ag.of ht) rfl ?_;walk_at"";refine aK λu1 H6 B ac _=>?_;walk_at"";obtain⟨z,hz,ad⟩:=Ds bb.1 bb.2;refine aE (ag.of ac) hz ?_;walk_at"";have U:=B _ _ (S _ _ l);refine⟨cJ (ag.of U),?_⟩;walk_at""
   try refine rd_I (show(0:Int)<m by omega) ?_
   walk_at""
   try refine rd_I (show(0:Int)<m by omega) ?_
   walk_at"";obtain⟨s,hs,s1,s2⟩:=DC bd.1 bd.2;refine⟨_,_,s,rfl,rfl,dy (by decide +kernel),hs,?_⟩;walk_at"";refine aK λv H7 e7 hv _=>?_;have y:=e7 _ _ U;walk_at"";refine bX y (by rw[Fs,al.1,len];exact Nat.lt_of_le_of_lt (show i<=1000 by omega) (by decide)) ?_;walk_at"";have ak:aQ H7 cs us:=((al.ext S).ext B).ext e7;have W:H7 v=Vo (.tup (Way.vs ⟨a % m,z,c' % m,⟨#[s]⟩⟩)):=hv;refine⟨cA (Z.trans (S.trans (B.trans e7))) hfn,_,_,_,_,_,_,cs++[v],us++[⟨a % m,z,c' % m,⟨#[s]⟩⟩],rfl,by rw[aI,FJ];rfl,(ak.put y).snoc ?_,?_,by simp[len]⟩
   ·rw[aG (dM W y (by intro z;cases z))];exact W
   ·intro u j;rcases FQ.mp j with j|j
    ·exact ok u j
    ·rw[FD.mp j];exact⟨Int.emod_nonneg _ (by omega),Int.emod_lt_of_pos _ (by omega),Int.emod_nonneg _ (by omega),Int.emod_lt_of_pos _ (by omega),ad,s,s1,s2,rfl⟩
  ·rintro σ N ⟨Z,k1,k2,k3,k4,k5,k6,cs,us,rfl,l,al,ok,len⟩;rw[FF]at len;walk_at"";refine⟨f,cs,us,rfl,l,al,λu j=>(ok u j).lay,by omega,λr H5 ws S am nd sub ln=>?_⟩;walk_at"";refine aK λt H6 B ht _=>?_;exact q _ m ws H6 (a9.trans (Z.trans (S.trans B))) (bC.mk ht (am.ext B)) ⟨m1,m2,by omega,λu j=>ok u (sub u j),nd⟩
structure WL(H0 H:Hp)(f:Vb)(us:List Way):Prop where
 ext:Ext H0 H
 at_:∃cs:List Vb,H f=Vo (.lst (cs.map V.ref))/\aQ H cs us
theorem WL.nil{H0 H:Hp}{f:Vb}(e:Ext H0 H)(a:H f=Vo (.lst [])):WL H0 H f []:=⟨e,[],a,aQ.nil _⟩
def WL.push{H0 H H1:Hp}{f v:Vb}{us:List Way}{w:Way}(h:WL H0 H f us)(hfn:H0 f=Vp)(e:Ext H H1)(b:H1 v=Vo (.tup w.vs)):
  ∃xs,H1 f=Vo (.lst xs)/\xs.length=us.length/\WL H0 (upd H1 f (.lst (xs++[.ref v]))) f (us++[w]):=by
 obtain⟨c,cs,d,al⟩:=h;have a:=e _ _ d;refine⟨cs.map V.ref,a,by rw[Fs];exact al.1,cA (c.trans e) hfn,cs++[v],by rw[aI,FJ];rfl,((al.ext e).put a).snoc ?_⟩;rw[aG (dM b a (by intro z;cases z))];exact b
def WL.ty{K:Fn}{H0 H H1:Hp}{f:Vb}{us:List Way}(h:WL H0 H f us)(e:Ext H H1):iw K "list" (.ref f) H1:=by obtain⟨_,cs,a,al⟩:=h;exact cJ (ag.of (e _ _ a))
def kC:lG "a":=⟨97,by decide,by decide,by decide +kernel⟩
def jI:lG "b":=⟨98,by decide,by decide,by decide +kernel⟩
def mI:lG "c":=⟨99,by decide,by decide,by decide +kernel⟩
def jw:cx "up":=.inl rfl
def ly:cx "down":=.inr (.inl rfl)
def gZ:cx "stay":=.inr (.inr (.inl rfl))
def j3:cx "zero":=.inr (.inr (.inr rfl))
def fi{n:Nat}(h:n<=1000):n<sizeLine:=Nat.lt_of_le_of_lt h (by decide)
def j5{a b:V}{e:Int}(c:0<=e)(h1:e<2):∃v,bF [a,b] e=Vo v/\(v=a\/v=b):=by
 have:e=0\/e=1:=by omega
 rcases this with rfl|rfl
 ·exact⟨a,rfl,.inl rfl⟩
 ·exact⟨b,rfl,.inr rfl⟩
def fo{m:Int}{us:List Way}{w:Way}(h:∀u∈us,u.Ok3 m)(b:w.Ok3 m):∀u∈us++[w],u.Ok3 m:=λu a=>by
 rcases FQ.mp a with a|a
 ·exact h u a
 ·rw[FD.mp a];exact b
def AW:(F7 "ab").cps.toList=[97,98]:=by decide +kernel
def CK{e:Int}(a:0<=e)(h1:e<2):∃c,bF (F7 "ab").cps.toList e=Vo c/\97<=c/\c<=99:=by
 rw[AW];have:e=0\/e=1:=by omega
 rcases this with rfl|rfl
 ·exact⟨97,rfl,by decide,by decide⟩
 ·exact⟨98,rfl,by decide,by decide⟩
def bO{ws ds:List Int}(b:ds.length=ws.length)(hb:∀(i:Nat) (d x:Int),ds[i]?=Vo d->ws[i]?=Vo x->0<=d/\d<x)(i:Nat){x:Int}(a:ws[i]?=Vo x):∃d,bF (ds.map V.int) (i:Int)=Vo (.int d)/\0<=d/\d<x:=by
 have hi:i<ds.length:=by rw[b];exact(FA.mp a).1
 have g:ds[i]?=Vo ds[i]:=Ft hi;exact⟨ds[i],fk (by rw[Fu,g];rfl),hb i _ x g a⟩
inductive qT(K:Fn)(vs:List V)(H:Hp)(Q:VK)(E:XK):Prop|mk:∀c p,vs=[.int c,.int p]->0<p->(∀v m ws H',Ext H H'->bC H' v m ws->HOuse3 m ws->Q v H')->qT K vs H Q E
abbrev pV:Vl:=stq 75
def xC:FnScope ["_law_cell_here","_law_prime","_law_draws_here","_law_up","_law_down","_law_many","_law_ways","_law_k"] ["_law_cell_here","_law_prime"] (aH pV):=⟨rfl,rfl,rfl,by decide +kernel,rfl,by decide +kernel,by decide +kernel⟩
def AK{P:Vd}{w:Ve}{mg:Vn->Option Va}{base:Vh}(D:Dfn K mg "_law_gate_house" pV ["_law_cell_here","_law_prime"])(T:Blt mg)(d:Cal P w K mg base "_law_unlike" 1 ["_law_ways"] (lg K))(g:Cal P w K mg base "_law_draws" 2 ["_law_cell_here","_law_widths","_law_prime"] (fQ K)):Cal P w K mg base "_law_gate_house" 3 ["_law_cell_here","_law_prime"] (qT K):=by
 have nd:=(xC).nd;refine D.ok xC (λvs H Q E h=>?_) (λX hX H vs Q E h=>?_)
 ·obtain⟨c,p,rfl,_⟩:=h;rfl
 ·obtain⟨f,cdv,A,outer,s,H0,E0,rfl,hr⟩:=hX;obtain⟨c,p,rfl,hp,q⟩:=h;refine⟨_,(@ai _ _ _ _ _ (@aC _ _ 2 _ _ _ _ nd rfl (Or.inl rfl) (ax g hr (@aa _ _ _ _ _ (pv 0) (@aa _ _ _ _ _ (@bo _ _ _ _ (gR (.c (.c (.c (.c (.c (.c (.c .n))))))))) (@aa _ _ _ _ _ (pv 1) ae rfl) rfl) rfl)) rfl (Or.inl rfl))
    (@ai _ _ _ _ _ (mG (i:=3) (j:=4) rfl nd rfl rfl (by decide) rfl rfl (@aa _ _ _ _ _ (aq aN af (@ah _ _ _ _ _ _ _ (aF K) (pv 2) af (λ_ _=>rfl))) (@aa _ _ _ _ _ (aq aN af (@ah _ _ _ _ _ _ _ (aF K) (pv 2) af (λ_ _=>rfl))) ae rfl) rfl) rfl)
    (@ai _ _ _ _ _ (@aC _ _ 5 _ _ _ _ nd rfl (Or.inl rfl) (aq aN (aq aN (pv 3) (pv 4)) af) rfl (Or.inl rfl))
    (@ai _ _ _ _ _ (@aC _ _ 6 _ _ _ _ nd rfl (Or.inl rfl) (@bo _ _ _ _ ae) rfl (Or.inl rfl))
    (@ai _ _ _ _ _ (bq PassesOwn.never rfl (cb rfl T.range_ (@aa _ _ _ _ _ (pv 3) ae rfl)) (aA (i:=7) nd rfl (Or.inl rfl)) (@ao _ _ _ (bz (bT K Fz FO FP bZ (pv 6) (@aa _ _ _ _ _ (@bf _ _ _ _ _ (@aa _ _ _ _ _ (pv 7) (@aa _ _ _ _ _ aR (@aa _ _ _ _ _ (aq bW (aq aN (pv 7) af) (pv 3)) (@aa _ _ _ _ _ (@ah _ _ _ _ _ _ _ uX aR (@ah _ _ _ _ _ _ _ (aF K) (pv 2) af (λ_ _=>rfl)) (λ_ _=>rfl)) ae rfl) rfl) rfl) rfl)) ae rfl)))))
    (@ai _ _ _ _ _ (bz (bT K Fz FO FP bZ (pv 6) (@aa _ _ _ _ _ (@bf _ _ _ _ _ (@aa _ _ _ _ _ (aq bW (@ah _ _ _ _ _ _ _ (aF K) (pv 2) af (λ_ _=>rfl)) (pv 3)) (@aa _ _ _ _ _ aR (@aa _ _ _ _ _ (pv 3) (@aa _ _ _ _ _ aR ae rfl) rfl) rfl) rfl)) ae rfl)))
    (@ai _ _ _ _ _ (bq PassesOwn.never rfl (cb rfl T.range_ (@aa _ _ _ _ _ (pv 4) ae rfl)) (aA (i:=7) nd rfl (Or.inl rfl)) (@ao _ _ _ (bz (bT K Fz FO FP bZ (pv 6) (@aa _ _ _ _ _ (@bf _ _ _ _ _ (@aa _ _ _ _ _ (aq aN (pv 3) (pv 7)) (@aa _ _ _ _ _ aR (@aa _ _ _ _ _ (aq aN (pv 3) (aq bW (aq aN (pv 7) af) (pv 4))) (@aa _ _ _ _ _ aR ae rfl) rfl) rfl) rfl)) ae rfl)))))
    (@ai _ _ _ _ _ (bz (bT K Fz FO FP bZ (pv 6) (@aa _ _ _ _ _ (@bf _ _ _ _ _ (@aa _ _ _ _ _ (aq aN (pv 3) (aq bW (@ah _ _ _ _ _ _ _ (aF K) (pv 2) af (λ_ _=>rfl)) (pv 4))) (@aa _ _ _ _ _ aR (@aa _ _ _ _ _ (aq cG (pv 5) af) (@aa _ _ _ _ _ aR ae rfl) rfl) rfl) rfl)) ae rfl)))
    (@ai _ _ _ _ _ (bz (bT K Fz FO FP bZ (pv 6) (@aa _ _ _ _ _ (@bf _ _ _ _ _ (@aa _ _ _ _ _ (aq cG (pv 5) af) (@aa _ _ _ _ _ (@ah _ _ _ _ _ _ _ (aF K) (@bo _ _ _ _ (@aa _ _ _ _ _ aR (@aa _ _ _ _ _ aR ae rfl) rfl)) (@ah _ _ _ _ _ _ _ (aF K) (pv 2) af (λ_ _=>rfl)) (λ_ _=>rfl)) (@aa _ _ _ _ _ (@ah _ _ _ _ _ _ _ (aF K) (@bo _ _ _ _ (@aa _ _ _ _ _ af (@aa _ _ _ _ _ (aq cG (pv 5) af) ae rfl) rfl)) (@ah _ _ _ _ _ _ _ (aF K) (pv 2) af (λ_ _=>rfl)) (λ_ _=>rfl)) (@aa _ _ _ _ _ aR ae rfl) rfl) rfl) rfl)) ae rfl)))
    (@ao _ _ _ (@aB _ _ _ _ (@bf _ _ _ _ _ (@aa _ _ _ _ _ (pv 5) (@aa _ _ _ _ _ (ax d hr (@aa _ _ _ _ _ (pv 6) ae rfl)) ae rfl) rfl))))))))))))),?_⟩
  walk_at"";refine aK λw0 G1 f1 a2 _=>?_;walk_at"";refine kE [6,5,6,5,2,2,2] a2 (by decide) (by decide) (hp) λdq ds H1 e1 hd b2 L hb=>?_;have eH:Ext H H1:=f1.trans e1;obtain⟨d0,g0,a3,a4⟩:=bO L hb 0 rfl;obtain⟨d1,g1,a5,a6⟩:=bO L hb 1 rfl;obtain⟨S,g2,b4,b5⟩:=bO L hb 2 rfl;obtain⟨R,g3,b6,b7⟩:=bO L hb 3 rfl;obtain⟨d4,g4,a7,a8⟩:=bO L hb 4 rfl;obtain⟨d5,g5,a9,ab⟩:=bO L hb 5 rfl;obtain⟨d6,g6,ac,ad⟩:=bO L hb 6 rfl;clear hb L;walk_at"";refine aE (ag.of hd) g0 ?_;walk_at"";refine aE (ag.of hd) g1 ?_;walk_at"";obtain⟨U,hU⟩:∃U:Nat,1+d0=(U:Int):=⟨(1+d0).toNat,by omega⟩;obtain⟨D,hD⟩:∃D:Nat,1+d1=(D:Int):=⟨(1+d1).toNat,by omega⟩;rw[hU,hD];have u1:1<=U:=by omega
  have u6:U<=6:=by omega
  have v1:1<=D:=by omega
  have v5:D<=5:=by omega
  clear a3 a4 a5 a6 hU hD;obtain⟨m,hm⟩:∃m:Int,(U:Int)+(D:Int)+1=m:=⟨_,rfl⟩;rw[hm];refine aK λf H2 e2 hf hfn=>?_;walk_at"";refine cj (by omega) ?_;have l:H1 f=Vp:=hfn;refine forR (λi σ M=>∃(k:Option V) (us:List Way),σ=[Vo (.int c),Vo (.int p),Vo (.ref dq),Vo (.int U),Vo (.int D),Vo (.int m),Vo (.ref f),k]/\WL H1 M f us/\(∀u∈us,u.Ok3 m)/\us.length=i)
   ⟨Vp,[],rfl,WL.nil e2 hf,λu W=>by simp at W,rfl⟩ ?_ ?_
  ·rintro i σ M hi ⟨k,us,rfl,wl,ok,len⟩;rw[FF]at hi;walk_at"";refine⟨wl.ty (Ext.rfl' _),?_⟩;walk_at""
   try refine rd_I (show(0:Int)<(U:Int) by omega) ?_
   walk_at"";refine aE (ag.of (wl.ext _ _ hd)) g4 ?_;obtain⟨s,hs,s1,s2⟩:=CK a7 a8;refine⟨_,_,s,rfl,rfl,dy (by decide +kernel),hs,?_⟩;walk_at"";refine aK λv Y J F _=>?_;walk_at"";obtain⟨xs,G,B,N⟩:=wl.push (w:=⟨0+(i:Int),"up",(0+(i:Int)+1) % (U:Int),⟨#[s]⟩⟩) l J F;refine bX G (fi (by omega)) ?_;walk_at"";exact⟨_,_,rfl,N,fo ok ⟨by show 0<=0+(i:Int);omega,by show 0+(i:Int)<m;omega,Int.emod_nonneg _ (by omega),Int.lt_trans (Int.emod_lt_of_pos _ (by omega)) (by omega),jw,s,s1,s2,rfl⟩,by simp[len]⟩
  rintro σ M ⟨k,us,rfl,wl,ok,len⟩;rw[FF]at len;walk_at"";refine⟨wl.ty (Ext.rfl' _),?_⟩;walk_at"";refine aE (ag.of (wl.ext _ _ hd)) g2 ?_
  try refine rd_I (show(0:Int)<(U:Int) by omega) ?_
  walk_at"";refine aK λv Y J F _=>?_;walk_at"";have r0:0<=S % (U:Int):=Int.emod_nonneg _ (by omega);have r1:S % (U:Int)<U:=Int.emod_lt_of_pos _ (by omega);obtain⟨xs,G,B,e⟩:=wl.push (w:=⟨S % (U:Int),"stay",(U:Int),"b"⟩) l J F;have C:=fo ok (w:=⟨S % (U:Int),"stay",(U:Int),"b"⟩) ⟨r0,by show S % (U:Int)<m;omega,by show 0<=(U:Int);omega,by show(U:Int)<m;omega,gZ,jI⟩;refine bX G (fi (by omega)) ?_;generalize upd Y f _=H5 at e ⊢;generalize o:us++[_]=I at e C;have x:I.length=U+1:=by rw[←o];simp[len]
  clear o G B F J r0 r1 wl ok len;walk_at"";refine cj (by omega) ?_;refine forR (λi σ M=>∃(k:Option V) (us:List Way),σ=[Vo (.int c),Vo (.int p),Vo (.ref dq),Vo (.int U),Vo (.int D),Vo (.int m),Vo (.ref f),k]/\WL H1 M f us/\(∀u∈us,u.Ok3 m)/\us.length=U+1+i)
   ⟨_,I,rfl,e,C,x⟩ ?_ ?_
  ·rintro i σ M hi ⟨k,us,rfl,wl,ok,len⟩;rw[FF]at hi;walk_at"";refine⟨wl.ty (Ext.rfl' _),?_⟩;walk_at""
   try refine rd_I (show(0:Int)<(D:Int) by omega) ?_
   walk_at"";refine aK λv Y J F _=>?_;walk_at"";have r0:0<=(0+(i:Int)+1) % (D:Int):=Int.emod_nonneg _ (by omega);have r1:(0+(i:Int)+1) % (D:Int)<D:=Int.emod_lt_of_pos _ (by omega);obtain⟨xs,G,B,N⟩:=wl.push (w:=⟨(U:Int)+(0+(i:Int)),"down",(U:Int)+(0+(i:Int)+1) % (D:Int),"a"⟩) l J F;refine bX G (fi (by omega)) ?_;walk_at"";exact⟨_,_,rfl,N,fo ok ⟨by show 0<=(U:Int)+(0+(i:Int));omega,by show(U:Int)+(0+(i:Int))<m;omega,by show 0<=(U:Int)+(0+(i:Int)+1) % (D:Int);omega,by show(U:Int)+(0+(i:Int)+1) % (D:Int)<m;omega,ly,kC⟩,by simp[len];omega⟩
  clear e C x;rintro σ M ⟨k,us,rfl,wl,ok,len⟩;rw[FF]at len;walk_at"";refine⟨wl.ty (Ext.rfl' _),?_⟩;walk_at"";refine aE (ag.of (wl.ext _ _ hd)) g3 ?_
  try refine rd_I (show(0:Int)<(D:Int) by omega) ?_
  walk_at"";refine aK λv Y J F _=>?_;walk_at"";have r0:0<=R % (D:Int):=Int.emod_nonneg _ (by omega);have r1:R % (D:Int)<D:=Int.emod_lt_of_pos _ (by omega);obtain⟨xs,G,B,e⟩:=wl.push (w:=⟨(U:Int)+R % (D:Int),"zero",m-1,"c"⟩) l J F;have C:=fo ok (w:=⟨(U:Int)+R % (D:Int),"zero",m-1,"c"⟩) ⟨by show 0<=(U:Int)+R % (D:Int);omega,by show(U:Int)+R % (D:Int)<m;omega,by show 0<=m-1;omega,by show m-1<m;omega,j3,mI⟩;refine bX G (fi (by omega)) ?_;generalize upd Y f _=H5 at e ⊢;generalize o:us++[_]=I at e C;have x:I.length=U+D+2:=by rw[←o];simp[len];omega
  clear o G B F J r0 r1 wl ok len;walk_at"";refine⟨e.ty (Ext.rfl' _),?_⟩;walk_at"";refine aK λt1 H6 e6 ak _=>?_;walk_at"";refine aE (ag.of (e6 _ _ (e.ext _ _ hd))) g5 ?_;obtain⟨x5,am,an⟩:=j5 (a:=V.str "up") (b:=V.str "stay") a9 ab;refine aE (ag.of ak) am ?_;walk_at"";refine aK λt2 H7 e7 ap _=>?_;walk_at"";refine aE (ag.of (e7 _ _ (e6 _ _ (e.ext _ _ hd)))) g6 ?_;obtain⟨x6,ar,as⟩:=j5 (a:=V.int 0) (b:=V.int (m-1)) ac ad;refine aE (ag.of ap) ar ?_;walk_at"";refine aK λv H8 e8 F _=>?_;walk_at"";obtain⟨z,rfl,oz⟩:∃z,x5=.str z/\cx z:=by
   rcases an with rfl|rfl
   ·exact⟨_,rfl,jw⟩
   ·exact⟨_,rfl,gZ⟩
  obtain⟨y,rfl,y0,y1⟩:∃y:Int,x6=.int y/\0<=y/\y<m:=by
   rcases as with rfl|rfl
   ·exact⟨_,rfl,by omega,by omega⟩
   ·exact⟨_,rfl,by omega,by omega⟩
  obtain⟨xs,G,B,O⟩:=e.push (w:=⟨m-1,z,y,"b"⟩) l (e6.trans (e7.trans e8)) F;have ok3:=fo C (w:=⟨m-1,z,y,"b"⟩) ⟨by show 0<=m-1;omega,by show m-1<m;omega,y0,y1,oz,jI⟩;refine bX G (fi (by omega)) ?_;generalize upd H8 f _=H9 at O ⊢;generalize Z:I++[_]=a0 at O ok3;have b1:a0.length=U+D+3:=by rw[←Z];simp[x]
  walk_at"";obtain⟨ew,cs,au,al⟩:=O;refine⟨f,cs,a0,rfl,au,al,λu W=>(ok3 u W).lay,by omega,λr I1 ws e5 b0 nd sub ln=>?_⟩;walk_at"";refine aK λt I2 a1 ht _=>?_;exact q _ m ws I2 (eH.trans (ew.trans (e5.trans a1))) (bC.mk ht (b0.ext a1)) ⟨by omega,by omega,by omega,λu W=>ok3 u (sub u W),nd⟩
def aQ.rev{H:Hp}{bs:List Vb}{ws:List Way}(h:aQ H bs ws):aQ H bs.reverse ws.reverse:=by
 refine⟨by rw[List.length_reverse,List.length_reverse];exact h.1,λj b w a c=>?_⟩;have d:j<bs.length:=by have:=(FA.mp a).1;simpa using this
 rw[List.getElem?_reverse d]at a;rw[List.getElem?_reverse (by rw[←h.1];exact d),←h.1]at c;exact h.2 _ b w a c
def iA{us:List Way}{w:Way}(h:us.Nodup)(b:w∉us):(us++[w]).Nodup:=by rw[List.nodup_append];exact⟨h,by simp,λa ha c d=>by rw[FD.mp d];exact λz=>b (z ▸ ha)⟩
def jT{P:Way->Prop}{us:List Way}{w:Way}(h:∀u∈us,P u)(b:P w):∀u∈us++[w],P u:=λu a=>by
 rcases FQ.mp a with a|a
 ·exact h u a
 ·rw[FD.mp a];exact b
def uo:(F7 "a")≠"b":=by decide +kernel
def wu:(F7 "a")≠"c":=by decide +kernel
def pF:(F7 "b")≠"c":=by decide +kernel
inductive nk(K:Fn)(vs:List V)(H:Hp)(Q:VK)(E:XK):Prop|mk:∀c p,vs=[.int c,.int p]->0<p->(∀v m ws H',Ext H H'->bC H' v m ws->HOuse3 m ws->Q v H')->nk K vs H Q E
abbrev qV:Vl:=stq 74
def uJ:FnScope ["_law_cell_here","_law_prime","_law_draws_here","_law_one","_law_two","_law_many","_law_ways","_law_k"] ["_law_cell_here","_law_prime"] (aH qV):=⟨rfl,rfl,rfl,by decide +kernel,rfl,by decide +kernel,by decide +kernel⟩
def Ej{P:Vd}{w:Ve}{mg:Vn->Option Va}{base:Vh}(D:Dfn K mg "_law_ring_house" qV ["_law_cell_here","_law_prime"])(T:Blt mg)(l:Cal P w K mg base "_law_draws" 2 ["_law_cell_here","_law_widths","_law_prime"] (fQ K)):Cal P w K mg base "_law_ring_house" 3 ["_law_cell_here","_law_prime"] (nk K):=by
 have nd:=(uJ).nd;refine D.ok uJ (λvs H Q E h=>?_) (λX hX H vs Q E h=>?_)
 ·obtain⟨c,p,rfl,_⟩:=h;rfl
 ·obtain⟨f,cdv,A,outer,s,H0,E0,rfl,hr⟩:=hX;obtain⟨c,p,rfl,hp,q⟩:=h;refine⟨_,(@ai _ _ _ _ _ (@aC _ _ 2 _ _ _ _ nd rfl (Or.inl rfl) (ax l hr (@aa _ _ _ _ _ (pv 0) (@aa _ _ _ _ _ (@bo _ _ _ _ (gR (.c (.c (.c (.c (.c (.c (.c .n))))))))) (@aa _ _ _ _ _ (pv 1) ae rfl) rfl) rfl)) rfl (Or.inl rfl))
    (@ai _ _ _ _ _ (mG (i:=3) (j:=4) rfl nd rfl rfl (by decide) rfl rfl (@aa _ _ _ _ _ (aq aN af (@ah _ _ _ _ _ _ _ (aF K) (pv 2) af (λ_ _=>rfl))) (@aa _ _ _ _ _ (aq aN af (@ah _ _ _ _ _ _ _ (aF K) (pv 2) af (λ_ _=>rfl))) ae rfl) rfl) rfl)
    (@ai _ _ _ _ _ (@aC _ _ 5 _ _ _ _ nd rfl (Or.inl rfl) (aq aN (aq aN (pv 3) (pv 4)) af) rfl (Or.inl rfl))
    (@ai _ _ _ _ _ (@aC _ _ 6 _ _ _ _ nd rfl (Or.inl rfl) (@bo _ _ _ _ (@aa _ _ _ _ _ (@bf _ _ _ _ _ (@aa _ _ _ _ _ af (@aa _ _ _ _ _ aR (@aa _ _ _ _ _ af (@aa _ _ _ _ _ aR ae rfl) rfl) rfl) rfl)) (@aa _ _ _ _ _ (@bf _ _ _ _ _ (@aa _ _ _ _ _ af (@aa _ _ _ _ _ (@ah _ _ _ _ _ _ _ (aF K) (@bo _ _ _ _ (@aa _ _ _ _ _ aR (@aa _ _ _ _ _ aR ae rfl) rfl)) (@ah _ _ _ _ _ _ _ (aF K) (pv 2) af (λ_ _=>rfl)) (λ_ _=>rfl)) (@aa _ _ _ _ _ (aq aN af (pv 3)) (@aa _ _ _ _ _ aR ae rfl) rfl) rfl) rfl)) ae rfl) rfl)) rfl (Or.inl rfl))
    (@ai _ _ _ _ _ (bq PassesOwn.never rfl (cb rfl T.range_ (@aa _ _ _ _ _ (pv 3) ae rfl)) (aA (i:=7) nd rfl (Or.inl rfl)) (@ao _ _ _ (bz (bT K Fz FO FP bZ (pv 6) (@aa _ _ _ _ _ (@bf _ _ _ _ _ (@aa _ _ _ _ _ (aq aN af (pv 7)) (@aa _ _ _ _ _ aR (@aa _ _ _ _ _ (aq aN af (aq bW (aq aN (pv 7) af) (pv 3))) (@aa _ _ _ _ _ aR ae rfl) rfl) rfl) rfl)) ae rfl)))))
    (@ai _ _ _ _ _ (bq PassesOwn.never rfl (cb rfl T.range_ (@aa _ _ _ _ _ (pv 4) ae rfl)) (aA (i:=7) nd rfl (Or.inl rfl)) (@ao _ _ _ (bz (bT K Fz FO FP bZ (pv 6) (@aa _ _ _ _ _ (@bf _ _ _ _ _ (@aa _ _ _ _ _ (aq aN (aq aN af (pv 3)) (pv 7)) (@aa _ _ _ _ _ (@ah _ _ _ _ _ _ _ (aF K) (@bo _ _ _ _ (@aa _ _ _ _ _ aR (@aa _ _ _ _ _ aR ae rfl) rfl)) (@ah _ _ _ _ _ _ _ (aF K) (pv 2) af (λ_ _=>rfl)) (λ_ _=>rfl)) (@aa _ _ _ _ _ (aq aN (aq aN af (pv 3)) (aq bW (aq aN (pv 7) af) (pv 4))) (@aa _ _ _ _ _ aR ae rfl) rfl) rfl) rfl)) ae rfl)))))
    (@ai _ _ _ _ _ (bz (bT K Fz FO FP bZ (pv 6) (@aa _ _ _ _ _ (@bf _ _ _ _ _ (@aa _ _ _ _ _ af (@aa _ _ _ _ _ aR (@aa _ _ _ _ _ (aq cG (pv 5) af) (@aa _ _ _ _ _ aR ae rfl) rfl) rfl) rfl)) ae rfl)))
    (@ai _ _ _ _ _ (bz (bT K Fz FO FP bZ (pv 6) (@aa _ _ _ _ _ (@bf _ _ _ _ _ (@aa _ _ _ _ _ (aq aN af (pv 3)) (@aa _ _ _ _ _ aR (@aa _ _ _ _ _ (aq cG (pv 5) af) (@aa _ _ _ _ _ aR ae rfl) rfl) rfl) rfl)) ae rfl)))
    (@ai _ _ _ _ _ (cF (aM bH (@ah _ _ _ _ _ _ _ (aF K) (pv 2) af (λ_ _=>rfl)) af (aJ _)) (@ao _ _ _ (bz (bT K Fz FO FP bZ (pv 6) (@aa _ _ _ _ _ (@bf _ _ _ _ _ (@aa _ _ _ _ _ (aq cG (pv 5) af) (@aa _ _ _ _ _ aR (@aa _ _ _ _ _ (aq cG (pv 5) af) (@aa _ _ _ _ _ aR ae rfl) rfl) rfl) rfl)) ae rfl)))) aP)
    (@ai _ _ _ _ _ (cF (aM bH (@ah _ _ _ _ _ _ _ (aF K) (pv 2) af (λ_ _=>rfl)) af (aJ _)) (@ao _ _ _ (bz (bT K Fz FO FP bZ (pv 6) (@aa _ _ _ _ _ (@bf _ _ _ _ _ (@aa _ _ _ _ _ (aq cG (pv 5) af) (@aa _ _ _ _ _ aR (@aa _ _ _ _ _ af (@aa _ _ _ _ _ aR ae rfl) rfl) rfl) rfl)) ae rfl)))) aP)
    (@ai _ _ _ _ _ (cF (aM bH (@ah _ _ _ _ _ _ _ (aF K) (pv 2) af (λ_ _=>rfl)) af (aJ _)) (@ao _ _ _ (@aC _ _ 6 _ _ _ _ nd rfl (Or.inl rfl) (CV K (pv 6) (f7 (ja iI af))) rfl (Or.inl rfl))) aP)
    (@ao _ _ _ (@aB _ _ _ _ (@bf _ _ _ _ _ (@aa _ _ _ _ _ (pv 5) (@aa _ _ _ _ _ (dQ (fA K) rfl T.tuple_ PyProof.Rows.boot_tuple (@aa _ _ _ _ _ (pv 6) ae rfl)) ae rfl) rfl))))))))))))))),?_⟩
  walk_at"";refine aK λw0 G1 f1 as _=>?_;walk_at"";refine kE [5,5,2,2,4,4,2] as (by decide) (by decide) (hp) λdq ds H1 e1 hd bt S hb=>?_;have eH:Ext H H1:=f1.trans e1;obtain⟨d0,g0,au,b0⟩:=bO S hb 0 rfl;obtain⟨d1,g1,b1,b2⟩:=bO S hb 1 rfl;obtain⟨d2,g2,b4,b5⟩:=bO S hb 2 rfl;obtain⟨d3,g3,b6,b7⟩:=bO S hb 3 rfl;obtain⟨d4,g4,_⟩:=bO S hb 4 rfl;obtain⟨d5,g5,_⟩:=bO S hb 5 rfl;obtain⟨d6,g6,_⟩:=bO S hb 6 rfl;clear hb S;walk_at"";refine aE (ag.of hd) g0 ?_;walk_at"";refine aE (ag.of hd) g1 ?_;walk_at"";obtain⟨U,hU⟩:∃U:Nat,1+d0=(U:Int):=⟨(1+d0).toNat,by omega⟩;obtain⟨D,hD⟩:∃D:Nat,1+d1=(D:Int):=⟨(1+d1).toNat,by omega⟩;rw[hU,hD];have u1:1<=U:=by omega
  have u6:U<=5:=by omega
  have v1:1<=D:=by omega
  have v5:D<=5:=by omega
  clear au b0 b1 b2 hU hD;obtain⟨m,hm⟩:∃m:Int,(U:Int)+(D:Int)+2=m:=⟨_,rfl⟩;rw[hm];refine aK λa1 H2 e2 am _=>?_;walk_at"";refine aK λt1 W e3 N _=>?_;walk_at"";refine aE (ag.of (e3 _ _ (e2 _ _ hd))) g2 ?_;obtain⟨x2,b8,ba⟩:=j5 (a:=V.str "stay") (b:=V.str "zero") b4 b5;refine aE (ag.of N) b8 ?_;walk_at"";obtain⟨z2,rfl,bb⟩:∃z,x2=.str z/\cx z:=by
   rcases ba with rfl|rfl
   ·exact⟨_,rfl,gZ⟩
   ·exact⟨_,rfl,j3⟩
  refine aK λa2 Y x an _=>?_;walk_at"";refine aK λf H5 e5 hf hfn=>?_;have bc:Ext H1 H5:=e2.trans (e3.trans (x.trans e5));have o:H1 f=Vp:=(e2.trans (e3.trans x)).none hfn;obtain⟨y1,J⟩:∃y:Way,y=⟨0,"stay",1,"a"⟩:=⟨_,rfl⟩;obtain⟨y2,L⟩:∃y:Way,y=⟨0,z2,1+(U:Int),"b"⟩:=⟨_,rfl⟩;have a5:WL H1 H5 f [y1,y2]:=by
   refine⟨bc,[a1,a2],hf,?_⟩;have k1:H5 a1=Vo (.tup y1.vs):=by rw[J];exact e5 _ _ (x _ _ (e3 _ _ am))
   have k2:H5 a2=Vo (.tup y2.vs):=by rw[L];exact e5 _ _ an
   exact((aQ.nil H5).snoc k1).snoc k2
  have a6:∀u∈[y1,y2],u.Ok3 m:=by
   intro u e;rcases FH.mp e with rfl|e
   ·subst J;exact⟨Int.le_refl _,by show(0:Int)<m;omega,by show(0:Int)<=1;decide,by show(1:Int)<m;omega,gZ,kC⟩
   ·rw[FD.mp e];subst L;exact⟨Int.le_refl _,by show(0:Int)<m;omega,by show(0:Int)<=1+(U:Int);omega,by show 1+(U:Int)<m;omega,bb,jI⟩
  have a7:[y1,y2].Nodup:=by subst J L;refine List.nodup_cons.mpr ⟨λz=>?_,by simp⟩;have:=congrArg Way.sign (FD.mp z);exact uo this
  have a8:∀u∈[y1,y2],u.room<=((0:Nat):Int)/\u.sign≠"c":=by
   intro u e;rcases FH.mp e with rfl|e
   ·subst J;exact⟨Int.le_refl _,wu⟩
   ·rw[FD.mp e];subst L;exact⟨Int.le_refl _,pF⟩
  have a9:[y1,y2].length=2:=rfl;generalize [y1,y2]=be at a5 a6 a7 a8 a9;clear J L am an N hf e2 e3 x e5;walk_at"";refine cj (by omega) ?_;refine forR (λi σ W=>∃(k:Option V) (us:List Way),σ=[Vo (.int c),Vo (.int p),Vo (.ref dq),Vo (.int U),Vo (.int D),Vo (.int m),Vo (.ref f),k]/\WL H1 W f us/\(∀u∈us,u.Ok3 m)/\us.Nodup/\(∀u∈us,u.room<=(i:Int)/\u.sign≠"c")/\us.length=2+i)
   ⟨Vp,be,rfl,a5,a6,a7,a8,a9⟩ ?_ ?_
  ·rintro i σ W hi ⟨k,us,rfl,wl,ok,d,pr,len⟩;rw[FF]at hi;walk_at"";refine⟨wl.ty (Ext.rfl' _),?_⟩;walk_at""
   try refine rd_I (show(0:Int)<(U:Int) by omega) ?_
   walk_at"";refine aK λv Y x G _=>?_;walk_at"";have r0:0<=(0+(i:Int)+1) % (U:Int):=Int.emod_nonneg _ (by omega);have r1:(0+(i:Int)+1) % (U:Int)<U:=Int.emod_lt_of_pos _ (by omega);obtain⟨xs,I,C,ab⟩:=wl.push (w:=⟨1+(0+(i:Int)),"up",1+(0+(i:Int)+1) % (U:Int),"a"⟩) o x G;refine bX I (fi (by omega)) ?_;walk_at"";refine⟨_,_,rfl,ab,fo ok ⟨by show 0<=1+(0+(i:Int));omega,by show 1+(0+(i:Int))<m;omega,by show 0<=1+(0+(i:Int)+1) % (U:Int);omega,by show 1+(0+(i:Int)+1) % (U:Int)<m;omega,jw,kC⟩,iA d λz=>?_,jT (λu e=>⟨by have:=(pr u e).1;omega,(pr u e).2⟩) ⟨by show 1+(0+(i:Int))<=_;omega,wu⟩,by simp[len];omega⟩;have:=(pr _ z).1;have:1+(0+(i:Int))<=(i:Int):=this;omega
  clear a5 a6 a7 a8 a9;rintro σ W ⟨k,us,rfl,wl,ok,d,pr,len⟩;rw[FF]at pr len;walk_at"";refine cj (by omega) ?_;refine forR (λi σ W=>∃(k:Option V) (us:List Way),σ=[Vo (.int c),Vo (.int p),Vo (.ref dq),Vo (.int U),Vo (.int D),Vo (.int m),Vo (.ref f),k]/\WL H1 W f us/\(∀u∈us,u.Ok3 m)/\us.Nodup/\(∀u∈us,u.room<=(U:Int)+(i:Int)/\u.sign≠"c"/\(u.room=1+(U:Int)->u.sign = "b"))/\us.length=2+U+i)
   ⟨_,us,rfl,wl,ok,d,λu e=>⟨by have:=(pr u e).1;omega,(pr u e).2,λz=>by have:=(pr u e).1;omega⟩,len⟩ ?_ ?_
  ·clear wl ok d pr len;rintro i σ W hi ⟨k,us,rfl,wl,ok,d,pr,len⟩;rw[FF]at hi;walk_at"";refine⟨wl.ty (Ext.rfl' _),?_⟩;walk_at"";refine aK λt1 H6 e6 N _=>?_;walk_at"";refine aE (ag.of (e6 _ _ (wl.ext _ _ hd))) g3 ?_;obtain⟨x3,bg,bi⟩:=j5 (a:=V.str "up") (b:=V.str "down") b6 b7;refine aE (ag.of N) bg ?_;walk_at"";obtain⟨z3,rfl,bl⟩:∃z,x3=.str z/\cx z:=by
    rcases bi with rfl|rfl
    ·exact⟨_,rfl,jw⟩
    ·exact⟨_,rfl,ly⟩
   try refine rd_I (show(0:Int)<(D:Int) by omega) ?_
   walk_at"";refine aK λv Y x G _=>?_;walk_at"";have r0:0<=(0+(i:Int)+1) % (D:Int):=Int.emod_nonneg _ (by omega);have r1:(0+(i:Int)+1) % (D:Int)<D:=Int.emod_lt_of_pos _ (by omega);obtain⟨xs,I,C,ab⟩:=wl.push (w:=⟨1+(U:Int)+(0+(i:Int)),z3,1+(U:Int)+(0+(i:Int)+1) % (D:Int),"b"⟩) o (e6.trans x) G;refine bX I (fi (by omega)) ?_;walk_at"";refine⟨_,_,rfl,ab,fo ok ⟨by show 0<=1+(U:Int)+(0+(i:Int));omega,by show 1+(U:Int)+(0+(i:Int))<m;omega,by show 0<=1+(U:Int)+(0+(i:Int)+1) % (D:Int);omega,by show 1+(U:Int)+(0+(i:Int)+1) % (D:Int)<m;omega,bl,jI⟩,iA d λz=>?_,jT (λu e=>⟨by have:=(pr u e).1;omega,(pr u e).2⟩) ⟨by show 1+(U:Int)+(0+(i:Int))<=_;omega,pF,λ_=>rfl⟩,by simp[len];omega⟩;have:=(pr _ z).1;have:1+(U:Int)+(0+(i:Int))<=(U:Int)+(i:Int):=this;omega
  clear wl ok d pr len;rintro σ W ⟨k,us,rfl,wl,ok,d,pr,len⟩;rw[FF]at pr len;walk_at"";refine⟨wl.ty (Ext.rfl' _),?_⟩;walk_at"";refine aK λv Y x G _=>?_;walk_at"";obtain⟨xs,I,C,M⟩:=wl.push (w:=⟨1,"stay",m-1,"c"⟩) o x G;have ac:=fo ok (w:=⟨1,"stay",m-1,"c"⟩) ⟨by show(0:Int)<=1;decide,by show(1:Int)<m;omega,by show 0<=m-1;omega,by show m-1<m;omega,gZ,mI⟩;have ad:=iA d (w:=⟨1,"stay",m-1,"c"⟩) λz=>(pr _ z).2.1 rfl;have pr2:=jT (P:=λu=>u.room<=(U:Int)+(D:Int)/\(u.room=1+(U:Int)->u.sign = "b")) (λu e=>⟨(pr u e).1,(pr u e).2.2⟩) (w:=⟨1,"stay",m-1,"c"⟩) ⟨by show(1:Int)<=_;omega,λz=>by have:(1:Int)=1+(U:Int):=z;omega⟩;refine bX I (fi (by omega)) ?_;generalize upd Y f _=H5 at M ⊢;generalize Z:us++[_]=ap at M ac ad pr2;have a0:ap.length=3+U+D:=by rw[←Z];simp[len];omega
  clear Z I C G x wl ok d pr len;walk_at"";refine⟨M.ty (Ext.rfl' _),?_⟩;walk_at"";refine aK λv Y x G _=>?_;walk_at"";obtain⟨xs,I,C,F⟩:=M.push (w:=⟨1+(U:Int),"stay",m-1,"a"⟩) o x G;have ok3:=fo ac (w:=⟨1+(U:Int),"stay",m-1,"a"⟩) ⟨by show(0:Int)<=1+(U:Int);omega,by show 1+(U:Int)<m;omega,by show 0<=m-1;omega,by show m-1<m;omega,gZ,kC⟩;have O:=iA ad (w:=⟨1+(U:Int),"stay",m-1,"a"⟩) λz=>uo ((pr2 _ z).2 rfl);have pr3:=jT (P:=λu=>u.room<=(U:Int)+(D:Int)) (λu e=>(pr2 u e).1) (w:=⟨1+(U:Int),"stay",m-1,"a"⟩) (by show 1+(U:Int)<=_;omega);refine bX I (fi (by omega)) ?_;generalize upd Y f _=H6 at F ⊢;generalize a3:ap++[_]=ar at F ok3 O pr3;have a4:ar.length=4+U+D:=by rw[←a3];simp[a0];omega
  clear a3 I C G x M ac ad pr2 a0;walk_at"";refine eZ (λB H'=>∃(k:Option V) (us:List Way),B=[Vo (.int c),Vo (.int p),Vo (.ref dq),Vo (.int U),Vo (.int D),Vo (.int m),Vo (.ref f),k]/\WL H1 H' f us/\(∀u∈us,u.Ok3 m)/\us.Nodup/\(∀u∈us,u.room<=(U:Int)+(D:Int)\/u.sign = "c")/\us.length<=5+U+D) ?_ ?_
  ·walk_at"";refine aE (ag.of (F.ext _ _ hd)) g4 ?_;walk_at"";refine fP (λh=>?_) (λh=>?_)
   ·walk_at"";refine⟨F.ty (Ext.rfl' _),?_⟩;walk_at"";refine aK λv Y x G _=>?_;walk_at"";obtain⟨xs,I,C,ak⟩:=F.push (w:=⟨m-1,"down",m-1,"c"⟩) o x G;refine bX I (fi (by omega)) ?_;walk_at"";exact⟨_,_,rfl,ak,fo ok3 ⟨by show 0<=m-1;omega,by show m-1<m;omega,by show 0<=m-1;omega,by show m-1<m;omega,ly,mI⟩,iA O λz=>by have:m-1<=(U:Int)+(D:Int):=pr3 _ z;omega,jT (λu e=>.inl (pr3 u e)) (.inr rfl),by simp[a4];omega⟩
   ·walk_at"";exact⟨_,ar,rfl,F,ok3,O,λu e=>.inl (pr3 u e),by omega⟩
  clear F ok3 O pr3 a4;rintro B H7 ⟨k,us,rfl,wl,ok,d,pr,len⟩;walk_at"";refine eZ (λB H'=>∃(k:Option V) (us:List Way),B=[Vo (.int c),Vo (.int p),Vo (.ref dq),Vo (.int U),Vo (.int D),Vo (.int m),Vo (.ref f),k]/\WL H1 H' f us/\(∀u∈us,u.Ok3 m)/\us.Nodup/\us.length<=6+U+D) ?_ ?_
  ·walk_at"";refine aE (ag.of (wl.ext _ _ hd)) g5 ?_;walk_at"";refine fP (λh=>?_) (λh=>?_)
   ·walk_at"";refine⟨wl.ty (Ext.rfl' _),?_⟩;walk_at"";refine aK λv Y x G _=>?_;walk_at"";obtain⟨xs,I,C,ak⟩:=wl.push (w:=⟨m-1,"zero",0,"b"⟩) o x G;refine bX I (fi (by omega)) ?_;walk_at"";exact⟨_,_,rfl,ak,fo ok ⟨by show 0<=m-1;omega,by show m-1<m;omega,by show(0:Int)<=0;decide,by show(0:Int)<m;omega,j3,jI⟩,iA d (λz=>(pr _ z).elim (λy=>by have:m-1<=(U:Int)+(D:Int):=y;omega) λy=>pF y),by simp;omega⟩
   ·walk_at"";exact⟨_,us,rfl,wl,ok,d,by omega⟩
  clear wl ok d pr len;rintro B H8 ⟨k,us,rfl,wl,ok,d,len⟩;walk_at"";refine eZ (λB H'=>∃(k:Option V) (f:Vb) (cs:List Vb) (us:List Way),B=[Vo (.int c),Vo (.int p),Vo (.ref dq),Vo (.int U),Vo (.int D),Vo (.int m),Vo (.ref f),k]/\Ext H1 H'/\H' f=Vo (.lst (cs.map V.ref))/\aQ H' cs us/\(∀u∈us,u.Ok3 m)/\us.Nodup/\us.length<=6+U+D) ?_ ?_
  ·walk_at"";refine aE (ag.of (wl.ext _ _ hd)) g6 ?_;walk_at"";obtain⟨ew,cs,R,al⟩:=wl;refine fP (λh=>?_) (λh=>?_)
   ·walk_at"";refine⟨rfl,AI (ag.of R) (bL λr H9 e9 bm _=>?_)⟩;walk_at"";exact⟨_,r,cs.reverse,us.reverse,rfl,ew.trans e9,by rw[bm,List.map_reverse],(al.ext e9).rev,λu e=>ok u (List.mem_reverse.mp e),List.pairwise_reverse.mpr (d.imp λh=>Ne.symm h),by rw[List.length_reverse];omega⟩
   ·walk_at"";exact⟨_,f,cs,us,rfl,ew,R,al,ok,d,by omega⟩
  clear wl ok d len;rintro B H9 ⟨k,g,cs,us,rfl,ew,R,al,ok,d,len⟩;walk_at"";refine fG (ag.of R) (bL λr I1 i1 bn _=>?_);walk_at"";refine aK λt I2 i2 ht _=>?_;exact q _ m us I2 (eH.trans (ew.trans (i1.trans i2))) (bC.mk ht (((al.ext i1).ways bn).ext i2)) ⟨by omega,by omega,by omega,ok,d⟩
inductive mz(K:Fn)(vs:List V)(H:Hp)(Q:VK)(E:XK):Prop|mk:∀c p,vs=[.int c,.int p]->0<p->(∀v m ws H',Ext H H'->bC H' v m ws->HOuse3 m ws->Q v H')->mz K vs H Q E
abbrev mC:Vl:=stq 76
def sO:FnScope ["_law_cell_here","_law_prime","_law_kind","_law_left"] ["_law_cell_here","_law_prime"] (aH mC):=⟨rfl,rfl,rfl,by decide +kernel,rfl,by decide +kernel,by decide +kernel⟩
def Ce{P:Vd}{w:Ve}{mg:Vn->Option Va}{base:Vh}(D:Dfn K mg "_law_house" mC ["_law_cell_here","_law_prime"])(T:Blt mg)(a:Cal P w K mg base "_law_drawn_house" 3 ["_law_cell_here","_law_prime"] (n8 K))(b:Cal P w K mg base "_law_gate_house" 3 ["_law_cell_here","_law_prime"] (qT K))(d:Cal P w K mg base "_law_ring_house" 3 ["_law_cell_here","_law_prime"] (nk K))(g:Cal P w K mg base "_law_spare" 1 ["_law_cell_here","_law_width"] (qP K))(j:Cal P w K mg base "_law_draws" 2 ["_law_cell_here","_law_widths","_law_prime"] (fQ K)):Cal P w K mg base "_law_house" 4 ["_law_cell_here","_law_prime"] (mz K):=by
 have nd:=(sO).nd;refine D.ok sO (λvs H Q E h=>?_) (λX u H vs Q E h=>?_)
 ·obtain⟨c,p,rfl,_⟩:=h;rfl
 ·obtain⟨f,cdv,A,outer,s,H0,E0,rfl,k⟩:=u;obtain⟨c,p,rfl,n,q⟩:=h;refine⟨_,(ai (aC (i:=2) nd rfl (Or.inl rfl) (ah (aF K) (ax j k (aa (pv 0) (aa (bo (aa af ae)) (aa (pv 1) ae)))) af (λ_ _=>rfl)))
    (ai (aC (i:=3) nd rfl (Or.inl rfl) (ax g k (aa (pv 0) (aa af ae))))
    (ai (aZ (aM bH (pv 2) af (aJ _)) (ao (aB (ax d k (aa (pv 3) (aa (pv 1) ae))))) aP)
    (ai (aZ (aM bH (pv 2) af (aJ _)) (ao (aB (ax b k (aa (pv 3) (aa (pv 1) ae))))) aP)
    (ao (aB (ax a k (aa (pv 3) (aa (pv 1) ae))))))))),?_⟩
  walk_at"";refine aK λw0 G x o _=>?_;walk_at"";refine kE [8] o (by decide) (by decide) (n) λdq ds H1 y hd B C hb=>?_;have r:Ext H H1:=x.trans y;obtain⟨I,F,_⟩:=bO C hb 0 rfl;walk_at"";refine aE (ag.of hd) F ?_;walk_at"";refine⟨c,8,rfl,by decide,by decide,λz=>?_⟩;walk_at"";refine fP (λh=>?_) (λh=>?_)
  ·walk_at"";exact⟨z,p,rfl,n,λv m ws H' e l ok=>q v m ws H' (r.trans e) l ok⟩
  ·walk_at"";refine fP (λh=>?_) (λh=>?_)
   ·walk_at"";exact⟨z,p,rfl,n,λv m ws H' e l ok=>q v m ws H' (r.trans e) l ok⟩
   ·walk_at"";exact⟨z,p,rfl,n,λv m ws H' e l ok=>q v m ws H' (r.trans e) l ok⟩
def jo{a b:Vn}:decide (V.str a=V.str b)=decide (a=b):=by
 by_cases h:a=b
 ·subst h;simp
 ·rw[Gn h,Gn (λz=>h (V.str.inj z))]
def fD{a b:Vn}{H:Hp}{Q:VK}(h:Q (.bl (decide (a=b))) H):j4 (.str a) (.str b) H Q:=⟨rfl,by rw[jo];exact h⟩
def Ca{a b:Vn}{H:Hp}{Q:VK}(h:Q (.bl (!decide (a=b))) H):kM (.str a) (.str b) H Q:=⟨rfl,by rw[jo];exact h⟩
def cg{α β:Type}{F:α->β->Prop}{cs:List α}{ts:List β}(h:Paired F cs ts):∀{i:Nat} {c:α},cs[i]?=Vo c->∃t,ts[i]?=Vo t/\F c t:=by
 induction h with
 | nil=>intro i c e;simp at e
 | cons h t a=>
  intro i c e;cases i with
  | zero=>cases e;exact⟨_,rfl,h⟩
  | succ i=>exact a e
def eo{α β:Type}{F:α->β->Prop}{cs:List α}{ts:List β}(h:Paired F cs ts):∀{i:Nat} {t:β},ts[i]?=Vo t->∃c,cs[i]?=Vo c/\F c t:=by
 induction h with
 | nil=>intro i c e;simp at e
 | cons h t a=>
  intro i c e;cases i with
  | zero=>cases e;exact⟨_,rfl,h⟩
  | succ i=>exact a e
abbrev aO(H:Hp)(a:Vb)(x:Bfs.Pl):Prop:=H a=Vo (.tup [.int x.1,.int x.2])
abbrev cw(x:Bfs.Pl):List Key:=[.inl x.1,.inl x.2]
def xr{x y:Bfs.Pl}(h:cw x=cw y):x=y:=by simp only[cw,List.cons.injEq,Sum.inl.injEq,and_true]at h;exact Prod.ext h.1 h.2
def aO.put{H:Hp}{f a:Vb}{x:Bfs.Pl}{o o':HO}(b:H f=Vo o)(c:∀xs,o≠.tup xs)(h:aO H a x):aO (upd H f o') a x:=by show upd H f o' a=_;rw[aG (dM h b (λz=>c _ z.symm))];exact h
def dU(m:Int)(x:Bfs.Pl):Prop:=0<=x.1/\x.1<m/\0<=x.2/\x.2<=1000
inductive lW(K:Fn)(vs:List V)(H:Hp)(Q:VK)(E:XK):Prop|mk:∀a b m l as xs,vs=[.ref a,.ref l]->H a=Vo (.tup [.int m,b])->H l=Vo (.lst (List.map V.ref as))->Paired (aO H) as xs->(∀x∈xs,dU m x)->Q .non H->lW K vs H Q E
abbrev qF:Vl:=stq 34
def yb:FnScope ["house","places","place"] ["house","places"] (aH qF):=⟨rfl,rfl,rfl,by decide +kernel,rfl,by decide +kernel,by decide +kernel⟩
def DV{P:Vd}{w:Ve}{mg:Vn->Option Va}{base:Vh}(D:Dfn K mg "refuse_bad_places" qF ["house","places"])(T:Blt mg)(a:∃t,mg "GREATEST_NUMBER" = Vo (.int 1000 t))(d:Cal P w K mg base "is_room" 2 ["thing","many"] (jF K)):Cal P w K mg base "refuse_bad_places" 3 ["house","places"] (lW K):=by
 have nd:=(yb).nd;refine D.ok yb (λvs H Q E h=>?_) (λX r H vs Q E h=>?_)
 ·obtain⟨n,u,m,l,as,xs,rfl,_⟩:=h;rfl
 ·obtain⟨f,cdv,A,outer,s,H0,E0,rfl,y⟩:=r;obtain⟨e,c⟩:=a;obtain⟨n,u,m,l,as,xs,rfl,h1,h2,p,hin,q⟩:=h;refine⟨_,(ai (bq PassesOwn.never rfl (bP K (pv 1)) (aA (i:=2) nd rfl (Or.inl rfl)) (ao (aZ (PW.pt (cC (bM (aX (ax d y (aa (ah (ay K) (pv 2) af (λ_ _=>rfl)) (aa (ah (ay K) (pv 0) af (λ_ _=>rfl)) ae))))) (cW (aM dP (ah (ay K) (pv 2) af (λ_ _=>rfl)) af (aJ _))))) (ao i9) aP)))
    (ao (bq PassesOwn.never rfl (bP K (pv 1)) (aA (i:=2) nd rfl (Or.inl rfl)) (ao (aZ (aM eG (ah (ay K) (pv 2) af (λ_ _=>rfl)) (fU (v:=.int 1000) rfl c ⟨_,rfl⟩) (aJ _)) (ao i9) aP))))),?_⟩
  walk_at"";refine bN (ag.of h2) ?_;refine forL (xs:=List.map V.ref as) (λi σ H'=>H'=H/\∃k,σ=[Vo (.ref n),Vo (.ref l),k]) ⟨rfl,Vp,rfl⟩ (λi σ H' _ h=>by rw[h.1];exact ag.of h2) ?_ ?_
  ·rintro i x σ H' j ⟨rfl,k,rfl⟩;rw[Fu]at j;obtain⟨b,hb,rfl⟩:=FE.mp j;obtain⟨t,o,g⟩:=cg p hb;obtain⟨r0,r1,z,B⟩:=hin t (FC o);walk_at"";refine az (aj.of g) (v:=.int t.1) rfl ?_;walk_at"";refine az (aj.of h1) (v:=.int m) rfl ?_;walk_at"";refine⟨_,_,rfl,r0,r1,?_⟩;walk_at"";refine aw ?_;walk_at"";refine az (aj.of g) (v:=.int t.2) rfl ?_;walk_at"";rw[Gn (show ¬t.2<0 by omega)];refine aw ?_;walk_at"";exact⟨rfl,_,rfl⟩
  ·rintro σ H' ⟨rfl,k,rfl⟩;walk_at"";refine bN (ag.of h2) ?_;refine forL (xs:=List.map V.ref as) (λi σ H2=>H2=H'/\∃k,σ=[Vo (.ref n),Vo (.ref l),k]) ⟨rfl,_,rfl⟩ (λi σ H2 _ h=>by rw[h.1];exact ag.of h2) ?_ ?_
   ·rintro i x σ H2 j ⟨rfl,k,rfl⟩;rw[Fu]at j;obtain⟨b,hb,rfl⟩:=FE.mp j;obtain⟨t,o,g⟩:=cg p hb;obtain⟨r0,r1,z,B⟩:=hin t (FC o);walk_at"";refine az (aj.of g) (v:=.int t.2) rfl ?_;walk_at"";rw[Gn (show ¬(1000:Int)<t.2 by omega)];refine aw ?_;walk_at"";exact⟨rfl,_,rfl⟩
   ·rintro σ H2 ⟨rfl,k,rfl⟩;walk_at"";exact q
def cU(w:Way)(r n:Int):Bool:=decide (w.room=r) && (if decide (w.deed = "down")=true then decide (0<n)else(!decide (w.deed = "zero") || decide (n=0)))
inductive qR(K:Fn)(vs:List V)(H:Hp)(Q:VK)(E:XK):Prop|mk:∀b w p x,vs=[.ref b,.ref p]->H b=Vo (.tup (Way.vs w))->aO H p x->Q (.bl (cU w x.1 x.2)) H->qR K vs H Q E
abbrev om:Vl:=stq 35
def ur:FnScope ["way","place"] ["way","place"] (aH om):=⟨rfl,rfl,rfl,by decide +kernel,rfl,by decide +kernel,by decide +kernel⟩
def Dg{P:Vd}{w:Ve}{mg:Vn->Option Va}{base:Vh}(D:Dfn K mg "is_open" om ["way","place"])(T:Blt mg):Cal P w K mg base "is_open" 1 ["way","place"] (qR K):=by
 have nd:=(ur).nd;refine D.ok ur (λvs H Q E h=>?_) (λX d H vs Q E h=>?_)
 ·obtain⟨b,w,p,x,rfl,_⟩:=h;rfl
 ·obtain⟨f,cdv,A,outer,s,H0,E0,rfl,g⟩:=d;obtain⟨b,w,p,⟨r,n⟩,rfl,h1,h2,q⟩:=h;refine⟨_,(ai (aZ (aM eO (ah (ay K) (pv 0) af (λ_ _=>rfl)) (ah (ay K) (pv 1) af (λ_ _=>rfl)) (aJ _)) (ao (aB aT)) aP)
    (ai (aZ (aM bH (ah (ay K) (pv 0) af (λ_ _=>rfl)) aR (aJ _)) (ao (aB (dz eG (ah (ay K) (pv 1) af (λ_ _=>rfl)) af (aJ _)))) aP)
    (ao (aB (uM (dz eO (ah (ay K) (pv 0) af (λ_ _=>rfl)) aR (aJ _)) (cS (dz bH (ah (ay K) (pv 1) af (λ_ _=>rfl)) af (aJ _)))))))),?_⟩
  walk_at"";refine az (aj.of h1) (v:=.int w.room) rfl ?_;walk_at"";refine az (aj.of h2) (v:=.int r) rfl ?_;walk_at"";unfold cU at q;dsimp only at q;by_cases e:w.room=r
  ·rw[Gp e];refine aw ?_;walk_at"";rw[Gp e,Bool.true_and]at q;refine az (aj.of h1) (v:=.str w.deed) rfl ?_;walk_at"";refine fD ?_;refine rd_exb ?_;cases a:decide (w.deed = "down")with
   | true=>
    rw[a]at q;refine av ?_;walk_at"";refine az (aj.of h2) (v:=.int n) rfl ?_;walk_at"";exact q
   | false=>
    rw[a]at q;refine aw ?_;walk_at"";refine az (aj.of h1) (v:=.str w.deed) rfl ?_;walk_at"";refine Ca ?_;refine rd_exb ?_;cases c:decide (w.deed = "zero")with
    | true=>
     rw[c]at q;refine aw ?_;walk_at"";refine az (aj.of h2) (v:=.int n) rfl ?_;walk_at"";exact q
    | false=>
     rw[c]at q;exact av q
  ·rw[Gn e];refine av ?_;walk_at"";rw[Gn e,Bool.false_and]at q;exact q
def qD:List (Key×V):=[(.inr "up",.int 1),(.inr "down",.int (-1)),(.inr "stay",.int 0),(.inr "zero",.int 0)]
def EU{w:Ve}{K:Fn}{a:Vb}{b c d e g i j k:Tok}{ep:Nat}(h:K.lookup a=Vo (iN w [("up",b,.int 1 c),("down",d,.int (-1) e),("stay",g,.int 0 i),("zero",j,.int 0 k)] ep))(hs:(a == sysModules)=false):GDict w K a qD:=
 ⟨⟨_,_,h,.cons ⟨rfl,⟨_,rfl⟩⟩ (.cons ⟨rfl,⟨_,rfl⟩⟩ (.cons ⟨rfl,⟨_,rfl⟩⟩ (.cons ⟨rfl,⟨_,rfl⟩⟩ .nil)))⟩,by decide +kernel,hs⟩
def rz(z:Vn):Int:=if z = "up" then 1 else if z = "down" then -1 else 0
def AV{z:Vn}(h:cx z):bR qD (.inr z)=Vo (.int (rz z)):=by rcases h with rfl|rfl|rfl|rfl<;>decide +kernel
inductive j9(K:Fn)(vs:List V)(H:Hp)(Q:VK)(E:XK):Prop|mk:∀b w,vs=[.ref b]->H b=Vo (.tup (Way.vs w))->cx w.deed->Q (.int (rz w.deed)) H->j9 K vs H Q E
abbrev mX:Vl:=stq 36
def vW:FnScope ["way"] ["way"] (aH mX):=⟨rfl,rfl,rfl,by decide +kernel,rfl,by decide +kernel,by decide +kernel⟩
def yF{P:Vd}{w:Ve}{mg:Vn->Option Va}{base:Vh}(D:Dfn K mg "raised_by" mX ["way"])(T:Blt mg)(c:∃a,mg "RAISED" = Vo (.ref a)/\GDict w K a qD):Cal P w K mg base "raised_by" 1 ["way"] (j9 K):=by
 have nd:=(vW).nd;refine D.ok vW (λvs H Q E h=>?_) (λX i H vs Q E h=>?_)
 ·obtain⟨b,w,rfl,_⟩:=h;rfl
 ·obtain⟨f,cdv,A,outer,s,H0,E0,rfl,j⟩:=i;obtain⟨g,d,e⟩:=c;obtain⟨b,w,rfl,h1,hd,q⟩:=h;refine⟨_,(ao (aB (Ci rfl d e (ah (ay K) (pv 0) af (λ_ _=>rfl)) (λ_ _=>rfl)))),?_⟩;walk_at"";refine az (aj.of h1) (v:=.str w.deed) rfl ?_;exact yS (AV hd) q
def DO(z:Vn):-1<=rz z:=by
 unfold rz;split
 ·decide
 ·split<;>decide
def Eh(z:Vn):rz z<=1:=by
 unfold rz;split
 ·decide
 ·split<;>decide
inductive pX(K:Fn)(vs:List V)(H:Hp)(Q:VK)(E:XK):Prop|mk:∀b w p x,vs=[.ref b,.ref p]->H b=Vo (.tup (Way.vs w))->cx w.deed->aO H p x->(∀t H',Ext H H'->aO H' t (w.other,x.2+rz w.deed)->H t=Vp->Q (.ref t) H')->pX K vs H Q E
abbrev pK:Vl:=stq 37
def uC:FnScope ["way","place"] ["way","place"] (aH pK):=⟨rfl,rfl,rfl,by decide +kernel,rfl,by decide +kernel,by decide +kernel⟩
def Er{P:Vd}{w:Ve}{mg:Vn->Option Va}{base:Vh}(D:Dfn K mg "led_to" pK ["way","place"])(T:Blt mg)(a:Cal P w K mg base "raised_by" 1 ["way"] (j9 K)):Cal P w K mg base "led_to" 2 ["way","place"] (pX K):=by
 have nd:=(uC).nd;refine D.ok uC (λvs H Q E h=>?_) (λX d H vs Q E h=>?_)
 ·obtain⟨b,w,p,x,rfl,_⟩:=h;rfl
 ·obtain⟨f,cdv,A,outer,s,H0,E0,rfl,e⟩:=d;obtain⟨b,w,p,⟨r,n⟩,rfl,h1,hd,h2,q⟩:=h;refine⟨_,(ao (aB (bf (aa (ah (ay K) (pv 0) af (λ_ _=>rfl)) (aa (aq aN (ah (ay K) (pv 1) af (λ_ _=>rfl)) (ax a e (aa (pv 0) ae))) ae))))),?_⟩;walk_at"";refine az (aj.of h1) (v:=.int w.other) rfl ?_;walk_at"";refine az (aj.of h2) (v:=.int n) rfl ?_;walk_at"";refine⟨b,w,rfl,h1,hd,?_⟩;walk_at"";refine aK λt H1 g i c=>?_;exact q t H1 g i c
def jO:rz "up" = 1:=by decide +kernel
def j2:rz "down" = -1:=by decide +kernel
def kJ:rz "stay" = 0:=by decide +kernel
def mK:rz "zero" = 0:=by decide +kernel
def EG{w:Way}{r n:Int}(hd:cx w.deed)(a:0<=n)(h:cU w r n=true):0<=n+rz w.deed:=by
 unfold cU at h;rw[F5]at h;rcases hd with hd|hd|hd|hd
 ·rw[hd,jO];omega
 ·rw[hd,Gr (by decide +kernel)]at h;have:=of_decide_eq_true h.2;rw[hd,j2];omega
 ·rw[hd,kJ];omega
 ·rw[hd,mK];omega
section
variable {β:Type} {F:List Key×V->β->Prop} {key:β->Bfs.Pl} {kvs:List (List Key×V)} {q:List β}
def Cw(d:∀kv e,F kv e->kv.1=cw (key e))(h:Paired F kvs q){x:Bfs.Pl}(c:x∉q.map key):bR kvs (cw x)=Vp:=by
 induction h with
 | nil=>rfl
 | @cons a b as bs h t g=>
  rw[List.map_cons,FH,not_or]at c;rw[jk (λz=>c.1 (xr (z.symm.trans (d _ _ h))))];exact g c.2
def BS(c:∀kv e,F kv e->kv.1=cw (key e))(h:Paired F kvs q)(nd:(q.map key).Nodup){e:β}(d:e∈q):∃v,bR kvs (cw (key e))=Vo v/\F (cw (key e),v) e:=by
 induction h with
 | nil=>cases d
 | @cons a b as bs h t i=>
  rw[List.map_cons,List.nodup_cons]at nd;rcases FH.mp d with z|z
  ·subst z;have g:=c _ _ h;refine⟨a.2,lr g,?_⟩;rw[←g];exact h
  ·obtain⟨v,h1,h2⟩:=i nd.2 z;refine⟨v,?_,h2⟩;rw[jk (λw=>nd.1 ?_)]
   ·exact h1
   ·rw[xr ((c _ _ h).symm.trans w)];exact List.mem_map.mpr ⟨e,z,rfl⟩
end
def cO(m T:Int)(x:Bfs.Pl):Prop:=0<=x.1/\x.1<m/\0<=x.2/\x.2<=T
def cO.few{m T:Int}{l:List Bfs.Pl}(j:m<=12)(e:T<=2000)(g:l.Nodup)(h:∀x∈l,cO m T x):l.length<=24012:=
 Bfs.Ag e g λx i=>by obtain⟨a,b,c,d⟩:=h x i;exact⟨a,by omega,c,d⟩
def q5{n:Nat}(h:n<=24100):n<sizeLine:=Nat.lt_of_le_of_lt h (by decide)
def aL(n:Nat)(f:Nat->Bool):List V:=(Gm n).map λi=>V.bl (f i)
def bS(n:Nat)(f:Nat->Bool):(aL n f).length=n:=by simp[aL]
def eU{n i:Nat}(f:Nat->Bool)(h:i<n):(aL n f)[i]?=Vo (.bl (f i)):=by unfold aL;rw[Fu,List.getElem?_range h];rfl
def bY{n:Nat}{f g:Nat->Bool}(h:∀i,i<n->f i=g i):aL n f=aL n g:=by unfold aL;apply List.map_congr_left;intro i hi;rw[h i (List.mem_range.mp hi)]
def jB(n:Nat)(f:Nat->Bool):aL (n+1) f=aL n f++[V.bl (f n)]:=by unfold aL;rw[List.range_succ,FJ];rfl
def gr{n k:Nat}(f:Nat->Bool)(c:Bool)(a:k<n):(aL n f).set k (.bl c)=aL n λi=>if i=k then c else f i:=by
 apply List.ext_getElem?;intro i;rcases Gf i n with hi|hi
 ·rw[List.getElem?_set,bS,eU _ hi,eU _ hi];by_cases h:k=i
  ·subst h;simp[hi]
  ·rw[Gq h,Gq (Ne.symm h)]
 ·rw[List.getElem?_eq_none (by rw[List.length_set,bS];exact hi),List.getElem?_eq_none (by rw[bS];exact hi)]
def cR{n:Nat}{f:Nat->Bool}{i:Int}(a:0<=i)(h:i<n):bF (aL n f) i=Vo (.bl (f i.toNat)):=eD a (eU f (by omega))
def jU(n:Nat)(c:Bool):(Gb n [V.bl c]).flatten=aL n λ_=>c:=by
 induction n with
 | zero=>rfl
 | succ n a=>
  rw[List.replicate_succ',List.flatten_append,a,jB];rfl
def B1{n:Nat}{f:Nat->Bool}{i:Int}(b:0<=i)(h:i<=n):dO (aL n f) Vp (Vo i)=aL i.toNat f:=by
 unfold dO;rw[bS,HT.uD];have e:HT.cz n n (Vo i)=i.toNat:=by show(if i<0 then(i+(n:Int)).toNat else min i.toNat n)=i.toNat;rw[Gq (by omega)];omega
 rw[e,List.drop_zero,Nat.sub_zero];apply List.ext_getElem?;intro k;rcases Gf k i.toNat with a|a
 ·rw[List.getElem?_take_of_lt a,eU _ (by omega),eU _ a]
 ·rw[List.getElem?_eq_none (by rw[Gi,bS];omega),List.getElem?_eq_none (by rw[bS];omega)]
def Rows(H:Hp)(q:Vb)(rs:List Vb)(n:Nat)(M:Nat->Nat->Bool):Prop:=H q=Vo (.lst (rs.map V.ref))/\∀(i:Nat) (r:Vb),rs[i]?=Vo r->H r=Vo (.lst (aL n (M i)))
def Rows.ext{H H':Hp}(e:Ext H H'){q:Vb}{rs:List Vb}{n:Nat}{M:Nat->Nat->Bool}(h:Rows H q rs n M):Rows H' q rs n M:=⟨e _ _ h.1,λi r hi=>e _ _ (h.2 i r hi)⟩
inductive jt(K:Fn)(vs:List V)(H:Hp)(Q:VK)(E:XK):Prop|mk:∀a m ws d,vs=[a,.str d]->bC H a m ws->HOuse m ws->(∀l cs us H',Ext H H'->H l=Vp->H' l=Vo (.lst (List.map V.ref cs))->aQ H' cs us->us=ws.filter (λw=>decide (w.deed=d))->Q (.ref l) H')->jt K vs H Q E
abbrev pI:Vl:=stq 40
def vB:FnScope ["house","deed"] ["house","deed"] (aH pI):=⟨rfl,rfl,rfl,by decide +kernel,rfl,by decide +kernel,by decide +kernel⟩
def yz{P:Vd}{w:Ve}{mg:Vn->Option Va}{base:Vh}(D:Dfn K mg "ways_of_deed" pI ["house","deed"])(T:Blt mg):Cal P w K mg base "ways_of_deed" 1 ["house","deed"] (jt K):=by
 have nd:=(vB).nd;refine D.ok vB (λvs H Q E h=>?_) (λX z H vs Q E h=>?_)
 ·obtain⟨B,m,ws,d,rfl,_⟩:=h;rfl
 ·obtain⟨f,cdv,A,outer,s,H0,E0,rfl,L⟩:=z;obtain⟨B,m,ws,d,rfl,C,ok,q⟩:=h;have few:=ok.few;obtain⟨F,n,rfl,G,I⟩:=id C;obtain⟨bs,u,k⟩:=b9.al I;have p:=k.1;refine⟨_,(@ao _ _ _ (@aB _ _ _ _ (bK ["way"] [1] (ft K (@ah _ _ _ _ _ _ _ (ay K) (pv 0) af (λ_ _=>rfl))) (λ_=>(aA (i:=0) (show(["way","deed"]:List Vn).Nodup from by decide +kernel) rfl (Or.inl rfl) (Or.inr rfl))) (λ_=>(dw (aM bH (@ah _ _ _ _ _ _ _ (ay K) (pv 0) af (λ_ _=>rfl)) (pv 1) (aJ _)))) (λ_=>(pv 0))))),?_⟩;walk_at"";refine az (aj.of G) (v:=.ref n) rfl ?_;walk_at"";refine eT (aj.of u) ?_;refine lZ (xs:=bs.map V.ref) (λi ys H'=>H'=H/\∃cs us,ys=List.map V.ref cs/\aQ H cs us/\us=(ws.take i).filter λw=>decide (w.deed=d)) (bw (by rw[Fs];omega)) ⟨rfl,[],[],rfl,aQ.nil _,rfl⟩ ?_ ?_ ?_
  ·rintro i ys H' _ ⟨rfl,cs,us,rfl,a,rfl⟩;refine⟨aj.of u,?_⟩;rw[Fs,a.1];exact FY (List.length_filter_le _ _) (by rw[Gi];omega)
  ·rintro i v ys H' x ⟨rfl,cs,us,rfl,a,c⟩;rw[Fu]at x;obtain⟨b,hb,rfl⟩:=FE.mp x;have r:i<ws.length:=by have:=(FA.mp hb).1;omega
   have g:ws[i]?=Vo ws[i]:=Ft r;have j:=k.2 i b _ hb g;generalize ws[i]=w0 at g j;walk_at"";refine az (aj.of j) (v:=.str w0.deed) rfl ?_;walk_at"";refine fD (rd_exb ?_);cases y:decide (w0.deed=d)with
   | true=>
    refine av ?_;walk_at"";refine⟨rfl,cs++[b],us++[w0],?_,a.snoc j,?_⟩
    ·rw[FJ];rfl
    ·rw[c,List.take_add_one,g,List.filter_append];congr 1;show[w0]=List.filter _ [w0];rw[List.filter_cons,Gr y];rfl
   | false=>
    refine aw ⟨rfl,cs,us,rfl,a,?_⟩;rw[c,List.take_add_one,g,List.filter_append];have:List.filter (λw:Way=>decide (w.deed=d)) [w0]=[]:=by rw[List.filter_cons,Gq (by rw[y];exact FI)];rfl
    show _=_++List.filter _ [w0];rw[this,List.append_nil]
  ·rintro ys H' pc ⟨J,cs,us,rfl,a,c⟩ l;subst J;rw[Fs,p,FW]at c;have e:=aV (o:=.lst (List.map V.ref cs)) l;exact q pc cs us _ e l aI (a.ext e) c
theorem r6{x:Vb}:∀{l:List Vb} {i:Nat},l.Nodup->x∉l->(l.set i x).Nodup
 | [],_,_,_=>List.nodup_nil
 | a::l,0,h,b=>by rw[List.nodup_cons]at h;exact List.nodup_cons.mpr ⟨λz=>b (Fv _ z),h.2⟩
 | a::l,i+1,h,b=>by
  rw[List.nodup_cons]at h;refine List.nodup_cons.mpr ⟨λz=>?_,r6 h.2 λz=>b (Fv _ z)⟩;rcases List.mem_or_eq_of_mem_set z with z|z
  ·exact h.1 z
  ·exact b (by rw[z];exact Fy)
structure TB(H H':Hp)(q:Vb)(rs rs':List Vb)(n:Nat)(M:Nat->Nat->Bool):Prop where
 keep:∀b o,b≠q->H b=Vo o->H' b=Vo o
 len:rs'.length=n
 nd:rs'.Nodup
 nq:q∉rs'
 old:∀r∈rs',r∈rs\/H r=Vp
 rows:Rows H' q rs' n M
theorem TB.congr{H H':Hp}{q:Vb}{rs rs':List Vb}{n:Nat}{M M':Nat->Nat->Bool}(h:TB H H' q rs rs' n M)(e:∀i j,i<n->j<n->M i j=M' i j):TB H H' q rs rs' n M':=
 ⟨h.keep,h.len,h.nd,h.nq,h.old,h.rows.1,λi r hi=>by
  rw[h.rows.2 i r hi];have a:i<n:=by rw[←h.len];exact(FA.mp hi).1
  congr 2;exact bY λj b=>e i j a b⟩
theorem TB.set{H H1:Hp}{q d:Vb}{rs c:List Vb}{n i:Nat}{M:Nat->Nat->Bool}{f:Nat->Bool}(h:TB H H1 q rs c n M)(hi:i<n)(g:H1 d=Vp):TB H (upd (upd H1 d (.lst (aL n f))) q (.lst ((c.map V.ref).set i (.ref d)))) q rs (c.set i d) n (λa b=>if a=i then f b else M a b):=by
 have s:H1 q=Vo (.lst (c.map V.ref)):=h.rows.1;have k:q≠d:=λz=>by rw[z,g]at s;cases s
 have nin:d∉c:=λz=>by obtain⟨j,v⟩:=Gg z;rw[h.rows.2 j d v]at g;cases g
 refine⟨λb o nb e=>?_,by rw[List.length_set];exact h.len,r6 h.nd nin,λz=>?_,λr m=>?_,?_,λa r ha=>?_⟩
 ·have u:=h.keep b o nb e;rw[aG nb,aG (cQ u g)];exact u
 ·rcases List.mem_or_eq_of_mem_set z with z|z
  ·exact h.nq z
  ·exact k z
 ·rcases List.mem_or_eq_of_mem_set m with m|rfl
  ·exact h.old r m
  ·right;cases e:H r with
   | none=>rfl
   | some o=>rw[h.keep r o (Ne.symm k) e]at g;cases g
 ·rw[aI,List.map_set]
 ·rw[List.getElem?_set]at ha;by_cases l:i=a
  ·subst l;rw[Gr rfl,Gr (by rw[h.len];exact hi)]at ha;cases ha;rw[aG (Ne.symm k),aI];congr 2;exact bY λj _=>by dsimp only;rw[Gr rfl]
  ·rw[Gq l]at ha;have e:=h.rows.2 a r ha;have p:r≠q:=λz=>h.nq (z ▸ FC ha);rw[aG p,aG (cQ e g),e];congr 2;exact bY λj _=>by dsimp only;rw[Gq (Ne.symm l)]
def jn(M:Nat->Nat->Bool)(k:Nat):Nat->Nat->Bool:=λi j=>M i j || (M i k && M k j)
def bU(M:Nat->Nat->Bool):Nat->Nat->Nat->Bool
 | 0=>M
 | k+1=>jn (bU M k) k
structure Joined(n:Nat)(M M':Nat->Nat->Bool):Prop where
 le:∀i j,M i j=true->M' i j=true
 tr:∀i a j,a<n->M' i a=true->M' a j=true->M' i j=true
 least:∀S:Nat->Nat->Prop,(∀i a j,S i a->S a j->S i j)->(∀i j,M i j=true->S i j)->∀i j,M' i j=true->S i j
theorem rT(M:Nat->Nat->Bool):∀k,Joined k M (bU M k)
 | 0=>⟨λ_ _ h=>h,λ_ _ _ h=>absurd h (Nat.not_lt_zero _),λ_ _ h=>h⟩
 | k+1=>by
  have b:=rT M k;have up:∀i j,bU M (k+1) i j=true↔(bU M k i j=true\/(bU M k i k=true/\bU M k k j=true)):=λi j=>by show(bU M k i j || (bU M k i k && bU M k k j))=true↔_;simp
  refine⟨λi j h=>(up i j).mpr (.inl (b.le i j h)),λi a j ha h1 h2=>?_,λS d e i j h=>?_⟩
  ·rw[up]at h1 h2 ⊢;by_cases g:a=k
   ·subst g;have x1:bU M a i a=true:=by rcases h1 with h|h;exact h;exact h.1
    have m:bU M a a j=true:=by rcases h2 with h|h;exact h;exact h.2
    exact .inr ⟨x1,m⟩
   ·have hlt:a<k:=by omega
    rcases h1 with h1|⟨h1,l⟩<;>rcases h2 with h2|⟨h2,c⟩
    ·exact .inl (b.tr i a j hlt h1 h2)
    ·exact .inr ⟨b.tr i a k hlt h1 h2,c⟩
    ·exact .inr ⟨h1,b.tr k a j hlt l h2⟩
    ·exact .inr ⟨h1,c⟩
  ·rcases(up i j).mp h with h|⟨h1,h2⟩
   ·exact b.least S d e i j h
   ·exact d i k j (b.least S d e i k h1) (b.least S d e k j h2)
inductive qf(K:Fn)(vs:List V)(H:Hp)(Q:VK)(E:XK):Prop|mk:∀q rs n M,vs=[.ref q]->TB H H q rs rs n M->n<=12->(∀rs' M' H',TB H H' q rs rs' n M'->Joined n M M'->Q .non H')->qf K vs H Q E
abbrev nE:Vl:=stq 43
def uf:FnScope ["table","many","middle","p"] ["table"] (aH nE):=⟨rfl,rfl,rfl,by decide +kernel,rfl,by decide +kernel,by decide +kernel⟩
def Dz{P:Vd}{w:Ve}{mg:Vn->Option Va}{base:Vh}(D:Dfn K mg "join_walks" nE ["table"])(T:Blt mg):Cal P w K mg base "join_walks" 1 ["table"] (qf K):=by
 have nd:=(uf).nd;refine D.ok uf (λvs H Q E h=>?_) (λX R H vs Q E h=>?_)
 ·obtain⟨q,rs,n,M,rfl,_⟩:=h;rfl
 ·obtain⟨f,cdv,A,outer,s,H0,E0,rfl,Y⟩:=R;obtain⟨d,rs,n,M,rfl,o,Z,q⟩:=h;refine⟨_,(@ai _ _ _ _ _ (@aC _ _ 1 _ _ _ _ nd rfl (Or.inl rfl) (aU (dh K) rfl T.len_ PySem.boot_len (@aa _ _ _ _ _ (pv 0) ae rfl)) rfl (Or.inl rfl))
    (@ao _ _ _ (bq PassesOwn.never rfl (cb rfl T.range_ (@aa _ _ _ _ _ (pv 1) ae rfl)) (aA (i:=2) nd rfl (Or.inr rfl)) (@ao _ _ _ (bq PassesOwn.never rfl (cb rfl T.range_ (@aa _ _ _ _ _ (pv 1) ae rfl)) (aA (i:=3) nd rfl (Or.inr rfl)) (@ao _ _ _ (cF (aX (@ah _ _ _ _ _ _ _ (aF K) (@ah _ _ _ _ _ _ _ (aF K) (pv 0) (pv 3) (λ_ _=>rfl)) (pv 2) (λ_ _=>rfl))) (@ao _ _ _ (@dE _ _ _ _ _ _ (bK ["q"] [0,3,2] (cb rfl T.range_ (@aa _ _ _ _ _ (pv 1) ae rfl)) (λ_=>(aA (i:=0) (show(["q","table","p","middle"]:List Vn).Nodup from by decide +kernel) rfl (Or.inl rfl) (Or.inr rfl))) (λ_=>cn) (λ_=>(uM (@ah _ _ _ _ _ _ _ (aF K) (@ah _ _ _ _ _ _ _ (aF K) (pv 1) (pv 2) (λ_ _=>rfl)) (pv 0) (λ_ _=>rfl)) (cS (@ah _ _ _ _ _ _ _ (aF K) (@ah _ _ _ _ _ _ _ (aF K) (pv 1) (pv 3) (λ_ _=>rfl)) (pv 0) (λ_ _=>rfl)))))) (fu (pv 0) (pv 3) set_list) rfl rfl rfl)) aP))))))),?_⟩
  walk_at"";refine fK (ag.of o.rows.1) ?_;rw[Fs,o.len];walk_at"";refine cj (by omega) ?_;rw[FF];refine forR (λk σ H'=>∃c k1 k2,TB H H' d rs c n (bU M k)/\σ=[Vo (.ref d),Vo (.int (n:Nat)),k1,k2]) ⟨rs,_,_,o,rfl⟩ ?_ ?_
  ·rintro k σ H1 S ⟨c,k1,k2,tb,rfl⟩;rw[show (0:Int)+(k:Int)=((k:Nat):Int) by omega];walk_at"";refine cj (by omega) ?_;rw[FF];refine forR (λp σ H'=>∃a k2,TB H H' d rs a n (λi j=>if i<p then jn (bU M k) k i j else bU M k i j)/\σ=[Vo (.ref d),Vo (.int (n:Nat)),Vo (.int (k:Nat)),k2]) ⟨c,_,tb,rfl⟩ ?_ ?_
   ·rintro p σ H2 C ⟨a,k2,b,rfl⟩;rw[show (0:Int)+(p:Int)=((p:Nat):Int) by omega];have r:p<a.length:=by rw[b.len];exact C
    have u:k<a.length:=by rw[b.len];exact S
    have v:a[p]?=Vo a[p]:=Ft r;have x:a[k]?=Vo a[k]:=Ft u;have F:=b.rows.2 p _ v;have G:=b.rows.2 k _ x;generalize a[p]=ap at v F;generalize a[k]=I at x G;have e:bF (a.map V.ref) ((p:Nat):Int)=Vo (.ref ap):=fk (by rw[Fu,v];rfl);have y:bF (a.map V.ref) ((k:Nat):Int)=Vo (.ref I):=fk (by rw[Fu,x];rfl);have g:H2 ap=Vo (.lst (aL n (bU M k p))):=by rw[F];congr 2;exact bY λj _=>by dsimp only;rw[Gq (Nat.lt_irrefl _)]
    have z:H2 I=Vo (.lst (aL n (bU M k k))):=by
     rw[G];congr 2;refine bY λj _=>?_;dsimp only;by_cases l:k<p
     ·rw[Gr l];unfold jn;cases bU M k k j<;>simp
     ·rw[Gq l]
    walk_at"";refine fY ?_;walk_at"";refine aE (ag.of b.rows.1) e ?_;walk_at"";refine aE (ag.of g) (cR (by omega) (by omega)) ?_;rw[FF];walk_at"";cases J:bU M k p k with
    | false=>
     refine aw ?_;walk_at"";refine⟨a,_,b.congr λi j hi L=>?_,rfl⟩
     try dsimp only
     by_cases h1:i<p
     ·rw[Gr h1,Gr (by omega)]
     ·rw[Gq h1];by_cases h2:i<p+1
      ·have:i=p:=by omega
       subst this;rw[Gr h2];unfold jn;rw[J];simp
      ·rw[Gq h2]
    | true=>
     refine av ?_;walk_at"";refine cj (by omega) ?_;rw[FF];refine dD (λi ys H'=>H'=H2/\ys=aL i (jn (bU M k) k p)) (bw (by omega)) ⟨rfl,rfl⟩ ?_ ?_ ?_
     ·rintro i ys H' _ ⟨_,rfl⟩;rw[bS];exact FN _
     ·rintro i ys N hi ⟨rfl,rfl⟩;rw[show (0:Int)+(i:Int)=((i:Nat):Int) by omega];walk_at"";refine av ?_;walk_at"";refine aE (ag.of b.rows.1) e ?_;walk_at"";refine aE (ag.of g) (cR (by omega) (by omega)) ?_;rw[FF];refine rd_exb ?_;cases O:bU M k p i with
      | true=>
       refine av ⟨rfl,?_⟩;rw[jB];congr 1;show[V.bl true]=[V.bl (bU M k p i || _)];rw[O];rfl
      | false=>
       refine aw ?_;walk_at"";refine aE (ag.of b.rows.1) y ?_;walk_at"";refine aE (ag.of z) (cR (by omega) (by omega)) ?_;rw[FF];refine⟨rfl,?_⟩;rw[jB];congr 1;show[V.bl (bU M k k i)]=[V.bl (bU M k p i || (bU M k p k && bU M k k i))];rw[O,J];simp
     ·rintro ys N U ⟨W,rfl⟩ m;subst W;have B:(upd N U (.lst (aL n (jn (bU M k) k p)))) d=Vo (.lst (a.map V.ref)):=(aV m) _ _ b.rows.1;walk_at"";refine fI B (fB (by omega) (by rw[Fs,b.len];omega)) ?_;rw[FF];refine⟨_,_,(b.set (f:=jn (bU M k) k p) C m).congr λi j hi L=>?_,rfl⟩
      try dsimp only
      by_cases h1:i=p
      ·subst h1;rw[Gr rfl,Gr (by omega)]
      ·rw[Gq h1];by_cases h2:i<p
       ·rw[Gr h2,Gr (by omega)]
       ·rw[Gq h2,Gq (by omega)]
   ·rintro σ H2 ⟨a,k2,b,rfl⟩;exact⟨a,_,_,b.congr (λi j hi L=>by rw[Gr hi];rfl),rfl⟩
  ·rintro σ H1 ⟨c,k1,k2,tb,rfl⟩;walk_at"";exact q c _ H1 tb (rT M n)
def put2(M:Nat->Nat->Bool)(i x:Nat):Nat->Nat->Bool:=λj y=>if j=i/\y=x then true else M j y
structure TW(H H':Hp)(q:Vb)(rs:List Vb)(n:Nat)(M:Nat->Nat->Bool):Prop where
 keep:∀b o,b∉rs->H b=Vo o->H' b=Vo o
 len:rs.length=n
 nd:rs.Nodup
 nq:q∉rs
 rows:Rows H' q rs n M
def TW.mark{H H1:Hp}{q r:Vb}{rs:List Vb}{n i j:Nat}{M:Nat->Nat->Bool}(h:TW H H1 q rs n M)(hi:rs[i]?=Vo r)(m:j<n):TW H (upd H1 r (.lst ((aL n (M i)).set j (.bl true)))) q rs n (put2 M i j):=by
 have k:=FC hi;have nqr:q≠r:=λz=>h.nq (z ▸ k);refine⟨λb o nb e=>?_,h.len,h.nd,h.nq,?_,λa l ha=>?_⟩
 ·have g:b≠r:=λz=>nb (by rw[z];exact k);rw[aG g];exact h.keep b o nb e
 ·rw[aG nqr];exact h.rows.1
 ·by_cases c:a=i
  ·subst c;rw[hi]at ha;cases ha;rw[aI,gr _ _ m];congr 2;refine bY λy _=>?_;unfold put2;by_cases d:y=j
   ·rw[Gr d,Gr ⟨rfl,d⟩]
   ·rw[Gq d,Gq λz=>d z.2]
  ·have p:l≠r:=λz=>c ((List.getElem?_inj (by rw[h.len];exact(by rw[←h.len];exact(FA.mp ha).1)) h.nd).mp (by rw[ha,hi,z]));rw[aG p,h.rows.2 a l ha];congr 2;exact bY λy _=>by unfold put2;rw[Gq λz=>c z.1]
structure ArchR(n:Nat)(us ds:List Way)(M M':Nat->Nat->Bool)(ad:Bool):Prop where
 le:∀i j,M i j=true->M' i j=true
 same:ad=false->∀i j,M' i j=M i j
 more:ad=true->∃i j,i<n/\j<n/\M i j=false/\M' i j=true
 least:∀S:Nat->Nat->Prop,(∀u∈us,∀d∈ds,S u.other.toNat d.room.toNat->S u.room.toNat d.other.toNat)->(∀i j,M i j=true->S i j)->∀i j,M' i j=true->S i j
def ArchR.refl{n:Nat}{us ds:List Way}{M:Nat->Nat->Bool}:ArchR n us ds M M false:=⟨λ_ _ h=>h,λ_ _ _=>rfl,λh=>(nomatch h),λ_ _ h=>h⟩
def ArchR.put{n:Nat}{us ds:List Way}{M M':Nat->Nat->Bool}{ad:Bool}(h:ArchR n us ds M M' ad){u d:Way}(k:u∈us)(hd:d∈ds)(h1:M' u.other.toNat d.room.toNat=true)(h2:M' u.room.toNat d.other.toNat=false)(b:u.room.toNat<n)(c:d.other.toNat<n):ArchR n us ds M (put2 M' u.room.toNat d.other.toNat) true:=by
 have le:∀i j,M i j=true->put2 M' u.room.toNat d.other.toNat i j=true:=λi j a=>by
  unfold put2;split
  ·rfl
  ·exact h.le i j a
 refine⟨le,λz=>(nomatch z),λ_=>⟨_,_,b,c,?_,by unfold put2;rw[Gr ⟨rfl,rfl⟩]⟩,λS e a i j g=>?_⟩
 ·rw[Bool.eq_false_iff];intro z;rw[h.le _ _ z]at h2;cases h2
 ·unfold put2 at g;split at g
  ·rename_i z;rw[z.1,z.2];exact e u k d hd (h.least S e a _ _ h1)
  ·exact h.least S e a i j g
inductive qC(K:Fn)(vs:List V)(H:Hp)(Q:VK)(E:XK):Prop|mk:∀q rs n M lu cu us ld cd ds,vs=[.ref q,.ref lu,.ref ld]->TW H H q rs n M->H lu=Vo (.lst (List.map V.ref cu))->aQ H cu us->H ld=Vo (.lst (List.map V.ref cd))->aQ H cd ds->lu∉rs->ld∉rs->(∀w∈us++ds,0<=w.room/\w.room<(n:Int)/\0<=w.other/\w.other<(n:Int))->(∀M' ad H',TW H H' q rs n M'->ArchR n us ds M M' ad->(ad=false->∀u∈us,∀d∈ds,M u.other.toNat d.room.toNat=true->M u.room.toNat d.other.toNat=true)->Q (.bl ad) H')->qC K vs H Q E
abbrev oV:Vl:=stq 44
def va:FnScope ["table","ups","downs","added","rise","fall"] ["table","ups","downs"] (aH oV):=⟨rfl,rfl,rfl,by decide +kernel,rfl,by decide +kernel,by decide +kernel⟩
def yk{P:Vd}{w:Ve}{mg:Vn->Option Va}{base:Vh}(D:Dfn K mg "add_arches" oV ["table","ups","downs"])(T:Blt mg):Cal P w K mg base "add_arches" 1 ["table","ups","downs"] (qC K):=by
 have nd:=(va).nd;refine D.ok va (λvs H Q E h=>?_) (λX hX H vs Q E h=>?_)
 ·obtain⟨q,rs,n,M,lu,cu,us,ld,cd,ds,rfl,_⟩:=h;rfl
 ·obtain⟨f,cdv,A,outer,s,H0,E0,rfl,hr⟩:=hX;obtain⟨qt,rs,n,M,lu,cu,us,ld,cd,ds,rfl,tw,G,I,J,L,a0,N,hin,q⟩:=h;have O:=I.1;have R:=L.1;refine⟨_,(@ai _ _ _ _ _ (@aC _ _ 3 _ _ _ _ nd rfl (Or.inl rfl) aT rfl (Or.inl rfl))
    (@ai _ _ _ _ _ (bq PassesOwn.never rfl (bP K (pv 1)) (aA (i:=4) nd rfl (Or.inl rfl)) (@ao _ _ _ (bq PassesOwn.never rfl (bP K (pv 2)) (aA (i:=5) nd rfl (Or.inl rfl)) (@ao _ _ _ (cF (PW.pt (eS (aX (@ah _ _ _ _ _ _ _ (aF K) (@ah _ _ _ _ _ _ _ (aF K) (pv 0) (@ah _ _ _ _ _ _ _ (ay K) (pv 4) af (λ_ _=>rfl)) (λ_ _=>rfl)) (@ah _ _ _ _ _ _ _ (ay K) (pv 5) af (λ_ _=>rfl)) (λ_ _=>rfl))) (fH (bM (aX (@ah _ _ _ _ _ _ _ (aF K) (@ah _ _ _ _ _ _ _ (aF K) (pv 0) (@ah _ _ _ _ _ _ _ (ay K) (pv 4) af (λ_ _=>rfl)) (λ_ _=>rfl)) (@ah _ _ _ _ _ _ _ (ay K) (pv 5) af (λ_ _=>rfl)) (λ_ _=>rfl))))))) (@ai _ _ _ _ _ (@dE _ _ _ _ _ _ aT (fu (@ah _ _ _ _ _ _ _ (aF K) (pv 0) (@ah _ _ _ _ _ _ _ (ay K) (pv 4) af (λ_ _=>rfl)) (λ_ _=>rfl)) (@ah _ _ _ _ _ _ _ (ay K) (pv 5) af (λ_ _=>rfl)) set_list) rfl rfl rfl)
    (@ao _ _ _ (@aC _ _ 3 _ _ _ _ nd rfl (Or.inl rfl) aT rfl (Or.inl rfl)))) aP)))))
    (@ao _ _ _ (@aB _ _ _ _ (pv 3))))),?_⟩
  have tupN:∀(b:Vb) (w:Way),H b=Vo (.tup w.vs)->b∉rs:=λb w hb z=>by obtain⟨j,hj⟩:=Gg z;rw[tw.rows.2 j b hj]at hb;cases hb
  walk_at"";refine bN (ag.of G) ?_;refine forL (xs:=List.map V.ref cu) (λi σ H'=>∃M' ad k1 k2,TW H H' qt rs n M'/\ArchR n us ds M M' ad/\(ad=false->∀a,a<i->∀u,us[a]?=Vo u->∀d∈ds,M u.other.toNat d.room.toNat=true->M u.room.toNat d.other.toNat=true)/\σ=[Vo (.ref qt),Vo (.ref lu),Vo (.ref ld),Vo (.bl ad),k1,k2]) ⟨M,false,_,_,tw,.refl,λ_ a ha=>absurd ha (Nat.not_lt_zero _),rfl⟩ (λi σ H' _ h=>by obtain⟨M',ad,k1,k2,t,_⟩:=h;exact ag.of (t.keep _ _ a0 G)) ?_ ?_
  ·rintro i v σ H1 hx ⟨M1,ad,k1,k2,o,r,p,rfl⟩;rw[Fu]at hx;obtain⟨bu,S,rfl⟩:=FE.mp hx;have a3:i<us.length:=by rw[←O];exact(FA.mp S).1
   have gu:us[i]?=Vo us[i]:=Ft a3;have k:=I.2 i bu _ S gu;generalize us[i]=u at gu k;have U:=FC gu;obtain⟨u0,u1,u2,u3⟩:=hin u (Ga _ U);walk_at"";refine bN (ag.of (o.keep _ _ N J)) ?_;refine forL (xs:=List.map V.ref cd) (λj σ H'=>∃M' ad k2,TW H H' qt rs n M'/\ArchR n us ds M M' ad/\(ad=false->(∀a,a<i->∀u,us[a]?=Vo u->∀d∈ds,M u.other.toNat d.room.toNat=true->M u.room.toNat d.other.toNat=true)/\∀b,b<j->∀d,ds[b]?=Vo d->M u.other.toNat d.room.toNat=true->M u.room.toNat d.other.toNat=true)/\σ=[Vo (.ref qt),Vo (.ref lu),Vo (.ref ld),Vo (.bl ad),Vo (.ref bu),k2]) ⟨M1,ad,_,o,r,λh=>⟨p h,λb hb=>absurd hb (Nat.not_lt_zero _)⟩,rfl⟩ (λj σ H' _ h=>by obtain⟨M',ad,k2,t,_⟩:=h;exact ag.of (t.keep _ _ N J)) ?_ ?_
   ·rintro j v σ H2 W ⟨F,l,k2,c,e,cl2,rfl⟩;rw[Fu]at W;obtain⟨bd,Y,rfl⟩:=FE.mp W;have a4:j<ds.length:=by rw[←R];exact(FA.mp Y).1
    have gd:ds[j]?=Vo ds[j]:=Ft a4;have m:=L.2 j bd _ Y gd;generalize ds[j]=d at gd m;have Z:=FC gd;obtain⟨d0,d1,d2,d3⟩:=hin d (F9 _ Z);have ku:=c.keep _ _ (tupN bu u k) k;have kd:=c.keep _ _ (tupN bd d m) m;have x1:u.other.toNat<rs.length:=by rw[c.len];omega
    have x2:u.room.toNat<rs.length:=by rw[c.len];omega
    have r1:rs[u.other.toNat]?=Vo rs[u.other.toNat]:=Ft x1;have r2:rs[u.room.toNat]?=Vo rs[u.room.toNat]:=Ft x2;have w1:=c.rows.2 _ _ r1;have w2:=c.rows.2 _ _ r2;generalize rs[u.other.toNat]=a1 at r1 w1;generalize rs[u.room.toNat]=a2 at r2 w2;have a5:bF (rs.map V.ref) u.other=Vo (.ref a1):=eD u2 (by rw[Fu,r1];rfl);have at2:bF (rs.map V.ref) u.room=Vo (.ref a2):=eD u0 (by rw[Fu,r2];rfl);have step:(M u.other.toNat d.room.toNat=true->M u.room.toNat d.other.toNat=true)->l=false->∀b,b<j+1->∀d',ds[b]?=Vo d'->M u.other.toNat d'.room.toNat=true->M u.room.toNat d'.other.toNat=true:=λhs g b hb d' x=>by
     by_cases a6:b<j
     ·exact(cl2 g).2 b a6 d' x
     ·have:b=j:=by omega
      subst this;rw[gd]at x;cases x;exact hs
    walk_at"";refine fY ?_;walk_at"";refine az (aj.of ku) (v:=.int u.other) rfl ?_;walk_at"";refine aE (ag.of c.rows.1) a5 ?_;walk_at"";refine az (aj.of kd) (v:=.int d.room) rfl ?_;walk_at"";refine aE (ag.of w1) (cR d0 (by omega)) ?_;walk_at"";cases y:F u.other.toNat d.room.toNat with
    | false=>
     refine aw ?_;walk_at"";refine⟨F,l,_,c,e,λg=>⟨(cl2 g).1,step (λz=>?_) g⟩,rfl⟩;rw[e.same g]at y;rw[y]at z;cases z
    | true=>
     refine av ?_;walk_at"";refine az (aj.of ku) (v:=.int u.room) rfl ?_;walk_at"";refine aE (ag.of c.rows.1) at2 ?_;walk_at"";refine az (aj.of kd) (v:=.int d.other) rfl ?_;walk_at"";refine aE (ag.of w2) (cR d2 (by omega)) ?_;walk_at"";cases B:F u.room.toNat d.other.toNat with
     | true=>
      refine aw ?_;walk_at"";refine⟨F,l,_,c,e,λg=>⟨(cl2 g).1,step (λ_=>?_) g⟩,rfl⟩;rw[e.same g]at B;exact B
     | false=>
      refine av ?_;walk_at"";refine az (aj.of ku) (v:=.int u.room) rfl ?_;walk_at"";refine aE (ag.of c.rows.1) at2 ?_;walk_at"";refine az (aj.of kd) (v:=.int d.other) rfl ?_;walk_at"";refine fI w2 (fB d2 (by rw[bS];omega)) ?_;walk_at"";exact⟨_,true,_,c.mark r2 (by omega),e.put U Z y B (by omega) (by omega),λz=>(nomatch z),rfl⟩
   ·rintro σ H2 ⟨F,l,k2,c,e,cl2,rfl⟩;rw[Fs,R]at cl2;refine⟨F,l,_,_,c,e,λg a ha u' C=>?_,rfl⟩;by_cases a7:a<i
    ·exact(cl2 g).1 a a7 u' C
    ·have:a=i:=by omega
     subst this;rw[gu]at C;cases C;intro d hd;obtain⟨b,hb⟩:=Gg hd;exact(cl2 g).2 b (FA.mp hb).1 d hb
  ·rintro σ H1 ⟨M1,ad,k1,k2,o,r,p,rfl⟩;rw[Fs,O]at p;walk_at"";refine q M1 ad H1 o r λg u hu d hd=>?_;obtain⟨a,ha⟩:=Gg hu;exact p g a (FA.mp ha).1 u ha d hd
inductive Kpt(ws:List Way)(n:Nat):Nat->Nat->Prop
 | refl {i:Nat}:i<n->Kpt ws n i i
 | stay {w:Way}:w∈ws->w.deed = "stay"->Kpt ws n w.room.toNat w.other.toNat
 | trans {i a j:Nat}:Kpt ws n i a->Kpt ws n a j->Kpt ws n i j
 | arch {u d:Way}:u∈ws->u.deed = "up"->d∈ws->d.deed = "down"->Kpt ws n u.other.toNat d.room.toNat->Kpt ws n u.room.toNat d.other.toNat
def iL{m:Int}{ws:List Way}(ok:∀w∈ws,w.Ok m){w:Way}(a:w∈ws):w.room.toNat<m.toNat/\w.other.toNat<m.toNat:=by have h:=ok w a;have:=h.r0;have:=h.r1;have:=h.o0;have:=h.o1;omega
def Kpt.lt{m:Int}{ws:List Way}(ok:∀w∈ws,w.Ok m){i j:Nat}(h:Kpt ws m.toNat i j):i<m.toNat/\j<m.toNat:=by
 induction h with
 | refl h=>exact⟨h,h⟩
 | stay h _=>exact iL ok h
 | trans _ _ h1 h2=>exact⟨h1.1,h2.2⟩
 | arch h1 _ h2 _ _ _=>exact⟨(iL ok h1).1,(iL ok h2).2⟩
def EZ(ws:List Way)(M:Nat->Nat->Bool):Prop:=∀i j,M i j=true↔(i=j\/∃w∈ws,w.deed = "stay"/\w.room.toNat=i/\w.other.toNat=j)
def i5(n:Nat)(M:Nat->Nat->Bool):Nat:=((Gm n).flatMap λi=>(Gm n).map λj=>(i,j)).countP λz=>!M z.1 z.2
theorem nN{α:Type}{p c:α->Bool}(hi:∀y,c y=true->p y=true){a:α}(ha:p a=true)(d:c a=false):∀{L:List α},a∈L->L.countP c<L.countP p
 | b::L,e=>by
  have hle:L.countP c<=L.countP p:=List.countP_mono_left λy _=>hi y;rw[List.countP_cons,List.countP_cons];rcases FH.mp e with rfl|e
  ·rw[ha,d];simp;omega
  ·have:=nN hi ha d e;cases h1:c b with
   | false=>simp[h1];split<;>omega
   | true=>rw[hi b h1];simp;omega
def B5{n i j:Nat}{M M':Nat->Nat->Bool}(hi:i<n)(d:j<n)(le:∀a b,M a b=true->M' a b=true)(h1:M i j=false)(h2:M' i j=true):i5 n M'<i5 n M:=by
 refine nN (a:=(i,j)) (λy e=>?_) (by simp[h1]) (by simp[h2]) (by simp;exact⟨hi,d⟩);have c:M' y.1 y.2=false:=by simpa using e
 have:M y.1 y.2=false:=by rw[Bool.eq_false_iff];intro z;rw[le _ _ z]at c;cases c
 simp[this]
structure KT(H H':Hp)(q:Vb)(rs:List Vb)(n:Nat)(M:Nat->Nat->Bool):Prop where
 ext:Ext H H'
 fq:H q=Vp
 fr:∀r∈rs,H r=Vp
 len:rs.length=n
 nd:rs.Nodup
 nq:q∉rs
 rows:Rows H' q rs n M
def KT.tw{H H':Hp}{q:Vb}{rs:List Vb}{n:Nat}{M:Nat->Nat->Bool}(h:KT H H' q rs n M):TW H' H' q rs n M:=⟨λ_ _ _ e=>e,h.len,h.nd,h.nq,h.rows⟩
def KT.tb{H H':Hp}{q:Vb}{rs:List Vb}{n:Nat}{M:Nat->Nat->Bool}(h:KT H H' q rs n M):TB H' H' q rs rs n M:=⟨λ_ _ _ e=>e,h.len,h.nd,h.nq,λ_ h=>.inl h,h.rows⟩
def KT.more{H H1 H2:Hp}{q:Vb}{rs:List Vb}{n:Nat}{M:Nat->Nat->Bool}(h:KT H H1 q rs n M)(e:Ext H1 H2):KT H H2 q rs n M:=⟨h.ext.trans e,h.fq,h.fr,h.len,h.nd,h.nq,h.rows.ext e⟩
def KT.byW{H H1 H2:Hp}{q:Vb}{rs:List Vb}{n:Nat}{M M':Nat->Nat->Bool}(h:KT H H1 q rs n M)(t:TW H1 H2 q rs n M'):KT H H2 q rs n M':=
 ⟨λb o e=>t.keep b o (λz=>by rw[h.fr b z]at e;cases e) (h.ext b o e),h.fq,h.fr,h.len,h.nd,h.nq,t.rows⟩
def KT.byB{H H1 H2:Hp}{q:Vb}{rs rs':List Vb}{n:Nat}{M M':Nat->Nat->Bool}(h:KT H H1 q rs n M)(t:TB H1 H2 q rs rs' n M'):KT H H2 q rs' n M':=
 ⟨λb o e=>t.keep b o (λz=>by rw[z,h.fq]at e;cases e) (h.ext b o e),h.fq,λr a=>by
  rcases t.old r a with z|z
  ·exact h.fr r z
  ·cases e:H r with
   | none=>rfl
   | some o=>exact absurd ((h.ext r o e).symm.trans z) (by simp),t.len,t.nd,t.nq,t.rows⟩
inductive oG(K:Fn)(vs:List V)(H:Hp)(Q:VK)(E:XK):Prop|mk:∀a m ws,vs=[a]->bC H a m ws->HOuse m ws->(∀q rs M H',KT H H' q rs m.toNat M->EZ ws M->Q (.ref q) H')->oG K vs H Q E
abbrev oK:Vl:=stq 42
def xb:FnScope ["house","table","p","way"] ["house"] (aH oK):=⟨rfl,rfl,rfl,by decide +kernel,rfl,by decide +kernel,by decide +kernel⟩
def zD{P:Vd}{w:Ve}{mg:Vn->Option Va}{base:Vh}(D:Dfn K mg "beginning_table" oK ["house"])(T:Blt mg)(d:Cal P w K mg base "ways_of_deed" 1 ["house","deed"] (jt K)):Cal P w K mg base "beginning_table" 2 ["house"] (oG K):=by
 have nd:=(xb).nd;refine D.ok xb (λvs H Q E h=>?_) (λX hX H vs Q E h=>?_)
 ·obtain⟨vh,m,ws,rfl,_⟩:=h;rfl
 ·obtain⟨f,cdv,A,outer,s,H0,E0,rfl,C⟩:=hX;obtain⟨vh,m,ws,rfl,hv,ok,q⟩:=h;have m1:=ok.m1;have m12:=ok.m12;obtain⟨J,a9,rfl,hh,_⟩:=id hv;refine⟨_,(@ai _ _ _ _ _ (@aC _ _ 1 _ _ _ _ nd rfl (Or.inl rfl) (@bo _ _ _ _ ae) rfl (Or.inl rfl))
    (@ai _ _ _ _ _ (bq PassesOwn.never rfl (cb rfl T.range_ (@aa _ _ _ _ _ (@ah _ _ _ _ _ _ _ (ay K) (pv 0) af (λ_ _=>rfl)) ae rfl)) (aA (i:=2) nd rfl (Or.inr rfl)) (@ao _ _ _ (bz (bT K Fz FO FP bZ (pv 1) (@aa _ _ _ _ _ (bK ["q"] [2] (cb rfl T.range_ (@aa _ _ _ _ _ (@ah _ _ _ _ _ _ _ (ay K) (pv 0) af (λ_ _=>rfl)) ae rfl)) (λ_=>(aA (i:=0) (show(["q","p"]:List Vn).Nodup from by decide +kernel) rfl (Or.inl rfl) (Or.inr rfl))) (λ_=>cn) (λ_=>(dz bH (pv 1) (pv 0) (aJ _)))) ae rfl)))))
    (@ai _ _ _ _ _ (bq PassesOwn.never rfl (bP K (ax d C (@aa _ _ _ _ _ (pv 0) (@aa _ _ _ _ _ aR ae rfl) rfl))) (aA (i:=3) nd rfl (Or.inl rfl)) (@ao _ _ _ (@dE _ _ _ _ _ _ aT (fu (@ah _ _ _ _ _ _ _ (aF K) (pv 1) (@ah _ _ _ _ _ _ _ (ay K) (pv 3) af (λ_ _=>rfl)) (λ_ _=>rfl)) (@ah _ _ _ _ _ _ _ (ay K) (pv 3) af (λ_ _=>rfl)) set_list) rfl rfl rfl)))
    (@ao _ _ _ (@aB _ _ _ _ (pv 1)))))),?_⟩
  walk_at"";refine aK λtq H1 e1 a6 W=>?_;walk_at"";refine az (aj.of (e1 _ _ hh)) (v:=.int m) rfl ?_;walk_at"";refine cj (by omega) ?_;refine forR (λp σ H'=>∃rs k1 k2,Ext H H'/\H' tq=Vo (.lst (List.map V.ref rs))/\(∀r∈rs,H r=Vp)/\rs.length=p/\rs.Nodup/\tq∉rs/\(∀(a:Nat) (r:Vb),rs[a]?=Vo r->H' r=Vo (.lst (aL m.toNat λj=>decide (a=j))))/\σ=[Vo (.ref J),Vo (.ref tq),k1,k2]) ⟨[],_,_,e1,a6,λr C=>(by cases C),rfl,List.nodup_nil,by simp,λa r h=>by simp at h,rfl⟩ ?_ ?_
  ·rintro p σ H2 hp ⟨rs,k1,k2,S,g,L,F,G,y,hrs,rfl⟩;rw[show (0:Int)+(p:Int)=((p:Nat):Int) by omega];walk_at"";refine⟨cJ (ag.of g),?_⟩;walk_at"";refine az (aj.of (S _ _ hh)) (v:=.int m) rfl ?_;walk_at"";refine cj (by omega) ?_;refine dD (λi ys H'=>H'=H2/\ys=aL i (λj=>decide (p=j))) (bw (by omega)) ⟨rfl,rfl⟩ ?_ ?_ ?_
   ·rintro i ys H' _ ⟨_,rfl⟩;rw[bS];exact FN _
   ·rintro i ys N hi ⟨rfl,rfl⟩;rw[show (0:Int)+(i:Int)=((i:Nat):Int) by omega];walk_at"";refine av ?_;walk_at"";refine⟨rfl,?_⟩;rw[jB];congr 3;rw[F4];simp;omega
   ·rintro ys N x ⟨hH,rfl⟩ n;subst hH;have U:=aV (o:=.lst (aL m.toNat λj=>decide (p=j))) n;have Y:=U _ _ g;have h9:(upd N x (.lst (aL m.toNat λj=>decide (p=j)))) x=_:=aI;have Z:=S.trans U;have hrs3:∀(a:Nat) (r:Vb),rs[a]?=Vo r->(upd N x (.lst (aL m.toNat λj=>decide (p=j)))) r=Vo (.lst (aL m.toNat λj=>decide (a=j))):=λa r h=>U _ _ (hrs a r h);have n9:H x=Vp:=by
     cases z:H x with
     | none=>rfl
     | some o=>rw[S _ _ z]at n;cases n
    have nin:x∉rs:=λz=>by obtain⟨j,hj⟩:=Gg z;rw[hrs j x hj]at n;cases n
    have a0:tq≠x:=λz=>by rw[z,n]at g;cases g
    generalize upd N x (.lst (aL m.toNat λj=>decide (p=j)))=H4 at U Y h9 Z hrs3 ⊢;walk_at"";refine bX Y (by rw[Fs];exact Nat.lt_of_le_of_lt (show rs.length<=12 by omega) (by decide)) ?_;walk_at"";have keep:∀b o,b≠tq->H4 b=Vo o->upd H4 tq (.lst (List.map V.ref rs++[.ref x])) b=Vo o:=λb o nb e=>by rw[aG nb];exact e
    refine⟨rs++[x],_,_,cA Z W,?_,λr C=>?_,by rw[FK,F];rfl,?_,λz=>?_,λa r ha=>?_,rfl⟩
    ·rw[aI,FJ];rfl
    ·rcases FQ.mp C with C|C
     ·exact L r C
     ·rw[FD.mp C];exact n9
    ·rw[List.nodup_append];refine⟨G,by simp,λa ha c hc z=>?_⟩;rw[FD.mp hc]at z;exact nin (z ▸ ha)
    ·rcases FQ.mp z with z|z
     ·exact y z
     ·exact a0 (FD.mp z)
    ·by_cases a7:a<rs.length
     ·rw[FT a7]at ha;exact keep r _ (λz=>y (z ▸ FC ha)) (hrs3 a r ha)
     ·rw[FR (by omega)]at ha;have hz:a-rs.length=0:=by have:=(FA.mp ha).1;simp at this;omega
      rw[hz]at ha;cases ha;have:a=p:=by omega
      subst this;exact keep x _ (Ne.symm a0) h9
  ·rintro σ H2 ⟨rs,k1,k2,S,g,L,F,G,y,hrs,rfl⟩;have tw:TW H2 H2 tq rs m.toNat (λi j=>decide (i=j)):=⟨λ_ _ _ e=>e,F,G,y,g,hrs⟩;have kt:KT H H2 tq rs m.toNat (λi j=>decide (i=j)):=⟨S,W,L,F,G,y,g,hrs⟩;walk_at"";refine⟨.ref J,m,ws,_,rfl,hv.ext S,ok,λl cs us N U a1 hl a3 a4=>?_⟩;have O:=kt.more U;have nl:l∉rs:=λz=>by obtain⟨j,hj⟩:=Gg z;rw[hrs j l hj]at a1;cases a1
   have a5:=a3.1;have tupN:∀(b:Vb) (w:Way),N b=Vo (.tup w.vs)->b∉rs:=λb w hb z=>by obtain⟨j,hj⟩:=Gg z;rw[O.rows.2 j b hj]at hb;cases hb
   refine bN (ag.of hl) ?_;refine forL (xs:=List.map V.ref cs) (λi σ H'=>∃M k1 k2,TW N H' tq rs m.toNat M/\(∀a b,M a b=true↔(a=b\/∃w∈us.take i,w.room.toNat=a/\w.other.toNat=b))/\σ=[Vo (.ref J),Vo (.ref tq),k1,k2]) ⟨_,_,_,O.tw,λa b=>by simp,rfl⟩ (λi σ H' _ h=>by obtain⟨M,k1,k2,t,_⟩:=h;exact ag.of (t.keep _ _ nl hl)) ?_ ?_
   ·rintro i v σ H4 hx ⟨M,k1,k2,k,hM,rfl⟩;rw[Fu]at hx;obtain⟨b,hb,rfl⟩:=FE.mp hx;have hi:i<us.length:=by rw[←a5];exact(FA.mp hb).1
    have gu:us[i]?=Vo us[i]:=Ft hi;have R:=a3.2 i b _ hb gu;generalize us[i]=u at gu R;have a8:u∈ws:=by have:=FC gu;rw[a4]at this;exact(List.mem_filter.mp this).1
    have I:=ok.ok u a8;have u0:=I.r0;have u1:=I.r1;have u2:=I.o0;have u3:=I.o1;have kb:=k.keep _ _ (tupN b u R) R;have x2:u.room.toNat<rs.length:=by rw[k.len];omega
    have r2:rs[u.room.toNat]?=Vo rs[u.room.toNat]:=Ft x2;have w2:=k.rows.2 _ _ r2;generalize rs[u.room.toNat]=a2 at r2 w2;have at2:bF (rs.map V.ref) u.room=Vo (.ref a2):=eD u0 (by rw[Fu,r2];rfl);walk_at"";refine az (aj.of kb) (v:=.int u.room) rfl ?_;walk_at"";refine aE (ag.of k.rows.1) at2 ?_;walk_at"";refine az (aj.of kb) (v:=.int u.other) rfl ?_;walk_at"";refine fI w2 (fB u2 (by rw[bS];omega)) ?_;refine⟨_,_,_,k.mark r2 (by omega),λa c=>?_,rfl⟩;rw[List.take_add_one,gu];unfold put2;split
    ·rename_i z;simp only[true_iff];exact .inr ⟨u,F9 _ (by simp),z.1.symm,z.2.symm⟩
    ·rename_i z;rw[hM];constructor
     ·rintro(h|⟨w,B,h⟩)
      ·exact .inl h
      ·exact .inr ⟨w,Ga _ B,h⟩
     ·rintro(h|⟨w,B,h1,h2⟩)
      ·exact .inl h
      ·rcases FQ.mp B with B|B
       ·exact .inr ⟨w,B,h1,h2⟩
       ·have:w=u:=by simpa using B
        subst this;exact absurd ⟨h1.symm,h2.symm⟩ z
   ·rintro σ H4 ⟨M,k1,k2,k,hM,rfl⟩;rw[Fs,a5,FW]at hM;walk_at"";refine q tq rs M H4 (O.byW k) λa b=>?_;rw[hM,a4];constructor
    ·rintro(h|⟨w,B,h⟩)
     ·exact .inl h
     ·obtain⟨h1,h2⟩:=List.mem_filter.mp B;exact .inr ⟨w,h1,of_decide_eq_true h2,h⟩
    ·rintro(h|⟨w,B,hd,h⟩)
     ·exact .inl h
     ·exact .inr ⟨w,List.mem_filter.mpr ⟨B,Gp hd⟩,h⟩
structure UD(H:Hp)(tq:Vb)(rs:List Vb)(lu ld:Vb)(cu cd:List Vb)(us ds:List Way):Prop where
 u:H lu=Vo (.lst (List.map V.ref cu))
 au:aQ H cu us
 d:H ld=Vo (.lst (List.map V.ref cd))
 ad:aQ H cd ds
 nu:lu∉rs
 nd:ld∉rs
 qu:lu≠tq
 qd:ld≠tq
def aQ.byW{H H':Hp}{q:Vb}{rs:List Vb}{n:Nat}{M M':Nat->Nat->Bool}(r:Rows H q rs n M)(t:TW H H' q rs n M'){bs:List Vb}{ws:List Way}(h:aQ H bs ws):aQ H' bs ws:=⟨h.1,λj b w a c=>by have hb:=h.2 j b w a c;refine t.keep b _ (λz=>?_) hb;obtain⟨j,d⟩:=Gg z;rw[r.2 j b d]at hb;cases hb⟩
def aQ.byB{H H':Hp}{q:Vb}{rs rs':List Vb}{n:Nat}{M M':Nat->Nat->Bool}(r:Rows H q rs n M)(t:TB H H' q rs rs' n M'){bs:List Vb}{ws:List Way}(h:aQ H bs ws):aQ H' bs ws:=⟨h.1,λj b w a c=>by have hb:=h.2 j b w a c;refine t.keep b _ (λz=>?_) hb;rw[z,r.1]at hb;cases hb⟩
theorem UD.byW{H H':Hp}{tq:Vb}{rs:List Vb}{lu ld:Vb}{cu cd:List Vb}{us ds:List Way}{n:Nat}{M M':Nat->Nat->Bool}(r:Rows H tq rs n M)(t:TW H H' tq rs n M')(h:UD H tq rs lu ld cu cd us ds):UD H' tq rs lu ld cu cd us ds:=
 ⟨t.keep _ _ h.nu h.u,h.au.byW r t,t.keep _ _ h.nd h.d,h.ad.byW r t,h.nu,h.nd,h.qu,h.qd⟩
theorem UD.byB{H H':Hp}{tq:Vb}{rs rs':List Vb}{lu ld:Vb}{cu cd:List Vb}{us ds:List Way}{n:Nat}{M M':Nat->Nat->Bool}(r:Rows H tq rs n M)(t:TB H H' tq rs rs' n M')(h:UD H tq rs lu ld cu cd us ds):UD H' tq rs' lu ld cu cd us ds:=by
 have no:∀l o,H l=Vo o->l∉rs->l∉rs':=λl o a b z=>by
  rcases t.old l z with y|y
  ·exact b y
  ·rw[a]at y;cases y
 exact⟨t.keep _ _ h.qu h.u,h.au.byB r t,t.keep _ _ h.qd h.d,h.ad.byB r t,no _ _ h.u h.nu,no _ _ h.d h.nd,h.qu,h.qd⟩
def qm(ws:List Way)(n:Nat)(M:Nat->Nat->Bool):Prop:=∀i j,i<n->j<n->(M i j=true↔Kpt ws n i j)
structure KJ(ws:List Way)(n:Nat)(M:Nat->Nat->Bool):Prop where
 beg:∀i j,(i=j\/∃w∈ws,w.deed = "stay"/\w.room.toNat=i/\w.other.toNat=j)->M i j=true
 snd:∀i j,M i j=true->i=j\/Kpt ws n i j
def Bd{m:Int}{ws:List Way}{M:Nat->Nat->Bool}(ok:∀w∈ws,w.Ok m)(h:KJ ws m.toNat M)(tr:∀i a j,a<m.toNat->M i a=true->M a j=true->M i j=true)(b:∀u∈ws.filter (λw=>decide (w.deed=F7 "up")),∀d∈ws.filter (λw=>decide (w.deed=F7 "down")),M u.other.toNat d.room.toNat=true->M u.room.toNat d.other.toNat=true):qm ws m.toNat M:=by
 intro i j hi c;constructor
 ·intro e;rcases h.snd i j e with rfl|h
  ·exact .refl hi
  ·exact h
 ·intro g;clear hi c;induction g with
  | refl _=>exact h.beg _ _ (.inl rfl)
  | stay h1 h2=>exact h.beg _ _ (.inr ⟨_,h1,h2,rfl,rfl⟩)
  | trans h1 h2 i1 i2=>exact tr _ _ _ (Kpt.lt ok h1).2 i1 i2
  | arch h1 h2 k l o n=>exact b _ (List.mem_filter.mpr ⟨h1,Gp h2⟩) _ (List.mem_filter.mpr ⟨k,Gp l⟩) n
def KJ.join{m:Int}{ws:List Way}{M M':Nat->Nat->Bool}(h:KJ ws m.toNat M)(j:Joined m.toNat M M'):KJ ws m.toNat M':=by
 refine⟨λa b hb=>j.le _ _ (h.beg a b hb),λa b c=>j.least (λa b=>a=b\/Kpt ws m.toNat a b) (λi a j h1 h2=>?_) h.snd a b c⟩;rcases h1 with rfl|h1
 ·exact h2
 ·rcases h2 with rfl|h2
  ·exact .inr h1
  ·exact .inr (.trans h1 h2)
theorem KJ.arch{m:Int}{ws:List Way}{M M':Nat->Nat->Bool}{ad:Bool}(ok:∀w∈ws,w.Ok m)(h:KJ ws m.toNat M)(a:ArchR m.toNat (ws.filter λw=>decide (w.deed=F7 "up")) (ws.filter λw=>decide (w.deed=F7 "down")) M M' ad):KJ ws m.toNat M':=by
 refine⟨λi j hb=>a.le _ _ (h.beg i j hb),λi j k=>a.least (λa b=>a=b\/Kpt ws m.toNat a b) (λu l d hd hs=>?_) h.snd i j k⟩;obtain⟨n,c⟩:=List.mem_filter.mp l;obtain⟨g,e⟩:=List.mem_filter.mp hd;have c:=of_decide_eq_true c;have e:=of_decide_eq_true e;right;refine .arch n c g e ?_;rcases hs with hs|hs
 ·rw[hs];exact .refl (iL ok g).1
 ·exact hs
inductive kQ(K:Fn)(vs:List V)(H:Hp)(Q:VK)(E:XK):Prop|mk:∀a m ws,vs=[a]->bC H a m ws->HOuse m ws->(∀q rs M H',KT H H' q rs m.toNat M->qm ws m.toNat M->Q (.ref q) H')->kQ K vs H Q E
abbrev mr:Vl:=stq 45
def uz:FnScope ["house","table","ups","downs"] ["house"] (aH mr):=⟨rfl,rfl,rfl,by decide +kernel,rfl,by decide +kernel,by decide +kernel⟩
def Ff{P:Vd}{w:Ve}{mg:Vn->Option Va}{base:Vh}(D:Dfn K mg "kept_table" mr ["house"])(T:Blt mg)(k:Cal P w K mg base "add_arches" 1 ["table","ups","downs"] (qC K))(e:Cal P w K mg base "join_walks" 1 ["table"] (qf K))(c:Cal P w K mg base "ways_of_deed" 1 ["house","deed"] (jt K))(g:Cal P w K mg base "beginning_table" 2 ["house"] (oG K)):Cal P w K mg base "kept_table" 3 ["house"] (kQ K):=by
 have nd:=(uz).nd;refine D.ok uz (λvs H Q E h=>?_) (λX hX H vs Q E h=>?_)
 ·obtain⟨F,m,ws,rfl,_⟩:=h;rfl
 ·obtain⟨f,cdv,A,outer,s,H0,E0,rfl,L⟩:=hX;obtain⟨F,m,ws,rfl,hv,ok,q⟩:=h;have m1:=ok.m1;have m12:=ok.m12;refine⟨_,(ai (aC (i:=1) nd rfl (Or.inl rfl) (ax g L (aa (pv 0) ae)))
    (ai (aC (i:=2) nd rfl (Or.inl rfl) (ax c L (aa (pv 0) (aa aR ae))))
    (ai (aC (i:=3) nd rfl (Or.inl rfl) (ax c L (aa (pv 0) (aa aR ae))))
    (ai (bz (ax e L (aa (pv 1) ae)))
    (ai (fF PassesOwn.never (aX (ax k L (aa (pv 1) (aa (pv 2) (aa (pv 3) ae))))) (ao (bz (ax e L (aa (pv 1) ae)))))
    (ao (aB (pv 1)))))))),?_⟩
  walk_at"";refine⟨F,m,ws,rfl,hv,ok,λtq rs M H1 kt bg=>?_⟩;walk_at"";refine⟨F,m,ws,_,rfl,hv.ext kt.ext,ok,λlu cu us H2 e2 O B R G=>?_⟩;walk_at"";refine⟨F,m,ws,_,rfl,hv.ext (kt.ext.trans e2),ok,λld cd ds H3 e3 S C U I=>?_⟩;have J:=kt.more (e2.trans e3);have kj:KJ ws m.toNat M:=⟨λi j h=>(bg i j).mpr h,λi j h=>by
   rcases(bg i j).mp h with h|⟨w,hw,hd,rfl,rfl⟩
   ·exact .inl h
   ·exact .inr (.stay hw hd)⟩
  have nin:∀l,H1 l=Vp->l∉rs/\l≠tq:=λl hl=>by
   refine⟨λz=>?_,λz=>?_⟩
   ·obtain⟨j,hj⟩:=Gg z;rw[kt.rows.2 j l hj]at hl;cases hl
   ·rw[z,kt.rows.1]at hl;cases hl
  have p:H1 ld=Vp:=by
   cases z:H1 ld with
   | none=>rfl
   | some o=>rw[e2 _ _ z]at S;cases S
  have ud:UD H3 tq rs lu ld cu cd us ds:=⟨e3 _ _ B,R.ext e3,C,U,(nin lu O).1,(nin ld p).1,(nin lu O).2,(nin ld p).2⟩;have hin:∀w∈us++ds,0<=w.room/\w.room<(m.toNat:Int)/\0<=w.other/\w.other<(m.toNat:Int):=λw hw=>by
   have a0:w∈ws:=by
    rcases FQ.mp hw with h|h
    ·rw[G]at h;exact(List.mem_filter.mp h).1
    ·rw[I]at h;exact(List.mem_filter.mp h).1
   have h:=ok.ok w a0;have h1:=h.r0;have h2:=h.r1;have h3:=h.o0;have h4:=h.o1;omega
  clear B R C U nin p;walk_at"";refine⟨tq,rs,m.toNat,M,rfl,J.tb,by omega,λa7 M1 H4 tb jd=>?_⟩;have a8:=J.byB tb;have a9:=ud.byB J.rows tb;have ab:=kj.join jd;walk_at"";refine fE (λmm σ H'=>∃rs M,KT H H' tq rs m.toNat M/\UD H' tq rs lu ld cu cd us ds/\KJ ws m.toNat M/\(∀i a j,a<m.toNat->M i a=true->M a j=true->M i j=true)/\mm=i5 m.toNat M/\σ=[Vo F,Vo (.ref tq),Vo (.ref lu),Vo (.ref ld)]) (λσ H'=>∃rs M,KT H H' tq rs m.toNat M/\qm ws m.toNat M/\σ=[Vo F,Vo (.ref tq),Vo (.ref lu),Vo (.ref ld)]) (i5 m.toNat M1) ⟨a7,M1,a8,a9,ab,jd.tr,rfl,rfl⟩ ?_ ?_
  ·rintro mm σ H5 ⟨r,M5,v,n,ac,ak,rfl,rfl⟩;walk_at"";refine⟨tq,r,m.toNat,M5,lu,cu,us,ld,cd,ds,rfl,v.tw,n.u,n.au,n.d,n.ad,n.nu,n.nd,hin,λM6 ad H6 tw N cl=>?_⟩;have x:=v.byW tw;have am:=n.byW v.rows tw;rw[G,I]at N;have W:=ac.arch ok.ok N;walk_at"";cases ad with
   | false=>
    refine aw ⟨r,M6,x,Bd ok.ok W (λi a j ha h1 h2=>?_) (λu hu d hd hm=>?_),rfl⟩
    ·rw[N.same rfl]at h1 h2 ⊢;exact ak i a j ha h1 h2
    ·rw[N.same rfl]at hm ⊢;exact cl rfl u (by rw[G];exact hu) d (by rw[I];exact hd) hm
   | true=>
    refine av ⟨λY H'=>∃rs M,KT H H' tq rs m.toNat M/\UD H' tq rs lu ld cu cd us ds/\KJ ws m.toNat M/\(∀i a j,a<m.toNat->M i a=true->M a j=true->M i j=true)/\i5 m.toNat M<i5 m.toNat M5/\Y=[Vo F,Vo (.ref tq),Vo (.ref lu),Vo (.ref ld)],λY H' ⟨rs,M,a1,a2,a3,a4,a5,a6⟩=>⟨_,a5,rs,M,a1,a2,a3,a4,rfl,a6⟩,?_⟩;walk_at"";refine⟨tq,r,m.toNat,M6,rfl,x.tb,by omega,λan M7 H7 Z y=>?_⟩;walk_at"";obtain⟨i,j,hi,hj,hf,ht⟩:=N.more rfl;exact⟨an,M7,x.byB Z,am.byB x.rows Z,W.join y,y.tr,B5 hi hj (λa b h=>y.le _ _ (N.le _ _ h)) hf (y.le _ _ ht),rfl⟩
  ·rintro σ H5 ⟨r,M5,v,ap,rfl⟩;walk_at"";exact q tq r M5 H5 v ap
def nM{sp:Sp}{js:List Nat}{cells:List (Vn×Vb)}{N:List Vn}{ta:TA}{σ:St}{H:Hp}{Q:VK} (h:ta σ H λvs H1=>(∀j∈js,∃v,σ[j]?=Vo (Vo v)) ∧
 ∀cp:List Cap,cp.length=js.length->(∀(i j:Nat) (e:Cap),js[i]?=Vo j->cp[i]?=Vo e->N[j]?=Vo e.n/\cells.lookup e.n=Vo e.c/\σ[j]?=Vo (Vo e.v)/\H1 e.c=Vp/\∃u,e.o.data=.cell (Vo u)/\RelV e.v u) →
  sp vs (bQ (cellsOf cp) H1) (λv H'=>(∀b o,(cellsOf cp).lookup b=Vo o->H' b=Vo (cZ b o))/\Q v (aY (cellsOf cp) H')) E0):jy sp js cells N ta σ H Q:=h
def xx{P:Vd}{w:Ve}{K:Fn}{mg:Vn->Option Va}{base:Vh}{k:Nat}{a:TE}{ta:TA}{σ:St}{H:Hp}{Q:VK}(h:a σ H λb H1=>∃f pre R,b=.ref f/\FunR P w K mg base k f pre R/\pre H1/\ta σ H1 λvs H2=>pre H2/\R vs H2 Q):vd P w K mg base k a ta σ H Q:=h
def kF{cs:List (Vb×Obj)}{H:Hp}(a:∀b o,cs.lookup b=Vo o->H b=Vp):Ext H (bQ cs H):=λb o e=>nV a e
def gF{cs:List (Vb×Obj)}{H:Hp}(a:∀b o,cs.lookup b=Vo o->H b=Vo (cZ b o)){b:Vb}{x:HO}(hb:H b=Vo x)(nx:∀f,x≠.ext f):aY cs H b=Vo x:=by
 cases q:cs.lookup b with
 | none=>rw[cL q];exact hb
 | some o=>rw[a b o q]at hb;cases hb;exact absurd rfl (nx _)
def EI{cs:List (Vb×Obj)}{H:Hp}(a:∀b o,cs.lookup b=Vo o->H b=Vo (cZ b o)):Ext H (bQ cs (aY cs H)):=λb x e=>by
 cases q:cs.lookup b with
 | none=>rw[cV q,cL q];exact e
 | some o=>rw[fh q,←a b o q];exact e
def E5{cs:List (Vb×Obj)}{H H':Hp}(a:∀b o,cs.lookup b=Vo o->H b=Vp)(e:Ext (bQ cs H) H'):Ext H (aY cs H'):=λb x hb=>by
 cases q:cs.lookup b with
 | none=>rw[cL q];exact e b x (by rw[cV q];exact hb)
 | some o=>rw[a b o q]at hb;cases hb
def dv(n:Nat)(g:Nat->Nat->Bool):Nat->List Bfs.Pl
 | 0=>[]
 | p+1=>dv n g p++((Gm n).filter (g p)).map λq:Nat=>(((p:Nat):Int),((q:Nat):Int))
theorem iM{n:Nat}{g:Nat->Nat->Bool}{x:Bfs.Pl}:∀{k:Nat},x∈dv n g k↔∃p q:Nat,p<k/\q<n/\g p q=true/\x=(((p:Nat):Int),((q:Nat):Int))
 | 0=>⟨λh=>(nomatch h),λ⟨p,_,h,_⟩=>absurd h (Nat.not_lt_zero _)⟩
 | k+1=>by
  show x∈dv n g k++_↔_;rw[FQ,iM (k:=k)];constructor
  ·rintro(⟨p,q,h1,h2⟩|h)
   ·exact⟨p,q,by omega,h2⟩
   ·obtain⟨q,b,rfl⟩:=List.mem_map.mp h;obtain⟨h1,h2⟩:=List.mem_filter.mp b;exact⟨k,q,by omega,List.mem_range.mp h1,h2,rfl⟩
  ·rintro⟨p,q,h1,h2,a,rfl⟩;by_cases c:p<k
   ·exact .inl ⟨p,q,c,h2,a,rfl⟩
   ·have:p=k:=by omega
    subst this;exact .inr (List.mem_map.mpr ⟨q,List.mem_filter.mpr ⟨List.mem_range.mpr h2,a⟩,rfl⟩)
def rA(n:Nat)(g:Nat->Bool):((Gm n).filter g).length<=n:=FY (List.length_filter_le _ _) (by rw[List.length_range];exact FN _)
theorem my{n:Nat}{g:Nat->Nat->Bool}:∀k:Nat,(dv n g k).length<=k*n
 | 0=>by simp[dv]
 | k+1=>by show(dv n g k++_).length<=_;rw[FK,Fs,Nat.succ_mul];have:=my (n:=n) (g:=g) k;have:=rA n (g k);omega
def cq{H H':Hp}(f:∀a x,aO H a x->aO H' a x){as:List Vb}{xs:List Bfs.Pl}(h:Paired (aO H) as xs):Paired (aO H') as xs:=by
 induction h with
 | nil=>exact .nil
 | cons h t b=>exact .cons (f _ _ h) b
def jG{H:Hp}{as:List Vb}{xs:List Bfs.Pl}{a:Vb}{x:Bfs.Pl}(h:Paired (aO H) as xs)(b:aO H a x):Paired (aO H) (as++[a]) (xs++[x]):=by
 induction h with
 | nil=>exact .cons b .nil
 | cons h _ c=>exact .cons h c
def vT{H:Hp}{as bs:List Vb}{xs ys:List Bfs.Pl}(h:Paired (aO H) as xs)(h':Paired (aO H) bs ys):Paired (aO H) (as++bs) (xs++ys):=by
 induction h with
 | nil=>exact h'
 | cons h _ a=>exact .cons h a
def dA{H:Hp}{as:List Vb}{xs:List Bfs.Pl}(h:Paired (aO H) as xs):as.length=xs.length:=by
 induction h with
 | nil=>rfl
 | cons _ _ a=>rw[FV,FV,a]
def qc(P:Vd)(w:Ve)(K:Fn)(mg:Vn->Option Va)(base:Vh):Sp:=λvs H Q _=>∃a m ws f pre g,vs=[a,.ref f]/\bC H a m ws/\HOuse m ws/\FunR P w K mg base 1 f pre (λvs H Q=>∃p q:Nat,vs=[.int (p:Nat),.int (q:Nat)]/\(p:Int)<m/\(q:Int)<m/\∀H',Ext H H'->Q (.bl (g p q)) H')/\pre H/\(∀H H',Ext H H'->pre H->pre H') ∧
 ∀l ps H',Ext H H'->H l=Vp->H' l=Vo (.lst (List.map V.ref ps))->Paired (aO H') ps (dv m.toNat g m.toNat)->Q (.ref l) H'
abbrev rf:Vl:=stq 41
def yj:FnScope ["house","choice","pairs","p"] ["house","choice"] (aH rf):=⟨rfl,rfl,rfl,by decide +kernel,rfl,by decide +kernel,by decide +kernel⟩
def zq{P:Vd}{w:Ve}{mg:Vn->Option Va}{base:Vh}(D:Dfn K mg "told_pairs" rf ["house","choice"])(T:Blt mg):Cal P w K mg base "told_pairs" 2 ["house","choice"] (qc P w K mg base):=by
 have nd:=(yj).nd;refine D.ok yj (λvs H Q E h=>?_) (λX hX H vs Q E h=>?_)
 ·obtain⟨vh,m,ws,f,pre,g,rfl,_⟩:=h;rfl
 ·obtain⟨f,cdv,A,outer,s,H0,E0,rfl,hr⟩:=hX;obtain⟨vh,m,ws,R,pre,g,rfl,hv,ok,hF,r,d,q⟩:=h;have m1:=ok.m1;have m12:=ok.m12;obtain⟨M,a1,rfl,S,_⟩:=id hv;refine⟨_,(@ai _ _ _ _ _ (@aC _ _ 2 _ _ _ _ nd rfl (Or.inl rfl) (@bo _ _ _ _ ae) rfl (Or.inl rfl))
    (@ai _ _ _ _ _ (bq PassesOwn.never rfl (cb rfl T.range_ (@aa _ _ _ _ _ (@ah _ _ _ _ _ _ _ (ay K) (pv 0) af (λ_ _=>rfl)) ae rfl)) (aA (i:=3) nd rfl (Or.inr rfl)) (@ao _ _ _ (bz (bT K Fz PySem.F.slot_list_extend PySem.F.type_list_extend Bb (pv 2) (@aa _ _ _ _ _ (bK ["q"] [3,1] (cb rfl T.range_ (@aa _ _ _ _ _ (@ah _ _ _ _ _ _ _ (ay K) (pv 0) af (λ_ _=>rfl)) ae rfl)) (λ_=>(aA (i:=0) (show(["q","p","choice"]:List Vn).Nodup from by decide +kernel) rfl (Or.inl rfl) (Or.inr rfl))) (λ_=>(dw (aX (sG (P:=P) (w:=w) (K:=K) (mg:=mg) (base:=base) hr (pv 2) (@aa _ _ _ _ _ (pv 1) (@aa _ _ _ _ _ (pv 0) ae rfl) rfl))))) (λ_=>(@bf _ _ _ _ _ (@aa _ _ _ _ _ (pv 1) (@aa _ _ _ _ _ (pv 0) ae rfl) rfl)))) ae rfl)))))
    (@ao _ _ _ (@aB _ _ _ _ (pv 2))))),?_⟩
  walk_at"";refine aK λl H1 U hl C=>?_;walk_at"";refine az (aj.of (U _ _ S)) (v:=.int m) rfl ?_;walk_at"";refine cj (by omega) ?_;refine forR (λp σ H'=>∃ps k1,Ext H H'/\H' l=Vo (.lst (List.map V.ref ps))/\Paired (aO H') ps (dv m.toNat g p)/\σ=[Vo (.ref M),Vo (.ref R),Vo (.ref l),k1]) ⟨[],_,U,hl,.nil,rfl⟩ ?_ ?_
  ·rintro p σ H2 hp ⟨ps,k1,G,e,j,rfl⟩;rw[show (0:Int)+(p:Int)=((p:Nat):Int) by omega];have a2:=dA j;have a3:=my (n:=m.toNat) (g:=g) p;have a4:p*m.toNat<=12*12:=Nat.mul_le_mul (by omega) (by omega);walk_at"";refine⟨cJ (ag.of e),?_⟩;walk_at"";refine az (aj.of (G _ _ S)) (v:=.int m) rfl ?_;walk_at"";refine cj (by omega) ?_;refine dD (λi ys H'=>Ext H2 H'/\∃cs,ys=List.map V.ref cs/\Paired (aO H') cs (((Gm i).filter (g p)).map λq:Nat=>(((p:Nat):Int),((q:Nat):Int)))) (bw (by omega)) ⟨Ext.rfl' _,[],rfl,.nil⟩ ?_ ?_ ?_
   ·rintro i ys H' _ ⟨_,cs,rfl,b⟩;rw[Fs,dA b,Fs];exact rA i (g p)
   ·rintro i ys N hi ⟨J,cs,rfl,b⟩;rw[show (0:Int)+(i:Int)=((i:Nat):Int) by omega];have I:=G.trans J;walk_at"";refine xx ?_;walk_at"";refine⟨R,pre,_,rfl,hF,d _ _ I r,?_⟩;walk_at"";refine⟨d _ _ I r,p,i,rfl,by omega,by omega,λH4 B=>?_⟩;have c:=J.trans B;cases W:g p i with
    | false=>
     refine rd_exb (aw ⟨c,cs,rfl,?_⟩);rw[List.range_succ,List.filter_append];have:List.filter (g p) [i]=[]:=by rw[List.filter_cons,Gq (by rw[W];exact FI)];rfl
     rw[this,List.append_nil];exact cq (λa x h=>B _ _ h) b
    | true=>
     refine rd_exb (av ?_);walk_at"";refine aK λt H5 Y ht _=>?_;refine⟨c.trans Y,cs++[t],?_,?_⟩
     ·rw[FJ];rfl
     ·rw[List.range_succ,List.filter_append,FJ];have:List.filter (g p) [i]=[i]:=by rw[List.filter_cons,Gr W];rfl
      rw[this];exact jG (cq (λa x h=>(B.trans Y) _ _ h) b) ht
   ·rintro ys N L ⟨J,cs,rfl,b⟩ O;have B:=aV (o:=.lst (List.map V.ref cs)) O;have Z:(upd N L (.lst (List.map V.ref cs))) L=_:=aI;have u:=cq (λa x h=>B _ _ h) b;have c:=J.trans B;have k:=c _ _ e;have y:=cq (λa x h=>c _ _ h) j;generalize upd N L (.lst (List.map V.ref cs))=H4 at B Z u c k y ⊢;have hcl:=dA b;rw[Fs]at hcl;have a0:=rA m.toNat (g p);walk_at"";refine⟨l,L,_,_,rfl,rfl,k,Z,bw (by rw[Fs,Fs];omega),?_⟩;walk_at"";refine⟨ps++cs,_,cA (G.trans c) C,?_,?_,rfl⟩
    ·rw[aI,FJ]
    ·exact vT (cq (λa x h=>aO.put k (λxs z=>by cases z) h) y) (cq (λa x h=>aO.put k (λxs z=>by cases z) h) u)
  ·rintro σ H2 ⟨ps,k1,G,e,j,rfl⟩;walk_at"";exact q l ps H2 G C e j
def gH(K:Fn):Prop:=∀x∈(["kept","low_levels","risen"]:List Vn),∀y∈(["kept","low_levels","risen"]:List Vn),x≠y->∀c T c' a,PySem.W.tabIn K x=Vo (c,T)->PySem.W.tabIn K y=Vo (c',a)->a≠T
def Dc(K:Fn):Bool:=(["kept","low_levels","risen"]:List Vn).all λx=>(["kept","low_levels","risen"]:List Vn).all λy=>x == y || (match PySem.W.tabIn K x,PySem.W.tabIn K y with|some a,Vo b=>b.2 != a.2|_,_=>true)
def CI{K:Fn}(h:Dc K=true):gH K:=λx a y b d c T c' i e g=>by
 have h1:=F0.mp (F0.mp h x a) y b;rw[e,g,F6]at h1;rcases h1 with h1|h1
 ·exact absurd (eq_of_beq h1) d
 ·exact bne_iff_ne.mp h1
structure Tbs(K:Fn)(H:Hp):Prop where
 kept:dW K "kept" ("kept" ++ ".<locals>." ++ "<lambda>") 166 29 H
 low:dW K "low_levels" ("low_levels" ++ ".<locals>." ++ "<lambda>") 199 39 H
 risen:dW K "risen" ("risen" ++ ".<locals>." ++ "<lambda>") 171 29 H
theorem Tbs.ext{K:Fn}{H H':Hp}(e:Ext H H')(h:Tbs K H):Tbs K H':=⟨h.kept.ext e,h.low.ext e,h.risen.ext e⟩
def b9.et{H H':Hp}{p:Vb}{kk:List (List Key)}(e:Et H H')(h:b9 H p kk):b9 H' p kk:=by obtain⟨bs,h1,h2,a⟩:=h;exact⟨bs,e _ _ h1 (λps z=>by cases z),h2,λj b k c d=>e _ _ (a j b k c d) (λps z=>by cases z)⟩
theorem bC.et{H H':Hp}{v:V}{m:Int}{ws:List Way}(e:Et H H')(h:bC H v m ws):bC H' v m ws:=by obtain⟨p,q,rfl,h1,h2⟩:=h;exact⟨p,q,rfl,e _ _ h1 (λps z=>by cases z),h2.et e⟩
def Rows.et{H H':Hp}(e:Et H H'){q:Vb}{rs:List Vb}{n:Nat}{M:Nat->Nat->Bool}(h:Rows H q rs n M):Rows H' q rs n M:=⟨e _ _ h.1 (λps z=>by cases z),λi r hi=>e _ _ (h.2 i r hi) (λps z=>by cases z)⟩
def aQ.et{H H':Hp}{bs:List Vb}{ws:List Way}(e:Et H H')(h:aQ H bs ws):aQ H' bs ws:=⟨h.1,λj b w a c=>e _ _ (h.2 j b w a c) (λps z=>by cases z)⟩
def aO.et{H H':Hp}(e:Et H H'){p:Vb}{x:Bfs.Pl}(h:aO H p x):aO H' p x:=e _ _ h (λps z=>by cases z)
def fm(H:Hp)(l:Vb)(n:Nat)(R:Nat->Nat->Prop):Prop:=∃ps g,H l=Vo (.lst (List.map V.ref ps))/\Paired (aO H) ps (dv n g n)/\∀i j,i<n->j<n->(g i j=true↔R i j)
theorem fm.et{H H':Hp}(e:Et H H'){l:Vb}{n:Nat}{R:Nat->Nat->Prop}(h:fm H l n R):fm H' l n R:=by obtain⟨ps,g,h1,h2,b⟩:=h;exact⟨ps,g,e _ _ h1 (λps z=>by cases z),cq (λa x h=>h.et e) h2,b⟩
def held{cs:List (Vb×Obj)}{c a:Hp}(h:∀b o,cs.lookup b=Vo o->c b=Vp)(d:Ext (bQ cs c) a):(∀b o,cs.lookup b=Vo o->a b=Vo (cZ b o))/\Ext c (aY cs a)/\(∀l,bQ cs c l=Vp->aY cs a l=a l)/\∀b x,a b=Vo x->(∀f,x≠.ext f)->aY cs a b=Vo x:=by
 have e:∀b o,cs.lookup b=Vo o->a b=Vo (cZ b o):=λb o q=>d _ _ (fh q);refine⟨e,E5 h d,λl g=>?_,λb x hb nx=>gF e hb nx⟩;cases q:cs.lookup l with
 | none=>exact cL q
 | some o=>rw[fh q]at g;cases g
def oj{α:Type}{cp:List α}(h:cp.length=1):∃e,cp=[e]:=by
 cases cp with
 | nil=>exact absurd h (by simp)
 | cons e r=>
  cases r with
  | nil=>exact⟨e,rfl⟩
  | cons _ _=>exact absurd h (by simp)
def j8{α:Type}{cp:List α}(h:cp.length=2):∃e a,cp=[e,a]:=by
 cases cp with
 | nil=>exact absurd h (by simp)
 | cons e r=>
  obtain⟨a,rfl⟩:=oj (cp:=r) (by simpa using h);exact⟨e,a,rfl⟩
def BQ{α:Type}{cp:List α}(h:cp.length=3):∃e b a,cp=[e,b,a]:=by
 cases cp with
 | nil=>exact absurd h (by simp)
 | cons e r=>
  obtain⟨b,a,rfl⟩:=j8 (cp:=r) (by simpa using h);exact⟨e,b,a,rfl⟩
def pE{P:Vd}{w:Ve}{K:Fn}{mg:Vn->Option Va}{base:Vh}{k:Nat}{f c:Vb}{q:Vn}{params:Arguments}{body:Vk}{scope:Scope}{cl cells:List (Vn×Vb)}{H0:Hp}(i:H0 f=Vo (eP f c q params body scope cl))(C:ClOk scope cells cl)(ps:List Vn)(cp:List Cap)(R:List V->Hp->VK->Prop)(I:Hp->Prop)
  (S:LamSc ps scope) (bind:∀(pm g d:Va) (us:List Va),us.length=ps.length->bindArgs (PySem.W.kla_fn "<lambda>" q params body scope cl pm g d) ⟨us,[]⟩=pure (ps.zip us))
  (h:∀vs H Q,R vs H Q->vs.length=ps.length)
  (a:∀(A:Vi) (outer:List Env) (s:Vc) (H:Hp) (vs:List V) (Q:VK),Room k (A.deeper (fj q scope s.heap.objs.size f (.ref c) cl))->gY f c q params body scope cl cp H->I H->R vs H Q →
   ∃te,PE (jV P w K mg base (ps++cp.map (·.n)) q scope f (.ref c) cl A outer s (aY (cellsOf cp) H)) body te/\te (vs.map Vo++cp.map λe=>Vo e.v) (aY (cellsOf cp) H) λv H'=>(∀b o,(cellsOf cp).lookup b=Vo o->H' b=Vp)->Q v (bQ (cellsOf cp) H')) :
  FunR P w K mg base (k+1) f (λH=>gY f c q params body scope cl cp H/\I H) R:=y9 I S C bind h a
inductive kK(K:Fn)(vs:List V)(H:Hp)(Q:VK)(E:XK):Prop|mk:∀a m ws,vs=[a]->bC H a m ws->HOuse m ws->gH K->Tbs K H->(∀l H',Et H H'->Tbs K H'->fm H' l m.toNat (Kpt ws m.toNat)->Q (.ref l) H')->kK K vs H Q E
abbrev rC:Vl:=stq 46
def sT:FnScope ["house","table"] ["house"] (aH rC):=⟨rfl,rfl,rfl,by decide +kernel,rfl,by decide +kernel,by decide +kernel⟩
def CO{P:Vd}{w:Ve}{mg:Vn->Option Va}{base:Vh}(D:Dfn K mg "kept" rC ["house"])(T:Blt mg){c9 T9:Vb}(B:Tab K mg base "kept" c9 T9)(y:Cal P w K mg base "told_pairs" 2 ["house","choice"] (qc P w K mg base))(C:Cal P w K mg base "kept_table" 3 ["house"] (kQ K))(g:Cal P w K mg base "refuse_no_house" 6 ["thing"] (jz K)):Cal P w K mg base "kept" 7 ["house"] (kK K):=by
 have nd:=(sT).nd;refine D.okL B sT (λvs H Q E h=>?_) (λX hX H vs Q E h=>?_)
 ·obtain⟨vh,m,ws,rfl,_⟩:=h;rfl
 ·obtain⟨f,A,outer,s,H0,E0,rfl,hr⟩:=hX;obtain⟨vh,m,ws,rfl,hv,ok,Z,N,q⟩:=h;have m1:=ok.m1;have m12:=ok.m12;refine⟨_,(ai (bz (ax g hr (aa (pv 0) ae)))
    (ai (aC (i:=1) nd rfl (Or.inr rfl) (ax C hr (aa (pv 0) ae)))
    (ao (aB (pL [1] y hr (aa (pv 0) (aa (mB rfl rfl B.hd B.blt B.gl (by decide +kernel) rfl rfl rfl) ae))))))),?_⟩
  walk_at"";refine⟨vh,m,ws,rfl,hv,ok,λH1 e1=>?_⟩;walk_at"";refine⟨vh,m,ws,rfl,hv.ext e1,ok,λtq rs M H2 kt km=>?_⟩;have F:=e1.trans kt.ext;have O:=kt.rows;have as:=kt.len;walk_at"";show jy _ [1] _ (["house","table"]:List Vn) _ _ _ _;generalize PySem.Env.cells _=cells0;refine nM ?_;walk_at"";refine pq ?_;refine o7 (x:="kept") (N.ext F).kept B.tin λfl c' cl H3 hcl e3 ab ot hf ac=>?_;have t3:Tbs K H3:=⟨ab,ot "low_levels" _ _ _ (λc2 T2 e2=>Z "kept" (by simp) "low_levels" (by simp) (by decide +kernel) _ _ _ _ B.tin e2) (N.ext F).low,ot "risen" _ _ _ (λc2 T2 e2=>Z "kept" (by simp) "risen" (by simp) (by decide +kernel) _ _ _ _ B.tin e2) (N.ext F).risen⟩;walk_at"";refine⟨λj hj=>?_,λcp hlen a0=>?_⟩
  ·rw[FD.mp hj];exact⟨_,rfl⟩
  obtain⟨⟨n,c,o,v⟩,rfl⟩:=oj hlen;obtain⟨hN,a5,R,G,u,J,L⟩:=a0 0 1 _ rfl rfl;clear a0 hlen;dsimp only at hN a5 R G J L;have ad:(F7 "table")=n:=F8 hN;have a6:(V.ref tq)=v:=F8 (F8 R);clear hN R;subst ad;subst a6;have a7:∀b o',(cellsOf [⟨F7 "table",c,o,V.ref tq⟩]).lookup b=Vo o'->H3 b=Vp:=λb o' hb=>by obtain⟨e,he,rfl,rfl⟩:=gC hb;rw[FD.mp he];exact G
  have ex:=kF a7;have I:=(O.et e3).ext ex;have ak:=((hv.ext F).et e3).ext ex;have S:Caps (bQ (cellsOf [⟨F7 "table",c,o,V.ref tq⟩]) H3) cl [⟨F7 "table",c,o,V.ref tq⟩]:=by
   obtain⟨c2,U⟩:=hcl.has (F7 "table") rfl;have a8:=(hcl.fr _ _ U).2;rw[a5]at a8;cases a8;refine⟨λe he=>?_,λx d hx=>?_⟩
   ·rw[FD.mp he];exact⟨U,fh (by simp[cellsOf]),u,J,L⟩
   ·have hm:=i8 (hcl.fr x d hx).1;simp at hm;subst hm;rw[U]at hx;cases hx;exact⟨_,FD.mpr rfl,rfl,rfl⟩
  have hF:=pE (P:=P) (w:=w) (K:=K) (mg:=mg) (base:=base) (k:=0) hf hcl (["p","q"]:List Vn) [⟨F7 "table",c,o,V.ref tq⟩] (λvs H Q=>∃p q:Nat,vs=[.int (p:Nat),.int (q:Nat)]/\(p:Int)<m/\(q:Int)<m/\∀H',Ext H H'->Q (.bl (M p q)) H') (λH=>Rows H tq rs m.toNat M) ⟨rfl,rfl,rfl,by decide +kernel,by decide +kernel⟩ (λ_ _ _ us hl=>by obtain⟨u1,u2,rfl⟩:=j8 hl;rfl) (λvs H Q h=>by obtain⟨p,q,rfl,_⟩:=h;rfl) (λA outer s H vs Q au a9 hI hR=>by
   obtain⟨p,q,rfl,hp,hq,hQ⟩:=hR;have W:=a9.2.2.look;have Y:Rows (aY (cellsOf [⟨F7 "table",c,o,V.ref tq⟩]) H) tq rs m.toNat M:=⟨gF W hI.1 (λf z=>by cases z),λi r hi=>gF W (hI.2 i r hi) (λf z=>by cases z)⟩;refine⟨_,(ah (aF K) (ah (aF K) (pv 2) (pv 0) (λ_ _=>rfl)) (pv 1) (λ_ _=>rfl)),?_⟩;have hb:=EI W;generalize aY (cellsOf [⟨F7 "table",c,o,V.ref tq⟩]) H=HU at Y hb ⊢;have am:p<rs.length:=by omega
   have gp:rs[p]?=Vo rs[p]:=Ft am;have rp:=Y.2 p _ gp;generalize rs[p]=ap at gp rp;show iV _ _ _ [Vo (.int (p:Nat)),Vo (.int (q:Nat)),Vo (.ref tq)] _ _;walk_at"";refine aE (ag.of Y.1) (v:=.ref ap) (fk (by rw[Fu,gp];rfl)) ?_;walk_at"";refine aE (ag.of rp) (cR (by omega) (by omega)) ?_;rw[FF];exact λ_=>hQ _ hb)
  refine⟨vh,m,ws,fl,_,M,rfl,ak,ok,hF,⟨⟨ex _ _ hf,ex _ _ ac,S⟩,I⟩,λH H' e h=>⟨h.1.ext e,h.2.ext e⟩,λl ps H4 e4 hl an ar=>?_⟩;obtain⟨a1,a2,a3,a4⟩:=held a7 e4;exact⟨a1,q l _ ((F.et.trans e3).trans a2.et) (t3.ext a2) ⟨ps,M,a4 _ _ an (λf z=>by cases z),cq (λa x h=>a4 _ _ h (λf z=>by cases z)) ar,km⟩⟩
def bh(ws:List Way)(n:Nat)(i j:Nat):Prop:=∃u∈ws,u.deed = "up"/\u.room.toNat=i/\Kpt ws n u.other.toNat j
def vm{cs:List (Vb×Obj)}{H H':Hp}(a:∀b o,cs.lookup b=Vo o->H b=Vo (cZ b o))(e:Ext (aY cs H) H'):Ext H (bQ cs H'):=λb x hb=>by
 cases q:cs.lookup b with
 | none=>rw[cV q];exact e b x (by rw[cL q];exact hb)
 | some o=>rw[fh q,←a b o q];exact hb
def kL(us:List Way)(M:Nat->Nat->Bool)(p q:Nat):Bool:=((us.filter λu=>decide (u.room=(p:Int))).map λu=>M u.other.toNat q).any id
inductive j1(K:Fn)(vs:List V)(H:Hp)(Q:VK)(E:XK):Prop|mk:∀a m ws,vs=[a]->bC H a m ws->HOuse m ws->gH K->Tbs K H->(∀l H',Et H H'->Tbs K H'->fm H' l m.toNat (bh ws m.toNat)->Q (.ref l) H')->j1 K vs H Q E
abbrev nO:Vl:=stq 47
def xW:FnScope ["house","table","ups"] ["house"] (aH nO):=⟨rfl,rfl,rfl,by decide +kernel,rfl,by decide +kernel,by decide +kernel⟩
def Bu{P:Vd}{w:Ve}{mg:Vn->Option Va}{base:Vh}(D:Dfn K mg "risen" nO ["house"])(T:Blt mg){c9 T9:Vb}(B:Tab K mg base "risen" c9 T9)(F:Cal P w K mg base "told_pairs" 2 ["house","choice"] (qc P w K mg base))(C:Cal P w K mg base "ways_of_deed" 1 ["house","deed"] (jt K))(G:Cal P w K mg base "kept_table" 3 ["house"] (kQ K))(y:Cal P w K mg base "refuse_no_house" 6 ["thing"] (jz K)):Cal P w K mg base "risen" 7 ["house"] (j1 K):=by
 have nd:=(xW).nd;refine D.okL B xW (λvs H Q E h=>?_) (λX hX H vs Q E h=>?_)
 ·obtain⟨vh,m,ws,rfl,_⟩:=h;rfl
 ·obtain⟨f,A,outer,s,H0,E0,rfl,hr⟩:=hX;obtain⟨vh,m,ws,rfl,hv,ok,b1,ad,q⟩:=h;have m1:=ok.m1;have m12:=ok.m12;have few:=ok.few;refine⟨_,(ai (bz (ax y hr (aa (pv 0) ae)))
    (ai (aC (i:=1) nd rfl (Or.inr rfl) (ax G hr (aa (pv 0) ae)))
    (ai (aC (i:=2) nd rfl (Or.inr rfl) (ax C hr (aa (pv 0) (aa aR ae))))
    (ao (aB (pL [2,1] F hr (aa (pv 0) (aa (mB rfl rfl B.hd B.blt B.gl (by decide +kernel) rfl rfl rfl) ae)))))))),?_⟩
  walk_at"";refine⟨vh,m,ws,rfl,hv,ok,λH1 e1=>?_⟩;walk_at"";refine⟨vh,m,ws,rfl,hv.ext e1,ok,λtq rs M c8 kt km=>?_⟩;walk_at"";refine⟨vh,m,ws,_,rfl,hv.ext (e1.trans kt.ext),ok,λlu cu us H2 e2 ca b2 b4 ak=>?_⟩;have N:=(e1.trans kt.ext).trans e2;have am:=kt.rows.ext e2;have cd:=kt.len;have b5:=b4.1;have ce:us.length<=100:=by rw[ak];exact FY (List.length_filter_le _ _) few
  have hin:∀u∈us,u∈ws/\u.deed=F7 "up":=λu hu=>by rw[ak]at hu;obtain⟨h1,h2⟩:=List.mem_filter.mp hu;exact⟨h1,of_decide_eq_true h2⟩
  walk_at"";show jy _ [2,1] _ (["house","table","ups"]:List Vn) _ _ _ _;generalize PySem.Env.cells _=cells0;refine nM ?_;walk_at"";refine pq ?_;refine o7 (x:="risen") (ad.ext N).risen B.tin λfl c' cl H3 hcl e3 bu ot hf bv=>?_;have t3:Tbs K H3:=⟨ot "kept" _ _ _ (λc2 T2 e2=>b1 "risen" (by simp) "kept" (by simp) (by decide +kernel) _ _ _ _ B.tin e2) (ad.ext N).kept,ot "low_levels" _ _ _ (λc2 T2 e2=>b1 "risen" (by simp) "low_levels" (by simp) (by decide +kernel) _ _ _ _ B.tin e2) (ad.ext N).low,bu⟩;walk_at"";refine⟨λj hj=>?_,λcp hlen an=>?_⟩
  ·rcases FH.mp hj with rfl|hj
   ·exact⟨_,rfl⟩
   ·rw[FD.mp hj];exact⟨_,rfl⟩
  obtain⟨⟨n,c,o,v⟩,⟨n',d,o',v'⟩,rfl⟩:=j8 hlen;obtain⟨hN,b6,ap,O,u,a8,a9⟩:=an 0 2 _ rfl rfl;obtain⟨ar,ab,R,I,u2,S,U⟩:=an 1 1 _ rfl rfl;clear an hlen;dsimp only at hN b6 ap O a8 a9 ar ab R I S U;have bx:(F7 "ups")=n:=F8 hN;have b7:(V.ref lu)=v:=F8 (F8 ap);have b8:(F7 "table")=n':=F8 ar;have as:(V.ref tq)=v':=F8 (F8 R);clear hN ap ar R;subst bx;subst b7;subst b8;subst as;obtain⟨c2,W⟩:=hcl.has (F7 "ups") rfl;obtain⟨d2,Y⟩:=hcl.has (F7 "table") rfl;have ba:=(hcl.fr _ _ W).2;have bb:=(hcl.fr _ _ Y).2;rw[b6]at ba;rw[ab]at bb;cases ba;cases bb;have c0:c≠d:=λz=>by have:=hcl.inj _ _ _ W (z ▸ Y);exact absurd this (by decide +kernel)
  have bc:∀b o9,(cellsOf [⟨F7 "ups",c,o,V.ref lu⟩,⟨F7 "table",d,o',V.ref tq⟩]).lookup b=Vo o9->H3 b=Vp:=λb o9 hb=>by
   obtain⟨e,he,rfl,rfl⟩:=gC hb;rcases FH.mp he with rfl|he
   ·exact O
   ·rw[FD.mp he];exact I
  have ex:=kF bc;have a6:=(am.et e3).ext ex;have be:=ex _ _ (e3 _ _ b2 (λps z=>by cases z));have bg:=(b4.et e3).ext ex;have c1:=((hv.ext N).et e3).ext ex;have au:Caps (bQ (cellsOf [⟨F7 "ups",c,o,V.ref lu⟩,⟨F7 "table",d,o',V.ref tq⟩]) H3) cl [⟨F7 "ups",c,o,V.ref lu⟩,⟨F7 "table",d,o',V.ref tq⟩]:=by
   refine⟨λe he=>?_,λx g J=>?_⟩
   ·rcases FH.mp he with rfl|he
    ·exact⟨W,fh (by simp[cellsOf]),u,a8,a9⟩
    ·rw[FD.mp he];refine⟨Y,fh ?_,u2,S,U⟩;show List.lookup d ((c,o)::[(d,o')])=Vo o';rw[Gh,show (d == c)=false from beq_eq_false_iff_ne.mpr (Ne.symm c0),Gh,beq_self_eq_true]
   ·have hm:=i8 (hcl.fr x g J).1;simp at hm;rcases hm with rfl|rfl
    ·first|(rw[W]at J;cases J;exact⟨_,Fy,rfl,rfl⟩)|(rw[Y]at J;cases J;exact⟨_,Fv _ (FD.mpr rfl),rfl,rfl⟩)
    ·first|(rw[W]at J;cases J;exact⟨_,Fy,rfl,rfl⟩)|(rw[Y]at J;cases J;exact⟨_,Fv _ (FD.mpr rfl),rfl,rfl⟩)
  have hF:=pE (P:=P) (w:=w) (K:=K) (mg:=mg) (base:=base) (k:=0) hf hcl (["p","q"]:List Vn) [⟨F7 "ups",c,o,V.ref lu⟩,⟨F7 "table",d,o',V.ref tq⟩] (λvs H Q=>∃p q:Nat,vs=[.int (p:Nat),.int (q:Nat)]/\(p:Int)<m/\(q:Int)<m/\∀H',Ext H H'->Q (.bl (kL us M p q)) H') (λH=>Rows H tq rs m.toNat M/\H lu=Vo (.lst (List.map V.ref cu))/\aQ H cu us) ⟨rfl,rfl,rfl,by decide +kernel,by decide +kernel⟩ (λ_ _ _ us hl=>by obtain⟨u1,u2,rfl⟩:=j8 hl;rfl) (λvs H Q h=>by obtain⟨p,q,rfl,_⟩:=h;rfl) (λA outer s H vs Q cf bi hI hR=>by
   obtain⟨p,q,rfl,hp,hq,hQ⟩:=hR;have Z:=bi.2.2.look;obtain⟨bm,c3,bn⟩:=hI;have a0:Rows (aY (cellsOf [⟨F7 "ups",c,o,V.ref lu⟩,⟨F7 "table",d,o',V.ref tq⟩]) H) tq rs m.toNat M:=⟨gF Z bm.1 (λf z=>by cases z),λi r hi=>gF Z (bm.2 i r hi) (λf z=>by cases z)⟩;have a5:=gF Z c3 (λf z=>by cases z);have ac:aQ (aY (cellsOf [⟨F7 "ups",c,o,V.ref lu⟩,⟨F7 "table",d,o',V.ref tq⟩]) H) cu us:=⟨bn.1,λj b w e1 e2=>gF Z (bn.2 j b w e1 e2) (λf z=>by cases z)⟩;refine⟨_,(aU (ki K rfl) rfl T.any_ PyProof.Rows.boot_any (aa (bK ["way"] [3,1,0] (bP K (pv 2)) (λ_=>(aA (i:=0) (show(["way","table","q","p"]:List Vn).Nodup from by decide +kernel) rfl (Or.inl rfl) (Or.inr rfl))) (λ_=>(dw (aM bH (ah (ay K) (pv 0) af (λ_ _=>rfl)) (pv 3) (aJ _)))) (λ_=>(ah (aF K) (ah (aF K) (pv 1) (ah (ay K) (pv 0) af (λ_ _=>rfl)) (λ_ _=>rfl)) (pv 2) (λ_ _=>rfl)))) ae)),?_⟩;have hb:∀H',Ext (aY (cellsOf [⟨F7 "ups",c,o,V.ref lu⟩,⟨F7 "table",d,o',V.ref tq⟩]) H) H'->Ext H (bQ (cellsOf [⟨F7 "ups",c,o,V.ref lu⟩,⟨F7 "table",d,o',V.ref tq⟩]) H'):=λH' e=>vm Z e;generalize aY (cellsOf [⟨F7 "ups",c,o,V.ref lu⟩,⟨F7 "table",d,o',V.ref tq⟩]) H=HU at a0 a5 ac hb ⊢;show kq _ _ [Vo (.int (p:Nat)),Vo (.int (q:Nat)),Vo (.ref lu),Vo (.ref tq)] _ _;walk_at"";refine bN (ag.of a5) ?_;refine dn (xs:=List.map V.ref cu) (λi ys H'=>H'=HU/\ys=(((us.take i).filter λu=>decide (u.room=(p:Int))).map λu=>M u.other.toNat q).map V.bl) (bw (by rw[Fs];omega)) ⟨rfl,rfl⟩ (λi ys H' _ h=>⟨by rw[h.1];exact ag.of a5,by rw[h.2,Fs,Fs];exact FY (List.length_filter_le _ _) (by rw[Gi];omega)⟩) ?_ ?_
   ·rintro i v ys H4 J ⟨rfl,rfl⟩;rw[Fu]at J;obtain⟨b,bt,rfl⟩:=FE.mp J;have hi:i<us.length:=by rw[←b5];exact(FA.mp bt).1
    have gu:us[i]?=Vo us[i]:=Ft hi;have b0:=ac.2 i b _ bt gu;generalize us[i]=L at gu b0;have a7:=ok.ok L (hin L (FC gu)).1;have v0:=a7.r0;have v1:=a7.r1;have v2:=a7.o0;have v3:=a7.o1;have x2:L.other.toNat<rs.length:=by omega
    have r2:rs[L.other.toNat]?=Vo rs[L.other.toNat]:=Ft x2;have w2:=a0.2 _ _ r2;generalize rs[L.other.toNat]=a2 at r2 w2;have at2:bF (rs.map V.ref) L.other=Vo (.ref a2):=eD v2 (by rw[Fu,r2];rfl);walk_at"";refine az (aj.of b0) (v:=.int L.room) rfl ?_;walk_at"";cases hc:decide (L.room=(p:Int))with
    | true=>
     refine av ?_;walk_at"";refine az (aj.of b0) (v:=.int L.other) rfl ?_;walk_at"";refine aE (ag.of a0.1) at2 ?_;walk_at"";refine aE (ag.of w2) (cR (by omega) (by omega)) ?_;rw[FF];refine⟨rfl,?_⟩;rw[List.take_add_one,gu,List.filter_append,FJ,FJ];congr 1;show[V.bl _]=List.map V.bl (List.map _ (List.filter _ [L]));rw[List.filter_cons,Gr hc];rfl
    | false=>
     refine aw ⟨rfl,?_⟩;have c4:List.filter (λu:Way=>decide (u.room=(p:Int))) [L]=[]:=by rw[List.filter_cons,Gq (by rw[hc];exact FI)];rfl
     rw[List.take_add_one,gu,List.filter_append];show _=List.map V.bl (List.map _ (_++List.filter _ [L]));rw[c4,List.append_nil]
   ·rintro ys H4 p9 ⟨hH,rfl⟩ c5;subst hH;rw[Fs,b5,FW];have e9:=aV (o:=.lst (((us.filter λu=>decide (u.room=(p:Int))).map λu=>M u.other.toNat q).map V.bl)) c5;walk_at"";refine⟨p9,_,rfl,ag.of aI,?_⟩;exact λ_=>hQ _ (hb _ e9))
  refine⟨vh,m,ws,fl,_,kL us M,rfl,c1,ok,hF,⟨⟨ex _ _ hf,ex _ _ bv,au⟩,a6,be,bg⟩,λH H' e h=>⟨h.1.ext e,h.2.1.ext e,e _ _ h.2.2.1,h.2.2.2.ext e⟩,λl ps H4 e4 hl c6 c7=>?_⟩;obtain⟨a1,a2,a3,a4⟩:=held bc e4;refine⟨a1,q l _ ((N.et.trans e3).trans a2.et) (t3.ext a2) ⟨ps,kL us M,a4 _ _ c6 (λf z=>by cases z),cq (λa x h=>a4 _ _ h (λf z=>by cases z)) c7,λi j hi hj=>?_⟩⟩;unfold kL bh;rw[List.any_map,F3];constructor
  ·rintro⟨x,J,hm⟩;obtain⟨x1,x2⟩:=List.mem_filter.mp J;have x2:=of_decide_eq_true x2;obtain⟨y1,y2⟩:=hin x x1;exact⟨x,y1,y2,by omega,(km _ _ (iL ok.ok y1).2 hj).mp hm⟩
  ·rintro⟨x,h1,h2,h3,h4⟩;have r0:=(ok.ok x h1).r0;refine⟨x,List.mem_filter.mpr ⟨by rw[ak];exact List.mem_filter.mpr ⟨h1,Gp h2⟩,Gp (by omega)⟩,?_⟩;exact(km _ _ (iL ok.ok h1).2 hj).mpr h4
def dk(us:List Way)(x:Bfs.Pl):List Bfs.Pl:=(us.filter λw=>cU w x.1 x.2).map λw=>(w.other,x.2+rz w.deed)
inductive nA(K:Fn)(vs:List V)(H:Hp)(Q:VK)(E:XK):Prop|mk:∀l bs us p x,vs=[.ref l,.ref p]->H l=Vo (.lst (List.map V.ref bs))->aQ H bs us->(∀w∈us,cx w.deed)->us.length<=100->aO H p x->(∀a ps H',Ext H H'->H a=Vp->H' a=Vo (.lst (List.map V.ref ps))->Paired (aO H') ps (dk us x)->Q (.ref a) H')->nA K vs H Q E
abbrev lV:Vl:=stq 38
def xM:FnScope ["ways","place"] ["ways","place"] (aH lV):=⟨rfl,rfl,rfl,by decide +kernel,rfl,by decide +kernel,by decide +kernel⟩
def ET{P:Vd}{w:Ve}{mg:Vn->Option Va}{base:Vh}(D:Dfn K mg "led_to_from" lV ["ways","place"])(T:Blt mg)(c:Cal P w K mg base "is_open" 1 ["way","place"] (qR K))(g:Cal P w K mg base "led_to" 2 ["way","place"] (pX K)):Cal P w K mg base "led_to_from" 3 ["ways","place"] (nA K):=by
 have nd:=(xM).nd;refine D.ok xM (λvs H Q E h=>?_) (λX N H vs Q E h=>?_)
 ·obtain⟨l,bs,us,p,x,rfl,_⟩:=h;rfl
 ·obtain⟨f,cdv,A,outer,s,H0,E0,rfl,J⟩:=N;obtain⟨l,bs,us,p,x,rfl,L,r,F,O,G,q⟩:=h;have y:=r.1;refine⟨_,(@ao _ _ _ (@aB _ _ _ _ (bK ["way"] [1] (bP K (pv 0)) (λ_=>(aA (i:=0) (show(["way","place"]:List Vn).Nodup from by decide +kernel) rfl (Or.inl rfl) (Or.inr rfl))) (λ_=>(dw (aX (ax c J (@aa _ _ _ _ _ (pv 0) (@aa _ _ _ _ _ (pv 1) ae rfl) rfl))))) (λ_=>(ax g J (@aa _ _ _ _ _ (pv 0) (@aa _ _ _ _ _ (pv 1) ae rfl) rfl)))))),?_⟩;walk_at"";refine bN (ag.of L) ?_;refine dn (xs:=List.map V.ref bs) (λi ys H'=>Ext H H'/\∃ps,ys=List.map V.ref ps/\Paired (aO H') ps (dk (us.take i) x)) (bw (by rw[Fs];omega)) ⟨Ext.rfl' _,[],rfl,.nil⟩ (λi ys H' _ h=>by obtain⟨e,ps,rfl,d⟩:=h;refine⟨ag.of (e _ _ L),?_⟩;rw[Fs,dA d];unfold dk;rw[Fs];exact FY (List.length_filter_le _ _) (by rw[Gi];omega)) ?_ ?_
  ·rintro i v ys H1 M ⟨k,ps,rfl,d⟩;rw[Fu]at M;obtain⟨b,hb,rfl⟩:=FE.mp M;have hi:i<us.length:=by rw[←y];exact(FA.mp hb).1
   have C:us[i]?=Vo us[i]:=Ft hi;have m:=k _ _ (r.2 i b _ hb C);generalize us[i]=u at C m;have j:aO H1 p x:=k _ _ G;walk_at"";refine⟨b,u,p,x,rfl,m,j,?_⟩;have step:dk (us.take (i+1)) x=dk (us.take i) x++dk [u] x:=by unfold dk;rw[List.take_add_one,C,List.filter_append,FJ];rfl
   cases ho:cU u x.1 x.2 with
   | false=>
    refine rd_exb (aw ⟨k,ps,rfl,?_⟩);rw[step];have:dk [u] x=[]:=by unfold dk;rw[List.filter_cons,Gq (by rw[ho];exact FI)];rfl
    rw[this,List.append_nil];exact d
   | true=>
    refine rd_exb (av ?_);walk_at"";refine⟨b,u,p,x,rfl,m,F u (FC C),j,λt H2 B R _=>?_⟩;refine⟨k.trans B,ps++[t],?_,?_⟩
    ·rw[FJ];rfl
    ·rw[step];have:dk [u] x=[(u.other,x.2+rz u.deed)]:=by unfold dk;rw[List.filter_cons,Gr ho];rfl
     rw[this];exact jG (cq (λa x h=>B _ _ h) d) R
  ·rintro ys H1 I ⟨k,ps,rfl,d⟩ n;rw[Fs,y,FW]at d;have B:=aV (o:=.lst (List.map V.ref ps)) n;have S:H I=Vp:=by
    cases z:H I with
    | none=>rfl
    | some o=>rw[k _ _ z]at n;cases n
   exact q I ps _ (k.trans B) S aI (cq (λa x h=>B _ _ h) d)
structure WT(H:Hp)(c:Vb)(n:Nat)(ls:List Vb)(ws:List Way):Prop where
 at_:H c=Vo (.lst (List.map V.ref ls))
 len:ls.length=n
 it:∀(r:Nat) (l:Vb),ls[r]?=Vo l->∃bs,H l=Vo (.lst (List.map V.ref bs))/\aQ H bs (ws.filter λw=>decide (w.room=(r:Int)))
theorem WT.ext{H H':Hp}{c:Vb}{n:Nat}{ls:List Vb}{ws:List Way}(e:Ext H H')(h:WT H c n ls ws):WT H' c n ls ws:=
 ⟨e _ _ h.at_,h.len,λr l a=>by obtain⟨bs,h1,h2⟩:=h.it r l a;exact⟨bs,e _ _ h1,h2.ext e⟩⟩
theorem WT.et{H H':Hp}{c:Vb}{n:Nat}{ls:List Vb}{ws:List Way}(e:Et H H')(h:WT H c n ls ws):WT H' c n ls ws:=
 ⟨e _ _ h.at_ (λps z=>by cases z),h.len,λr l a=>by obtain⟨bs,h1,h2⟩:=h.it r l a;exact⟨bs,e _ _ h1 (λps z=>by cases z),h2.et e⟩⟩
def za{ws:List Way}{i:Nat}{w:Way}(h:ws[i]?=Vo w)(p:Way->Bool):(ws.take (i+1)).filter p=(ws.take i).filter p++if p w then[w]else[]:=by rw[List.take_add_one,h,List.filter_append];congr 1;show List.filter p [w]=_;rw[List.filter_cons];rfl
inductive qJ(K:Fn)(vs:List V)(H:Hp)(Q:VK)(E:XK):Prop|mk:∀v m ws,vs=[v]->bC H v m ws->HOuse m ws->(∀c ls H',Ext H H'->WT H' c m.toNat ls ws->Q (.ref c) H')->qJ K vs H Q E
abbrev pC:Vl:=stq 49
def vG:FnScope ["house","ways","way"] ["house"] (aH pC):=⟨rfl,rfl,rfl,by decide +kernel,rfl,by decide +kernel,by decide +kernel⟩
def zJ{P:Vd}{w:Ve}{mg:Vn->Option Va}{base:Vh}(D:Dfn K mg "ways_by_room" pC ["house"])(T:Blt mg):Cal P w K mg base "ways_by_room" 1 ["house"] (qJ K):=by
 have nd:=(vG).nd;refine D.ok vG (λvs H Q E h=>?_) (λX hX H vs Q E h=>?_)
 ·obtain⟨v,m,ws,rfl,_⟩:=h;rfl
 ·obtain⟨f,cdv,A,outer,s,H0,E0,rfl,F⟩:=hX;obtain⟨v,m,ws,rfl,hv,ok,q⟩:=h;obtain⟨a0,a1,rfl,hh,hw⟩:=id hv;obtain⟨bs,hq,k⟩:=b9.al hw;have n:=k.1;have few:=ok.few;have m1:=ok.m1;have m12:=ok.m12;refine⟨_,(@ai _ _ _ _ _ (gD (i:=1) ["room"] [] nd rfl (Or.inl rfl) (cb rfl T.range_ (@aa _ _ _ _ _ (@ah _ _ _ _ _ _ _ (ay K) (pv 0) af (λ_ _=>rfl)) ae rfl)) (λ_=>(aA (i:=0) (show(["room"]:List Vn).Nodup from by decide +kernel) rfl (Or.inl rfl) (Or.inr rfl))) (λ_=>cn) (λ_=>(@bo _ _ _ _ ae)))
    (@ai _ _ _ _ _ (bq PassesOwn.never rfl (ft K (@ah _ _ _ _ _ _ _ (ay K) (pv 0) af (λ_ _=>rfl))) (aA (i:=2) nd rfl (Or.inl rfl)) (@ao _ _ _ (bz (bT K Fz FO FP bZ (@ah _ _ _ _ _ _ _ (aF K) (pv 1) (@ah _ _ _ _ _ _ _ (ay K) (pv 2) af (λ_ _=>rfl)) (λ_ _=>rfl)) (@aa _ _ _ _ _ (pv 2) ae rfl)))))
    (@ao _ _ _ (@aB _ _ _ _ (pv 1))))),?_⟩
  walk_at"";refine az (aj.of hh) (v:=.int m) rfl ?_;walk_at"";refine cj (by omega) ?_;refine dD (λi ys H'=>Ext H H'/\∃ls:List Vb,ys=List.map V.ref ls/\ls.length=i/\ls.Nodup/\∀l∈ls,H' l=Vo (.lst [])/\H l=Vp) (bw (by omega)) ⟨Ext.rfl' _,[],rfl,rfl,List.nodup_nil,λl h=>(nomatch h)⟩ (λi ys H' _ h=>by obtain⟨_,ls,rfl,h,_⟩:=h;rw[Fs,h];exact FN _) ?_ ?_
  ·rintro i ys H' hi ⟨e,ls,rfl,W,G,hls⟩;walk_at"";refine av ?_;walk_at"";refine aK λl H1 e1 a2 p=>?_;refine⟨e.trans e1,ls++[l],by rw[FJ];rfl,by rw[FK,W];rfl,?_,?_⟩
   ·rw[List.nodup_append];refine⟨G,by simp,λa ha b hb z=>?_⟩;have n:b=l:=by simpa using hb
    subst n;subst z;rw[(hls a ha).1]at p;cases p
   ·intro a ha;rcases FQ.mp ha with z|z
    ·exact⟨e1 _ _ (hls a z).1,(hls a z).2⟩
    ·have k:a=l:=by simpa using z
     subst k;refine⟨a2,?_⟩;cases y:H a with
     | none=>rfl
     | some o=>rw[e _ _ y]at p;cases p
  ·rintro ys H1 c ⟨e,ls,rfl,W,G,hls⟩ I;have Y:Ext H (upd H1 c (.lst (List.map V.ref ls))):=e.trans (aV I);have a5:H c=Vp:=by
    cases y:H c with
    | none=>rfl
    | some o=>rw[e _ _ y]at I;cases I
   have a3:c∉ls:=λz=>by rw[(hls c z).1]at I;cases I
   have hcl:∀l∈ls,H l=Vp:=λl h=>(hls l h).2;have hit:∀(r:Nat) (l:Vb),ls[r]?=Vo l->∃bs,(upd H1 c (.lst (List.map V.ref ls))) l=Vo (.lst (List.map V.ref bs))/\aQ (upd H1 c (.lst (List.map V.ref ls))) bs ((ws.take 0).filter λw=>decide (w.room=(r:Int))):=λr l F=>⟨[],(aV I) _ _ (hls l (FC F)).1,aQ.nil _⟩;have M:(upd H1 c (.lst (List.map V.ref ls))) c=_:=aI;generalize upd H1 c (.lst (List.map V.ref ls))=H2 at Y hit M ⊢;clear hls I e H1;walk_at"";refine az (aj.of (Y _ _ hh)) (v:=.ref a1) rfl ?_;walk_at"";refine eT (aj.of (Y _ _ hq)) ?_;refine gK (xs:=bs.map V.ref) (λi σ H'=>∃k1,σ=[Vo (.ref a0),Vo (.ref c),k1]/\Ext H H'/\H' c=Vo (.lst (List.map V.ref ls))/\∀(r:Nat) (l:Vb),ls[r]?=Vo l->∃bs,H' l=Vo (.lst (List.map V.ref bs))/\aQ H' bs ((ws.take i).filter λw=>decide (w.room=(r:Int)))) ⟨Vp,rfl,Y,M,hit⟩ (λi σ H' _ h=>by obtain⟨_,_,e,_⟩:=h;exact aj.of (e _ _ hq)) ?_ ?_
   ·rintro i u σ H3 hu ⟨k1,rfl,Z,x,d⟩;rw[Fu]at hu;obtain⟨b,hb,rfl⟩:=FE.mp hu;have hi:i<ws.length:=by rw[←n];exact(FA.mp hb).1
    have B:ws[i]?=Vo ws[i]:=Ft hi;have C:=Z _ _ (k.2 i b _ hb B);generalize ws[i]=w0 at B C;have N:=ok.ok w0 (FC B);have r0:=N.r0;have r1:=N.r1;have a4:w0.room.toNat<ls.length:=by rw[W];omega
    have g:ls[w0.room.toNat]?=Vo ls[w0.room.toNat]:=Ft a4;generalize ls[w0.room.toNat]=l at g;have O:=FC g;obtain⟨cs,j,R⟩:=d _ _ g;have S:cs.length<=100:=by rw[R.1];exact FY (List.length_filter_le _ _) (by rw[Gi];omega)
    have U:c≠l:=λz=>a3 (z ▸ O);walk_at"";refine az (aj.of C) (v:=.int w0.room) rfl ?_;walk_at"";refine aE (ag.of x) (v:=.ref l) (eD r0 (by rw[Fu,g];rfl)) ?_;refine⟨cJ (ag.of j),?_⟩;walk_at"";refine bX j (by rw[Fs];exact Nat.lt_of_le_of_lt S (by decide)) ?_;walk_at"";refine⟨_,rfl,cA Z (hcl l O),by rw[aG U];exact x,λr l' F=>?_⟩;rw[za B];by_cases J:l'=l
    ·subst J;have L:r=w0.room.toNat:=(List.getElem?_inj (FA.mp F).1 G).mp (by rw[F,g]);subst L;refine⟨cs++[b],?_,?_⟩
     ·rw[aI,FJ];rfl
     ·rw[Gr (Gp (by omega))];have put:aQ (upd H3 l' (.lst (List.map V.ref cs++[.ref b]))) cs ((ws.take i).filter λw=>decide (w.room=((w0.room.toNat:Nat):Int))):=R.put j;exact put.snoc (by rw[aG (dM C j (λz=>by cases z))];exact C)
    ·obtain⟨ds,h1,h2⟩:=d r l' F;have L:¬(w0.room=(r:Int)):=λz=>J (by
      have:w0.room.toNat=r:=by omega
      rw[this,F]at g;exact F8 g)
     rw[Gq (by simpa using L),List.append_nil];exact⟨ds,by rw[aG J];exact h1,h2.put j⟩
   ·rintro σ H3 ⟨k1,rfl,Z,x,d⟩;rw[Fs,n,FW]at d;walk_at"";exact q c ls H3 Z ⟨x,W,d⟩
def LB(ws:List Way)(n:Nat)(top:Int)(x y:Bfs.Pl):Prop:=(∃w∈ws,cU w x.1 x.2=true/\y=(w.other,x.2+rz w.deed)/\y.2<=top)\/(top<=x.2/\∃i j:Nat,Kpt ws n i j/\x.1=(i:Int)/\y=((j:Int),top))
def gX{w:Way}{r n:Int}(h:cU w r n=true):w.room=r:=by unfold cU at h;rw[F5]at h;exact of_decide_eq_true h.1
inductive mf(K:Fn)(vs:List V)(H:Hp)(Q:VK)(E:XK):Prop|mk:∀c a top p m ws ls x,vs=[.ref c,.ref a,.int top,.ref p]->WT H c m.toNat ls ws->fm H a m.toNat (Kpt ws m.toNat)->HOuse m ws->aO H p x->0<=x.1->x.1<m->(∀l ps ys H',Ext H H'->H l=Vp->H' l=Vo (.lst (List.map V.ref ps))->Paired (aO H') ps ys->(∀y,y∈ys↔LB ws m.toNat top x y)->ys.length<=300->Q (.ref l) H')->mf K vs H Q E
abbrev pM:Vl:=stq 51
def tP:FnScope ["ways","keeps","top","here","low"] ["ways","keeps","top","here"] (aH pM):=⟨rfl,rfl,rfl,by decide +kernel,rfl,by decide +kernel,by decide +kernel⟩
def Ee{P:Vd}{w:Ve}{mg:Vn->Option Va}{base:Vh}(D:Dfn K mg "low_beside" pM ["ways","keeps","top","here"])(T:Blt mg)(d:Cal P w K mg base "led_to_from" 3 ["ways","place"] (nA K)):Cal P w K mg base "low_beside" 4 ["ways","keeps","top","here"] (mf K):=by
 have nd:=(tP).nd;refine D.ok tP (λvs H Q E h=>?_) (λX hX H vs Q E h=>?_)
 ·obtain⟨c,kl,top,p,m,ws,ls,x,rfl,_⟩:=h;rfl
 ·obtain⟨f,cdv,A,outer,s,H0,E0,rfl,hr⟩:=hX;obtain⟨c,kl,top,p,m,ws,ls,x,rfl,wt,a8,ok,F,x0,x1,q⟩:=h;have m1:=ok.m1;have m12:=ok.m12;have few:=ok.few;have a9:x.1.toNat<ls.length:=by rw[wt.len];omega
  have N:ls[x.1.toNat]?=Vo ls[x.1.toNat]:=Ft a9;generalize ls[x.1.toNat]=l0 at N;obtain⟨bs,ab,Y⟩:=wt.it _ _ N;have ac:((x.1.toNat:Nat):Int)=x.1:=by omega
  rw[ac]at Y;have G:(ws.filter λw=>decide (w.room=x.1)).length<=100:=FY (List.length_filter_le _ _) few;obtain⟨ad,g,ak,Z,hkg⟩:=a8;have a0:=dA Z;have b2:=my (n:=m.toNat) (g:=g) m.toNat;have b4:m.toNat*m.toNat<=12*12:=Nat.mul_le_mul (by omega) (by omega);refine⟨_,(@ai _ _ _ _ _ (gD (i:=4) ["there"] [2] nd rfl (Or.inl rfl) (bP K (ax d hr (@aa _ _ _ _ _ (@ah _ _ _ _ _ _ _ (aF K) (pv 0) (@ah _ _ _ _ _ _ _ (ay K) (pv 3) af (λ_ _=>rfl)) (λ_ _=>rfl)) (@aa _ _ _ _ _ (pv 3) ae rfl) rfl))) (λ_=>(aA (i:=0) (show(["there","top"]:List Vn).Nodup from by decide +kernel) rfl (Or.inl rfl) (Or.inr rfl))) (λ_=>(dw (aM fN (@ah _ _ _ _ _ _ _ (ay K) (pv 0) af (λ_ _=>rfl)) (pv 1) (aJ _)))) (λ_=>(pv 0)))
    (@ai _ _ _ _ _ (@aZ _ _ _ _ _ _ _ _ (aM dP (@ah _ _ _ _ _ _ _ (ay K) (pv 3) af (λ_ _=>rfl)) (pv 2) (aJ _)) (@ao _ _ _ (@aB _ _ _ _ (pv 4))) aP)
    (@ao _ _ _ (@aB _ _ _ _ (aq lY (pv 4) (bK ["p","q"] [2,3] (bP K (pv 1)) (λ_=>(dS (n:=2) K rfl (bp (aA (i:=0) (show(["p","q","top","here"]:List Vn).Nodup from by decide +kernel) rfl (Or.inl rfl) (Or.inr rfl)) (bp (aA (i:=1) (show(["p","q","top","here"]:List Vn).Nodup from by decide +kernel) rfl (Or.inl rfl) (Or.inr rfl)) dC)))) (λ_=>(dw (aM bH (pv 0) (@ah _ _ _ _ _ _ _ (ay K) (pv 3) af (λ_ _=>rfl)) (aJ _)))) (λ_=>(@bf _ _ _ _ _ (@aa _ _ _ _ _ (pv 1) (@aa _ _ _ _ _ (pv 2) ae rfl) rfl))))))))),?_⟩
  walk_at"";refine az (aj.of F) (v:=.int x.1) rfl ?_;walk_at"";refine aE (ag.of wt.at_) (v:=.ref l0) (eD x0 (by rw[Fu,N];rfl)) ?_;walk_at"";refine⟨l0,bs,_,p,x,rfl,ab,Y,λw hw=>(ok.ok w (List.mem_filter.mp hw).1).dd,G,F,λl1 am H1 e1 b6 a1 u=>?_⟩;have I:=dA u;have O:(dk (ws.filter λw=>decide (w.room=x.1)) x).length<=100:=by unfold dk;rw[Fs];exact FY (List.length_filter_le _ _) G
  have J:∀y,y∈dk (ws.filter λw=>decide (w.room=x.1)) x↔∃w∈ws,cU w x.1 x.2=true/\y=(w.other,x.2+rz w.deed):=λy=>by
   unfold dk;constructor
   ·intro h;obtain⟨w,hw,rfl⟩:=List.mem_map.mp h;obtain⟨h1,h2⟩:=List.mem_filter.mp hw;exact⟨w,(List.mem_filter.mp h1).1,h2,rfl⟩
   ·rintro⟨w,hw,ho,rfl⟩;exact List.mem_map.mpr ⟨w,List.mem_filter.mpr ⟨List.mem_filter.mpr ⟨hw,Gp (gX ho)⟩,ho⟩,rfl⟩
  generalize dk (ws.filter λw=>decide (w.room=x.1)) x=zs at u I O J;walk_at"";refine bN (ag.of a1) ?_;refine dn (xs:=List.map V.ref am) (λi ys H'=>H'=H1/\∃cs,ys=List.map V.ref cs/\Paired (aO H1) cs ((zs.take i).filter λy=>decide (y.2<=top))) (bw (by rw[Fs];omega)) ⟨rfl,[],rfl,.nil⟩ (λi ys H' _ h=>by obtain⟨rfl,cs,rfl,k⟩:=h;refine⟨ag.of a1,?_⟩;rw[Fs,dA k];exact FY (List.length_filter_le _ _) (by rw[Gi];omega)) ?_ ?_
  ·rintro i v ys H2 hx ⟨rfl,cs,rfl,k⟩;rw[Fu]at hx;obtain⟨b,hb,rfl⟩:=FE.mp hx;obtain⟨y,hy,a2⟩:=cg u hb;walk_at"";refine az (aj.of a2) (v:=.int y.2) rfl ?_;walk_at"";have step:(zs.take (i+1)).filter (λy=>decide (y.2<=top))=(zs.take i).filter (λy=>decide (y.2<=top))++if decide (y.2<=top)then[y]else[]:=by rw[List.take_add_one,hy,List.filter_append];congr 1;show List.filter _ [y]=_;rw[List.filter_cons];rfl
   cases hc:decide (y.2<=top)with
   | true=>
    refine av ?_;walk_at"";refine⟨rfl,cs++[b],?_,?_⟩
    ·rw[FJ];rfl
    ·rw[step,hc];exact jG k a2
   | false=>
    refine aw ⟨rfl,cs,rfl,?_⟩;rw[step,hc];simpa using k
  ·rintro ys H2 S ⟨hH,cs,rfl,k⟩ R;subst hH;rw[Fs,I,FW]at k;have e2:=aV (o:=.lst (List.map V.ref cs)) R;have h9:(upd H2 S (.lst (List.map V.ref cs))) S=_:=aI;have B:=cq (λa x h=>e2 _ _ h) k;have hfn:H S=Vp:=by
    cases z:H S with
    | none=>rfl
    | some o=>rw[e1 _ _ z]at R;cases R
   have l:=e1.trans e2;generalize upd H2 S (.lst (List.map V.ref cs))=H3 at e2 h9 B l ⊢;have hcl:=dA k;have b7:=List.length_filter_le (λy:Bfs.Pl=>decide (y.2<=top)) zs;have first:∀y,y∈zs.filter (λy=>decide (y.2<=top))↔∃w∈ws,cU w x.1 x.2=true/\y=(w.other,x.2+rz w.deed)/\y.2<=top:=λy=>by
    rw[List.mem_filter,J];constructor
    ·rintro⟨⟨w,h1,h2,h3⟩,h4⟩;exact⟨w,h1,h2,h3,of_decide_eq_true h4⟩
    ·rintro⟨w,h1,h2,h3,h4⟩;exact⟨⟨w,h1,h2,h3⟩,Gp h4⟩
   walk_at"";refine az (aj.of (l _ _ F)) (v:=.int x.2) rfl ?_;walk_at"";cases hc:decide (x.2<top)with
   | true=>
    have an:=of_decide_eq_true hc;refine av ?_;walk_at"";refine q S cs _ H3 l hfn h9 B (λy=>?_) (by omega);rw[first];constructor
    ·exact λh=>.inl h
    ·rintro(h|⟨h,_⟩)
     ·exact h
     ·omega
   | false=>
    have an:=of_decide_eq_false hc;refine aw ?_;walk_at"";have L:=l _ _ ak;have a3:=cq (λa x h=>l _ _ h) Z;refine bN (ag.of L) ?_;refine dn (xs:=List.map V.ref ad) (λi ys H'=>Ext H3 H'/\∃ds,ys=List.map V.ref ds/\Paired (aO H') ds ((((dv m.toNat g m.toNat).take i).filter λz=>decide (z.1=x.1)).map λz=>(z.2,top))) (bw (by rw[Fs];omega)) ⟨Ext.rfl' _,[],rfl,.nil⟩ (λi ys H' _ h=>by obtain⟨e,ds,rfl,r⟩:=h;refine⟨ag.of (e _ _ L),?_⟩;rw[Fs,dA r,Fs];exact FY (List.length_filter_le _ _) (by rw[Gi];omega)) ?_ ?_
    ·rintro i v ys H4 hx ⟨U,ds,rfl,r⟩;rw[Fu]at hx;obtain⟨b,hb,rfl⟩:=FE.mp hx;obtain⟨z,hz,ap⟩:=cg a3 hb;have a4:aO H4 b z:=U _ _ ap;refine dH (aj.of a4) rfl ?_;walk_at"";refine az (aj.of ((l.trans U) _ _ F)) (v:=.int x.1) rfl ?_;walk_at"";have step:(((dv m.toNat g m.toNat).take (i+1)).filter (λz=>decide (z.1=x.1))).map (λz=>(z.2,top))=(((dv m.toNat g m.toNat).take i).filter (λz=>decide (z.1=x.1))).map (λz=>(z.2,top))++if decide (z.1=x.1)then[(z.2,top)]else[]:=by rw[List.take_add_one,hz,List.filter_append,FJ];congr 1;show List.map _ (List.filter _ [z])=_;rw[List.filter_cons];split<;>rfl
     cases a5:decide (z.1=x.1)with
     | true=>
      refine av ?_;walk_at"";refine aK λt H5 W ht _=>?_;refine⟨U.trans W,ds++[t],?_,?_⟩
      ·rw[FJ];rfl
      ·rw[step,a5];exact jG (cq (λa x h=>W _ _ h) r) ht
     | false=>
      refine aw ⟨U,ds,rfl,?_⟩;rw[step,a5];simpa using r
    ·rintro ys H4 p8 ⟨U,ds,rfl,r⟩ ar;rw[Fs,a0,FW]at r;have W:=aV (o:=.lst (List.map V.ref ds)) ar;have h8:(upd H4 p8 (.lst (List.map V.ref ds))) p8=_:=aI;have M:=cq (λa x h=>W _ _ h) r;have C:=U.trans W;generalize upd H4 p8 (.lst (List.map V.ref ds))=H5 at W h8 M C ⊢;have as:=dA r;rw[Fs]at as;have b5:=List.length_filter_le (λz:Bfs.Pl=>decide (z.1=x.1)) (dv m.toNat g m.toNat);walk_at"";refine ni (C _ _ h9) h8 (bw (by rw[Fs,Fs];omega)) (bL λl' H6 e6 a6 a7=>?_);rw[←FJ]at a6;have au:=(l.trans C).trans e6;have b0:H l'=none:=by
      cases z:H l' with
      | none=>rfl
      | some o=>rw[(l.trans C) _ _ z]at a7;cases a7
     refine q l' (cs++ds) _ H6 au b0 a6 (vT (cq (λa x h=>(C.trans e6) _ _ h) B) (cq (λa x h=>e6 _ _ h) M)) (λy=>?_) (by rw[FK,Fs];omega);rw[FQ,first];constructor
     ·rintro(h|h)
      ·exact .inl h
      ·obtain⟨z,hz,rfl⟩:=List.mem_map.mp h;obtain⟨z1,z2⟩:=List.mem_filter.mp hz;obtain⟨i,j,hi,hj,hg,rfl⟩:=iM.mp z1;exact .inr ⟨by omega,i,j,(hkg i j hi hj).mp hg,(of_decide_eq_true z2).symm,rfl⟩
     ·rintro(h|⟨_,i,j,hk,b1,rfl⟩)
      ·exact .inl h
      ·right;have hlt:=Kpt.lt ok.ok hk;exact List.mem_map.mpr ⟨((i:Int),(j:Int)),List.mem_filter.mpr ⟨iM.mpr ⟨i,j,hlt.1,hlt.2,(hkg i j hlt.1 hlt.2).mpr hk,rfl⟩,Gp b1.symm⟩,rfl⟩
structure RR(H0 H:Hp)(f rw:Vb)(qs:List Bfs.Pl):Prop where
 ext:Ext H0 H
 fn:H0 f=Vp
 rn:H0 rw=Vp
 d:∃kvs,H f=Vo (.dT kvs)/\Paired (λ(kv:List Key×V) z=>kv.1=cw z) kvs qs
 r:∃as,H rw=Vo (.lst (List.map V.ref as))/\Paired (aO H) as qs
def RR.step{H0 H H1:Hp}{f rw:Vb}{qs:List Bfs.Pl}(h:RR H0 H f rw qs)(e:Ext H H1):RR H0 H1 f rw qs:=by obtain⟨h1,h2,b,⟨kvs,c,d⟩,as,g,i⟩:=h;exact⟨h1.trans e,h2,b,⟨kvs,e _ _ c,d⟩,as,e _ _ g,cq (λa x h=>e _ _ h) i⟩
def xI{kvs:List (List Key×V)}{qs:List Bfs.Pl}(h:Paired (λ(kv:List Key×V) z=>kv.1=cw z) kvs qs){x:Bfs.Pl}(a:x∉qs):bR kvs (cw x)=Vp:=
 Cw (key:=λz=>z) (λ_ _ z=>z) h (by simpa using a)
def BX{kvs:List (List Key×V)}{qs:List Bfs.Pl}(h:Paired (λ(kv:List Key×V) z=>kv.1=cw z) kvs qs)(nd:qs.Nodup){x:Bfs.Pl}(a:x∈qs):∃v,bR kvs (cw x)=Vo v:=by obtain⟨v,b,_⟩:=BS (key:=λz=>z) (λ_ _ z=>z) h (by simpa using nd) a;exact⟨v,b⟩
def RR.push{H0 H:Hp}{f rw th:Vb}{qs:List Bfs.Pl}{y:Bfs.Pl}{v:V}(h:RR H0 H f rw qs)(m:y∉qs)(d:aO H th y):
  ∃kvs,H f=Vo (.dT kvs)/\kvs.length=qs.length/\∃as,upd H f (.dT (putK kvs (cw y) v)) rw=Vo (.lst (List.map V.ref as))/\as.length=qs.length ∧
   RR H0 (upd (upd H f (.dT (putK kvs (cw y) v))) rw (.lst (List.map V.ref as++[.ref th]))) f rw (qs++[y]):=by
 obtain⟨h1,h2,g,⟨kvs,c,e⟩,as,i,j⟩:=h;have k:∀xs,(HO.dT kvs)≠.tup xs:=λxs z=>by cases z
 have l:∀xs,(HO.lst (List.map V.ref as))≠.tup xs:=λxs z=>by cases z
 have ne:rw≠f:=dM i c (by intro z;cases z);have b:upd H f (.dT (putK kvs (cw y) v)) rw=Vo (.lst (List.map V.ref as)):=by rw[aG ne];exact i
 refine⟨kvs,c,Paired.length e,as,b,Paired.length j,cA (cA h1 h2) g,h2,g,⟨kvs++[(cw y,v)],?_,?_⟩,as++[th],?_,?_⟩
 ·rw[aG ne.symm,aI,CM _ (xI e m)]
 ·exact Paired.snoc e rfl
 ·rw[aI,FJ];rfl
 ·exact jG (cq (λa x z=>aO.put b l (aO.put c k z)) j) (aO.put b l (aO.put c k d))
structure RQ(S:Bfs.Pl->Bfs.Pl->Prop)(m T:Int)(x:Bfs.Pl)(qs:List Bfs.Pl)(i:Nat):Prop where
 nd:qs.Nodup
 has:x∈qs
 wk:∀z∈qs,∃n,Bfs.Rw S n x z
 ins:∀z∈qs,cO m T z
 cl:∀j,j<i->∀y,qs[j]?=Vo y->∀z,S y z->z∈qs
def RQ.done{S:Bfs.Pl->Bfs.Pl->Prop}{m T:Int}{x:Bfs.Pl}{qs:List Bfs.Pl}{i:Nat}(h:RQ S m T x qs i)(hi:qs.length<=i):∀z,z∈qs↔∃n,Bfs.Rw S n x z:=λz=>by
 refine⟨h.wk z,λ⟨n,d⟩=>?_⟩;have go:∀(n:Nat) (a b:Bfs.Pl),Bfs.Rw S n a b->a∈qs->b∈qs:=by
  intro n a b e;induction e with
  | nil=>exact λh=>h
  | snoc _ hs g=>
   intro ha;obtain⟨j,c⟩:=Gg (g ha);have:=(FA.mp c).1;exact h.cl j (by omega) _ c _ hs
 exact go n x z d h.has
def sE(m T:Int)(S:Bfs.Pl->Bfs.Pl->Prop):List V->Hp->VK->Prop:=λvs H Q=>∃p y,vs=[.ref p]/\aO H p y/\cO m T y/\∀l ps ys H',Ext H H'->H l=Vp->H' l=Vo (.lst (List.map V.ref ps))->Paired (aO H') ps ys->(∀z,z∈ys↔S y z)->ys.length<=300->Q (.ref l) H'
def xJ(P:Vd)(w:Ve)(K:Fn)(mg:Vn->Option Va)(base:Vh):Sp:=λvs H Q _=>∃a f pre x m T S,vs=[.ref a,.ref f]/\aO H a x/\cO m T x/\m<=12/\T<=2000/\FunR P w K mg base 5 f pre (sE m T S)/\pre H/\(∀H H',Ext H H'->pre H->pre H')/\(∀y z,cO m T y->S y z->cO m T z) ∧
 ∀l as qs H',Ext H H'->H' l=Vo (.lst (List.map V.ref as))->Paired (aO H') as qs->(∀z∈qs,cO m T z)->qs.length<=24012->(∀z,z∈qs↔∃n,Bfs.Rw S n x z)->Q (.ref l) H'
abbrev qI:Vl:=stq 50
def xN:FnScope ["place","beside","found","row","looked","here","there"] ["place","beside"] (aH qI):=⟨rfl,rfl,rfl,by decide +kernel,rfl,by decide +kernel,by decide +kernel⟩
def Dl{P:Vd}{w:Ve}{mg:Vn->Option Va}{base:Vh}(D:Dfn K mg "reached" qI ["place","beside"])(T:Blt mg):Cal P w K mg base "reached" 6 ["place","beside"] (xJ P w K mg base):=by
 have nd:=(xN).nd;refine D.ok xN (λvs H Q E h=>?_) (λX hX H vs Q E h=>?_)
 ·obtain⟨pa,f,pre,x,m,T,S,rfl,_⟩:=h;rfl
 ·obtain⟨f,cdv,A,outer,s,H0,E0,rfl,hr⟩:=hX;obtain⟨pa,ff,pre,x,m,TT,S,rfl,hx,ix,I,hT,hF,ad,a6,ak,q⟩:=h;refine⟨_,(@ai _ _ _ _ _ (@aC _ _ 2 _ _ _ _ nd rfl (Or.inl rfl) (Ah (qM hr) (pv 0) aT) rfl (Or.inl rfl))
    (@ai _ _ _ _ _ (@aC _ _ 3 _ _ _ _ nd rfl (Or.inl rfl) (@bo _ _ _ _ (@aa _ _ _ _ _ (pv 0) ae rfl)) rfl (Or.inl rfl))
    (@ai _ _ _ _ _ (@aC _ _ 4 _ _ _ _ nd rfl (Or.inl rfl) af rfl (Or.inl rfl))
    (@ai _ _ _ _ _ (fF PassesOwn.never (aM dP (pv 4) (aU (dh K) rfl T.len_ PySem.boot_len (@aa _ _ _ _ _ (pv 3) ae rfl)) (aJ _)) (@ai _ _ _ _ _ (@aC _ _ 5 _ _ _ _ nd rfl (Or.inl rfl) (@ah _ _ _ _ _ _ _ (aF K) (pv 3) (pv 4) (λ_ _=>rfl)) rfl (Or.inl rfl))
    (@ai _ _ _ _ _ (mE (i:=4) nd rfl (Or.inl rfl) af ya)
    (@ao _ _ _ (bq PassesOwn.never rfl (bP K (sG (P:=P) (w:=w) (K:=K) (mg:=mg) (base:=base) hr (pv 1) (@aa _ _ _ _ _ (pv 5) ae rfl))) (aA (i:=6) nd rfl (Or.inl rfl)) (@ao _ _ _ (cF (DR (Bt (qM hr) (pv 6) (pv 2)) (by with_unfolding_all rfl)) (@ai _ _ _ _ _ (EM (qM hr) (pv 2) (pv 6) aT rfl)
    (@ao _ _ _ (bz (bT K Fz FO FP bZ (pv 3) (@aa _ _ _ _ _ (pv 6) ae rfl))))) aP)))))))
    (@ao _ _ _ (@aB _ _ _ _ (pv 3))))))),?_⟩
  walk_at"";refine λf hfn=>?_;walk_at"";refine⟨pa,cw x,rfl,(aV hfn) _ _ hx,aI,?_⟩;walk_at"";refine aK λrw H3 e3 am a7=>?_;walk_at"";have W:Ext H (upd (upd H f (.dT [])) f (.dT [(cw x,.bl true)])):=λb o hb=>by rw[aG (cQ hb hfn),aG (cQ hb hfn)];exact hb
  have a0:H rw=Vp:=by
   cases z:H rw with
   | none=>rfl
   | some o=>rw[W _ _ z]at a7;cases a7
  have an:H3 f=Vo (.dT [(cw x,.bl true)]):=e3 _ _ aI;have b6:RR H H3 f rw [x]:=⟨W.trans e3,hfn,a0,⟨_,an,.cons rfl .nil⟩,[pa],am,.cons (e3 _ _ (W _ _ hx)) .nil⟩;have b7:RQ S m TT x [x] 0:=⟨by simp,by simp,λz u=>by rw[FD.mp u];exact⟨0,.nil⟩,λz u=>by rw[FD.mp u];exact ix,λj hj=>absurd hj (Nat.not_lt_zero _)⟩;clear an a0 W am a7 e3;refine fE (λM σ H'=>∃qs i k1 k2,RR H H' f rw qs/\RQ S m TT x qs i/\i<=qs.length/\M=24013-i/\σ=[Vo (.ref pa),Vo (.ref ff),Vo (.ref f),Vo (.ref rw),Vo (.int (i:Nat)),k1,k2]) (λσ H'=>∃qs i k0 k1 k2,RR H H' f rw qs/\RQ S m TT x qs i/\qs.length<=i/\qs.length<=24012/\σ=[Vo (.ref pa),Vo (.ref ff),Vo (.ref f),Vo (.ref rw),k0,k1,k2]) 24013 ⟨[x],0,_,_,b6,b7,by simp,by simp,rfl⟩ ?_ ?_
  ·rintro M σ H4 ⟨qs,i,k1,k2,rr,G,hi,rfl,rfl⟩;have a8:qs.length<=24012:=cO.few I hT G.nd G.ins;obtain⟨as,J,pr⟩:=rr.r;have ap:=dA pr;walk_at"";refine fK (ag.of J) ?_;walk_at"";by_cases hlt:i<qs.length
   rotate_left
   ·rw[Gn (show ¬((i:Nat):Int)<((List.map V.ref as).length:Nat) by rw[Fs,ap];omega)];refine aw ?_;exact⟨qs,i,_,_,_,rr,G,by omega,a8,rfl⟩
   ·rw[Gp (show((i:Nat):Int)<((List.map V.ref as).length:Nat) by rw[Fs,ap];omega)];refine av ?_;refine⟨λar H'=>∃g k1 k2,RR H H' f rw g/\RQ S m TT x g (i+1)/\i+1<=g.length/\g.length<=24012/\ar=[Vo (.ref pa),Vo (.ref ff),Vo (.ref f),Vo (.ref rw),Vo (.int ((i+1:Nat):Int)),k1,k2],λar H' ⟨g,k1,k2,a1,a2,a3,a4,a5⟩=>⟨24013-(i+1),by omega,g,i+1,k1,k2,a1,a2,a3,rfl,a5⟩,?_⟩;have L:qs[i]?=Vo qs[i]:=Ft hlt;generalize qs[i]=y at L;obtain⟨b,hb,b8⟩:=eo pr L;have iy:=G.ins y (FC L);walk_at"";refine aE (ag.of J) (fk (v:=.ref b) (by rw[Fu,hb];rfl)) ?_;walk_at"";refine xx ?_;walk_at"";have N:=a6 _ _ rr.ext ad;refine⟨ff,pre,_,rfl,hF,N,?_⟩;walk_at"";refine⟨N,b,y,rfl,b8,iy,λl ps ys H5 e5 Y au b0 hys c2=>?_⟩;have ba:=dA b0;have a9:=rr.step e5;obtain⟨c0,bb,_⟩:=a9.d;obtain⟨c3,bc,_⟩:=a9.r;have be:l≠f:=λz=>by obtain⟨kvs,hd,_⟩:=rr.d;rw[z,hd]at Y;cases Y
    have bg:l≠rw:=λz=>by rw[z,J]at Y;cases Y
    refine bN (ag.of au) ?_;refine forL (xs:=List.map V.ref ps) (λj σ H'=>∃g k2,RR H H' f rw g/\g.Nodup/\(∃new,g=qs++new)/\(∀z∈g,(∃n,Bfs.Rw S n x z)/\cO m TT z)/\(∀a,a<j->∀z,ys[a]?=Vo z->z∈g)/\(∀c o,c≠f->c≠rw->H5 c=Vo o->H' c=Vo o)/\σ=[Vo (.ref pa),Vo (.ref ff),Vo (.ref f),Vo (.ref rw),Vo (.int ((i+1:Nat):Int)),Vo (.ref b),k2]) ⟨qs,_,a9,G.nd,⟨[],by simp⟩,λz u=>⟨G.wk z u,G.ins z u⟩,λa ha=>absurd ha (Nat.not_lt_zero _),λc o _ _ h=>h,rfl⟩ (λj σ H' _ h=>by obtain⟨_,_,_,_,_,_,_,kp,_⟩:=h;exact ag.of (kp _ _ be bg au)) ?_ ?_
    ·rintro j v σ H6 hv ⟨C,k2,O,F,⟨new,p⟩,in6,cl6,Z,rfl⟩;rw[Fu]at hv;obtain⟨th,bi,rfl⟩:=FE.mp hv;obtain⟨z,u,R⟩:=cg b0 bi;have nth:∀{c:Vb} {o:HO},H5 c=Vo o->(∀xs,o≠.tup xs)->th≠c:=λ{c o} hc hn=>dM R hc (λe=>hn _ e.symm);have U:aO H6 th z:=Z _ _ (nth bb (λxs e=>by cases e)) (nth bc (λxs e=>by cases e)) R;have b1:S y z:=(hys z).mp (FC u);have b2:C.length<=24012:=cO.few I hT F λz u=>(in6 z u).2;obtain⟨kvs,hd,pk⟩:=O.d;walk_at"";refine fY ?_;walk_at"";refine⟨f,_,rfl,iD.t hd (k:=cw z) U,?_⟩;by_cases hin:z∈C
     ·obtain⟨v1,bm⟩:=BX pk F hin;rw[bm];refine rd_exb (aw ?_);walk_at"";refine⟨C,_,O,F,⟨new,p⟩,in6,λa ha z' B=>?_,Z,rfl⟩;by_cases ab:a<j
      ·exact cl6 a ab z' B
      ·have:a=j:=by omega
       subst this;rw[u]at B;cases B;exact hin
     ·rw[xI pk hin];refine rd_exb (av ?_);obtain⟨kvs,bn,c4,c5,b4,c1,bt⟩:=O.push (v:=.bl true) hin U;walk_at"";refine⟨f,_,rfl,iT.t bn (k:=cw z) U (q5 (by omega)),?_⟩;walk_at"";refine⟨cJ (ag.of b4),?_⟩;walk_at"";refine bX b4 (q5 (by rw[Fs];omega)) ?_;walk_at"";obtain⟨n0,bu⟩:=G.wk y (FC L);refine⟨C++[z],_,bt,?_,⟨new++[z],by rw[p,List.append_assoc]⟩,λz' B=>?_,λa ha z' B=>?_,λc o nf nr hc=>?_,rfl⟩
      ·rw[List.nodup_append];refine⟨F,by simp,λa ha c hc e=>?_⟩;rw[FD.mp hc]at e;exact hin (e ▸ ha)
      ·rcases FQ.mp B with h|h
       ·exact in6 z' h
       ·rw[FD.mp h];exact⟨⟨n0+1,.snoc bu b1⟩,ak y z iy b1⟩
      ·by_cases ab:a<j
       ·exact Ga _ (cl6 a ab z' B)
       ·have:a=j:=by omega
        subst this;rw[u]at B;cases B;exact F9 _ (by simp)
      ·rw[aG nr,aG nf];exact Z c o nf nr hc
    ·rintro σ H6 ⟨C,k2,O,F,⟨new,p⟩,in6,cl6,Z,rfl⟩;rw[Fs,ba]at cl6;have b2:C.length<=24012:=cO.few I hT F λz u=>(in6 z u).2;have hle:qs.length<=C.length:=by rw[p,FK];omega
     refine⟨C,_,_,O,⟨F,by rw[p];exact Ga _ G.has,λz u=>(in6 z u).1,λz u=>(in6 z u).2,λj hj y' b5 z u=>?_⟩,by omega,b2,rfl⟩;have bv:j<qs.length:=by omega
     have ac:qs[j]?=Vo y':=by rw[p,FT bv]at b5;exact b5
     by_cases bx:j<i
     ·rw[p];exact Ga _ (G.cl j bx y' ac z u)
     ·have:j=i:=by omega
      subst this;rw[L]at ac;cases ac;obtain⟨a,ha⟩:=Gg ((hys z).mpr u);exact cl6 a (FA.mp ha).1 z ha
  ·rintro σ H4 ⟨qs,i,k0,k1,k2,rr,G,hi,a8,rfl⟩;obtain⟨as,J,pr⟩:=rr.r;walk_at"";exact q rw as qs H4 rr.ext J pr G.ins a8 (G.done hi)
def Eu(H H':Hp):Prop:=∀b o,H b=Vo o->(∀f,o≠.ext f)->H' b=Vo o
def aQ.eu{H H':Hp}{bs:List Vb}{ws:List Way}(e:Eu H H')(h:aQ H bs ws):aQ H' bs ws:=⟨h.1,λj b w a c=>e _ _ (h.2 j b w a c) (λf z=>by cases z)⟩
def aO.eu{H H':Hp}(e:Eu H H'){p:Vb}{x:Bfs.Pl}(h:aO H p x):aO H' p x:=e _ _ h (λf z=>by cases z)
structure TL(H H':Hp)(q:Vb)(rs:List Vb)(n:Nat)(M:Nat->Nat->Bool):Prop where
 keep:∀b o,b∉rs->H b=Vo o->H' b=Vo o
 nd:rs.Nodup
 nq:q∉rs
 rows:Rows H' q rs n M
def TL.mark{H H1:Hp}{q r:Vb}{rs:List Vb}{n i j:Nat}{M:Nat->Nat->Bool}(h:TL H H1 q rs n M)(hi:rs[i]?=Vo r)(m:j<n):TL H (upd H1 r (.lst ((aL n (M i)).set j (.bl true)))) q rs n (put2 M i j):=by
 have k:=FC hi;have nqr:q≠r:=λz=>h.nq (z ▸ k);refine⟨λb o nb e=>?_,h.nd,h.nq,?_,λa l ha=>?_⟩
 ·have g:b≠r:=λz=>nb (by rw[z];exact k);rw[aG g];exact h.keep b o nb e
 ·rw[aG nqr];exact h.rows.1
 ·by_cases c:a=i
  ·subst c;rw[hi]at ha;cases ha;rw[aI,gr _ _ m];congr 2;refine bY λy _=>?_;unfold put2;by_cases d:y=j
   ·rw[Gr d,Gr ⟨rfl,d⟩]
   ·rw[Gq d,Gq λz=>d z.2]
  ·have p:l≠r:=λz=>c ((List.getElem?_inj (FA.mp ha).1 h.nd).mp (by rw[ha,hi,z]));rw[aG p,h.rows.2 a l ha];congr 2;exact bY λy _=>by unfold put2;rw[Gq λz=>c z.1]
def ES{m:Int}{ws:List Way}(ok:HOuse m ws){top:Int}{x y:Bfs.Pl}(b:0<=top)(c:cO m top x)(h:LB ws m.toNat top x y):cO m top y:=by
 have m1:=ok.m1;rcases h with⟨w,d,ho,rfl,hle⟩|⟨_,i,j,e,_,rfl⟩
 ·have a:=ok.ok w d;refine⟨a.o0,a.o1,?_,hle⟩;exact EG a.dd c.2.2.1 ho
 ·have:=Kpt.lt ok.ok e;exact⟨by show(0:Int)<=(j:Int);omega,by show(j:Int)<m;omega,b,Int.le_refl _⟩
theorem WT.eu{H H':Hp}{c:Vb}{n:Nat}{ls:List Vb}{ws:List Way}(e:Eu H H')(h:WT H c n ls ws):WT H' c n ls ws:=
 ⟨e _ _ h.at_ (λf z=>by cases z),h.len,λr l a=>by obtain⟨bs,h1,h2⟩:=h.it r l a;exact⟨bs,e _ _ h1 (λf z=>by cases z),h2.eu e⟩⟩
theorem fm.eu{H H':Hp}(e:Eu H H'){l:Vb}{n:Nat}{R:Nat->Nat->Prop}(h:fm H l n R):fm H' l n R:=by obtain⟨ps,g,h1,h2,b⟩:=h;exact⟨ps,g,e _ _ h1 (λf z=>by cases z),cq (λa x h=>h.eu e) h2,b⟩
def nS{K:Fn}{x q:Vn}{line col:Nat}{H H':Hp}{rs:List Vb}(e:∀b o,b∉rs->H b=Vo o->H' b=Vo o)(a:∀r∈rs,∃xs,H r=Vo (.lst xs))(h:dW K x q line col H):dW K x q line col H':=λc T d=>by
 have no:∀b o,H b=Vo o->(∀xs,o≠.lst xs)->H' b=Vo o:=λb o hb nl=>e b o (λz=>by obtain⟨xs,g⟩:=a b z;rw[g]at hb;cases hb;exact nl _ rfl) hb;rcases h c T d with h|⟨c',h1,h2⟩
 ·exact .inl (no _ _ h (λxs z=>by cases z))
 ·exact .inr ⟨c',no _ _ h1 (λxs z=>by cases z),no _ _ h2 (λxs z=>by cases z)⟩
def Tbs.kp{K:Fn}{H H':Hp}{rs:List Vb}(e:∀b o,b∉rs->H b=Vo o->H' b=Vo o)(a:∀r∈rs,∃xs,H r=Vo (.lst xs))(h:Tbs K H):Tbs K H':=⟨nS e a h.kept,nS e a h.low,nS e a h.risen⟩
inductive jY(K:Fn)(vs:List V)(H:Hp)(Q:VK)(E:XK):Prop|mk:∀a m ws b x,vs=[a,.ref b]->bC H a m ws->HOuse m ws->aO H b x->dU m x->gH K->Tbs K H->(∀q rs M H',Et H H'->Tbs K H'->Rows H' q rs m.toNat M->(rs.length:Int)=x.2+1->(∀i r:Nat,(i:Int)<=x.2->(r:Int)<m->(M i r=true↔∃n,Bfs.Rw (LB ws m.toNat x.2) n x ((r:Int),(i:Int))))->Q (.ref q) H')->jY K vs H Q E
abbrev mM:Vl:=stq 52
def xQ:FnScope ["house","place","ways","keeps","levels","room","number"] ["house","place"] (aH mM):=⟨rfl,rfl,rfl,by decide +kernel,rfl,by decide +kernel,by decide +kernel⟩
def CH{P:Vd}{w:Ve}{mg:Vn->Option Va}{base:Vh}(D:Dfn K mg "low_levels" mM ["house","place"])(T:Blt mg){c9 T9:Vb}(B:Tab K mg base "low_levels" c9 T9)(R:Cal P w K mg base "reached" 6 ["place","beside"] (xJ P w K mg base))(b8:Cal P w K mg base "kept" 7 ["house"] (kK K))(d:Cal P w K mg base "ways_by_room" 1 ["house"] (qJ K))(C:Cal P w K mg base "low_beside" 4 ["ways","keeps","top","here"] (mf K)):Cal P w K mg base "low_levels" 8 ["house","place"] (jY K):=by
 have nd:=(xQ).nd;refine D.okL B xQ (λvs H Q E h=>?_) (λX hX H vs Q E h=>?_)
 ·obtain⟨vh,m,ws,G,x,rfl,_⟩:=h;rfl
 ·obtain⟨f,A,outer,s,H0,E0,rfl,N⟩:=hX;obtain⟨vh,m,ws,G,x,rfl,hv,ok,da,ix,bl,db,q⟩:=h;have m1:=ok.m1;have m12:=ok.m12;obtain⟨i0,i1,i2,i3⟩:=id ix;refine⟨_,(ai (aC (i:=2) nd rfl (Or.inr rfl) (ax d N (aa (pv 0) ae)))
    (ai (aC (i:=3) nd rfl (Or.inr rfl) (ax b8 N (aa (pv 0) ae)))
    (ai (gD (i:=4) ["number"] [0] nd rfl (Or.inl rfl) (cb rfl T.range_ (aa (aq aN (ah (ay K) (pv 1) af (λ_ _=>rfl)) af) ae)) (λ_=>(aA (i:=0) (show(["number","house"]:List Vn).Nodup from by decide +kernel) rfl (Or.inl rfl) (Or.inr rfl))) (λ_=>cn) (λ_=>(aq iZ (bo (aa aT ae)) (ah (ay K) (pv 1) af (λ_ _=>rfl)))))
    (ai (bq PassesOwn.never rfl (bP K (pL [2,3,1] R N (aa (pv 1) (aa (mB rfl rfl B.hd B.blt B.gl (by decide +kernel) rfl rfl rfl) ae)))) (dS (n:=2) K rfl (bp (aA (i:=5) nd rfl (Or.inl rfl)) (bp (aA (i:=6) nd rfl (Or.inl rfl)) dC))) (ao (dE aT (fu (ah (aF K) (pv 4) (pv 6) (λ_ _=>rfl)) (pv 5) set_list))))
    (ao (aB (pv 4))))))),?_⟩
  walk_at"";refine⟨vh,m,ws,rfl,hv,ok,λc ls H1 e1 wt=>?_⟩;walk_at"";refine⟨vh,m,ws,rfl,hv.ext e1,ok,bl,db.ext e1,λS H2 e2 dc dd=>?_⟩;have ba:=e1.et.trans e2;have di:=wt.et e2;have dl:=hv.et ba;have bg:=da.et ba;obtain⟨dp,el,ds,dt,_⟩:=id dl;subst ds;walk_at"";refine az (aj.of bg) (v:=.int x.2) rfl ?_;walk_at"";refine cj (by omega) ?_;refine dD (λi ys H'=>Ext H2 H'/\∃rs:List Vb,ys=List.map V.ref rs/\rs.length=i/\rs.Nodup/\∀r∈rs,H' r=Vo (.lst (aL m.toNat λ_=>false))/\H2 r=Vp) (bw (by omega)) ⟨Ext.rfl' _,[],rfl,rfl,List.nodup_nil,λl h=>(nomatch h)⟩ (λi ys H' _ h=>by obtain⟨_,ls,rfl,h,_⟩:=h;rw[Fs,h];exact FN _) ?_ ?_
  ·rintro i ys H3 hi ⟨e3,rs,rfl,hl,bm,hrs⟩;walk_at"";refine av ?_;walk_at"";refine aK λz1 H4 e4 du _=>?_;walk_at"";refine az (aj.of ((e3.trans e4) _ _ dt)) (v:=.int m) rfl ?_;refine iH du (by omega) (bw (by simp;omega)) (bL λz2 H5 e5 c5 I=>?_);rw[jU]at c5;refine⟨(e3.trans e4).trans e5,rs++[z2],by rw[FJ];rfl,by rw[FK,hl];rfl,?_,λr N=>?_⟩
   ·rw[List.nodup_append];refine⟨bm,by simp,λa ha b hb z=>?_⟩;rw[FD.mp hb]at z;subst z;rw[e4 _ _ (hrs a ha).1]at I;cases I
   ·rcases FQ.mp N with h|h
    ·exact⟨(e4.trans e5) _ _ (hrs r h).1,(hrs r h).2⟩
    ·rw[FD.mp h];refine⟨c5,?_⟩;cases y:H2 z2 with
     | none=>rfl
     | some o=>rw[(e3.trans e4) _ _ y]at I;cases I
  ·rintro ys H3 lq ⟨e3,rs,rfl,em,bm,hrs⟩ bn;have bt:=aV (o:=.lst (List.map V.ref rs)) bn;have c6:(upd H3 lq (.lst (List.map V.ref rs))) lq=_:=aI;have dx:lq∉rs:=λz=>by rw[(hrs lq z).1]at bn;cases bn
   have a9:Rows (upd H3 lq (.lst (List.map V.ref rs))) lq rs m.toNat (λ_ _=>false):=⟨aI,λi r h=>bt _ _ (hrs r (FC h)).1⟩;have a5:=e3.trans bt;generalize upd H3 lq (.lst (List.map V.ref rs))=H4 at bt c6 a9 a5 ⊢;have e0:=ba.trans a5.et;have bu:=dc.ext a5;have e7:=di.ext a5;have c7:=dd.et a5.et;have c8:aO H4 G x:=a5 _ _ bg;walk_at"";show jy _ [2,3,1] _ (["house","place","ways","keeps","levels","room","number"]:List Vn) _ _ _ _;generalize PySem.Env.cells _=cells0;refine nM ?_;walk_at"";refine pq ?_;refine o7 (x:="low_levels") bu.low B.tin λfl c' cl H5 hcl e5 e8 ot hf ca=>?_;have t5:Tbs K H5:=⟨ot "kept" _ _ _ (λc2 T2 e2=>bl "low_levels" (by simp) "kept" (by simp) (by decide +kernel) _ _ _ _ B.tin e2) bu.kept,e8,ot "risen" _ _ _ (λc2 T2 e2=>bl "low_levels" (by simp) "risen" (by simp) (by decide +kernel) _ _ _ _ B.tin e2) bu.risen⟩;walk_at"";refine⟨λj hj=>?_,λcp hlen F=>?_⟩
   ·simp only[FH,FZ,or_false]at hj;rcases hj with rfl|rfl|rfl
    ·exact⟨_,rfl⟩
    ·exact⟨_,rfl⟩
    ·exact⟨_,rfl⟩
   obtain⟨⟨n1,O,o1,v1⟩,⟨n2,J,o2,v2⟩,⟨n3,L,o3,v3⟩,rfl⟩:=BQ hlen;obtain⟨bv,ab,ac,ad,u1,U,W⟩:=F 0 2 _ rfl rfl;obtain⟨bx,ak,am,an,u2,Y,Z⟩:=F 1 3 _ rfl rfl;obtain⟨c0,ap,au,b0,u3,a0,a4⟩:=F 2 1 _ rfl rfl;clear F hlen;dsimp only at bv ab ac ad U W bx ak am an Y Z c0 ap au b0 a0 a4;have cd:(F7 "ways")=n1:=F8 bv;have c1:(V.ref c)=v1:=F8 (F8 ac);have ce:(F7 "keeps")=n2:=F8 bx;have c3:(V.ref S)=v2:=F8 (F8 am);have cf:(F7 "place")=n3:=F8 c0;have c4:(V.ref G)=v3:=F8 (F8 au);clear bv ac bx am c0 au;subst cd;subst c1;subst ce;subst c3;subst cf;subst c4;obtain⟨a1,a6⟩:=hcl.has (F7 "ways") rfl;obtain⟨a2,a7⟩:=hcl.has (F7 "keeps") rfl;obtain⟨a3,a8⟩:=hcl.has (F7 "place") rfl;have ch:=(hcl.fr _ _ a6).2;have ci:=(hcl.fr _ _ a7).2;have co:=(hcl.fr _ _ a8).2;rw[ab]at ch;rw[ak]at ci;rw[ap]at co;cases ch;cases ci;cases co;have cr:O≠J:=λz=>absurd (hcl.inj _ _ _ a6 (z ▸ a7)) (by decide +kernel);have ct:O≠L:=λz=>absurd (hcl.inj _ _ _ a6 (z ▸ a8)) (by decide +kernel);have cu:J≠L:=λz=>absurd (hcl.inj _ _ _ a7 (z ▸ a8)) (by decide +kernel);obtain⟨cp,F⟩:∃cp:List Cap,cp=[⟨F7 "ways",O,o1,V.ref c⟩,⟨F7 "keeps",J,o2,V.ref S⟩,⟨F7 "place",L,o3,V.ref G⟩]:=⟨_,rfl⟩;have I:∀b o9,(cellsOf cp).lookup b=Vo o9->H5 b=Vp:=λb o9 hb=>by
    obtain⟨e,he,rfl,rfl⟩:=gC hb;rw[F]at he;simp only[FH,FZ,or_false]at he;rcases he with rfl|rfl|rfl
    ·exact ad
    ·exact an
    ·exact b0
   have ex:=kF I;have b5:Caps (bQ (cellsOf cp) H5) cl cp:=by
    refine⟨λe he=>?_,λy g hy=>?_⟩
    ·rw[F]at he ⊢;simp only[FH,FZ,or_false]at he;rcases he with rfl|rfl|rfl
     ·exact⟨a6,fh (by simp[cellsOf]),u1,U,W⟩
     ·refine⟨a7,fh ?_,u2,Y,Z⟩;show List.lookup J ((O,o1)::(J,o2)::[(L,o3)])=Vo o2;rw[Gh,show (J == O)=false from beq_eq_false_iff_ne.mpr (Ne.symm cr),Gh,beq_self_eq_true]
     ·refine⟨a8,fh ?_,u3,a0,a4⟩;show List.lookup L ((O,o1)::(J,o2)::[(L,o3)])=Vo o3;rw[Gh,show (L == O)=false from beq_eq_false_iff_ne.mpr (Ne.symm ct),Gh,show (L == J)=false from beq_eq_false_iff_ne.mpr (Ne.symm cu),Gh,beq_self_eq_true]
    ·have hm:=i8 (hcl.fr y g hy).1;rw[F];simp at hm;rcases hm with rfl|rfl|rfl
     all_goals first|(rw[a6]at hy;cases hy;exact⟨⟨F7 "ways",O,o1,V.ref c⟩,by simp,rfl,rfl⟩)|(rw[a7]at hy;cases hy;exact⟨⟨F7 "keeps",J,o2,V.ref S⟩,by simp,rfl,rfl⟩)|(rw[a8]at hy;cases hy;exact⟨⟨F7 "place",L,o3,V.ref G⟩,by simp,rfl,rfl⟩)
   have cv:=(e7.et e5).ext ex;have bi:=(c7.et e5).et ex.et;have b6:aO (bQ (cellsOf cp) H5) G x:=ex _ _ (c8.et e5);subst F;have hF:=
    pE (P:=P) (w:=w) (K:=K) (mg:=mg) (base:=base) (k:=4) hf hcl (["here"]:List Vn) [⟨F7 "ways",O,o1,V.ref c⟩,⟨F7 "keeps",J,o2,V.ref S⟩,⟨F7 "place",L,o3,V.ref G⟩] (sE m x.2 (LB ws m.toNat x.2)) (λH=>WT H c m.toNat ls ws/\fm H S m.toNat (Kpt ws m.toNat)/\aO H G x) ⟨rfl,rfl,rfl,by decide +kernel,by decide +kernel⟩ (λ_ _ _ us hl=>by obtain⟨u1,rfl⟩:=oj hl;rfl) (λvs H Q h=>by obtain⟨p,y,rfl,_⟩:=h;rfl) (λA outer s H vs Q e9 d0 hI hR=>by
     obtain⟨p,y,rfl,ea,iy,hQ⟩:=hR;have d4:=d0.2.2.look;obtain⟨eb,ec,ed⟩:=hI;have eu:Eu H (aY (cellsOf [⟨F7 "ways",O,o1,V.ref c⟩,⟨F7 "keeps",J,o2,V.ref S⟩,⟨F7 "place",L,o3,V.ref G⟩]) H):=λb o hb nf=>gF d4 hb nf;have k1:=eb.eu eu;have k2:=ec.eu eu;have k3:=ed.eu eu;have kp:=ea.eu eu;refine⟨_,(ax C e9 (aa (pv 1) (aa (pv 2) (aa (ah (ay K) (pv 3) af (λ_ _=>rfl)) (aa (pv 0) ae))))),?_⟩;have hb:∀H',Ext (aY (cellsOf [⟨F7 "ways",O,o1,V.ref c⟩,⟨F7 "keeps",J,o2,V.ref S⟩,⟨F7 "place",L,o3,V.ref G⟩]) H) H'->Ext H (bQ (cellsOf [⟨F7 "ways",O,o1,V.ref c⟩,⟨F7 "keeps",J,o2,V.ref S⟩,⟨F7 "place",L,o3,V.ref G⟩]) H'):=λH' e=>vm d4 e;have hu:∀l,(cellsOf [⟨F7 "ways",O,o1,V.ref c⟩,⟨F7 "keeps",J,o2,V.ref S⟩,⟨F7 "place",L,o3,V.ref G⟩]).lookup l=Vp->aY (cellsOf [⟨F7 "ways",O,o1,V.ref c⟩,⟨F7 "keeps",J,o2,V.ref S⟩,⟨F7 "place",L,o3,V.ref G⟩]) H l=H l:=λl hl=>cL hl;generalize aY (cellsOf [⟨F7 "ways",O,o1,V.ref c⟩,⟨F7 "keeps",J,o2,V.ref S⟩,⟨F7 "place",L,o3,V.ref G⟩]) H=HU at k1 k2 k3 kp hb hu ⊢;generalize cellsOf [⟨F7 "ways",O,o1,V.ref c⟩,⟨F7 "keeps",J,o2,V.ref S⟩,⟨F7 "place",L,o3,V.ref G⟩]=cs at hb hu ⊢;show ky _ _ _ _ [Vo (.ref p),Vo (.ref c),Vo (.ref S),Vo (.ref G)] _ _;walk_at"";refine az (aj.of k3) (v:=.int x.2) rfl ?_;walk_at"";refine⟨c,S,x.2,p,m,ws,ls,y,rfl,k1,k2,ok,kp,iy.1,iy.2.1,λl ps ys H' e hn hl bb hys ee=>?_⟩;intro d5;have nl:cs.lookup l=Vp:=by
      cases z:cs.lookup l with
      | none=>rfl
      | some o=>rw[d5 l o z]at hl;cases hl
     have et:=kF d5;exact hQ l ps ys _ (hb H' e) (by rw[←hu l nl];exact hn) (et _ _ hl) (cq (λa x h=>et _ _ h) bb) hys ee)
   refine⟨G,fl,_,x,m,x.2,LB ws m.toNat x.2,rfl,b6,⟨i0,i1,i2,Int.le_refl _⟩,m12,by omega,hF,⟨⟨ex _ _ hf,ex _ _ ca,b5⟩,cv,bi,b6⟩,λH H' e h=>⟨h.1.ext e,h.2.1.ext e,h.2.2.1.et e.et,e _ _ h.2.2.2⟩,λy z hy hS=>ES ok i2 hy hS,λl as qs H6 e6 d6 bb hin en eg=>?_⟩;clear hF;obtain⟨b1,b2,b3,b4⟩:=held I e6;refine⟨b1,?_⟩;have bc:=b4 _ _ d6 (λf z=>by cases z);have b7:Paired (aO (aY _ H6)) as qs:=cq (λa x h=>b4 _ _ h (λf z=>by cases z)) bb;have u:=(a9.et e5).ext b2;have d7:=(e0.trans e5).trans b2.et;have t7:=t5.ext b2;generalize aY _ H6=H7 at bc b7 u d7 t7 ⊢;have ei:=dA b7;have ej:∀r∈rs,∀o,H r=Vo o->(∀ps,o≠.tbl ps)->False:=λr N o ho no=>by have:=ba _ _ ho no;rw[(hrs r N).2]at this;cases this
   clear b5 I ex cv bi b6 e6 d6 bb b1 b2 b3 b4 hf ca hcl a6 a7 a8 ab ak ap ad an b0 W Z a4 U Y a0 cr ct cu ot;have tup1:∀(b:Vb) (z:Bfs.Pl),aO H7 b z->b∉rs:=λb z hb N=>by obtain⟨j,hj⟩:=Gg N;have h1:=u.2 j b hj;have h2:H7 b=Vo (.tup [.int z.1,.int z.2]):=hb;rw[h1]at h2;cases h2
   have nl:l∉rs:=λN=>by
    obtain⟨j,hj⟩:=Gg N;have h1:=u.2 j l hj;rw[bc]at h1;have h2:List.map V.ref as=aL m.toNat λ_=>false:=by
     injection h1 with h1
     injection h1
    have h3:=congrArg (λz:List V=>z[0]?) h2
    try dsimp only at h3
    rw[eU _ (by omega),Fu]at h3;cases y:as[0]? with
    | none=>rw[y]at h3;cases h3
    | some a=>rw[y]at h3;cases h3
   refine bN (ag.of bc) ?_;refine forL (xs:=List.map V.ref as) (λj σ H'=>∃M k1 k2,TL H7 H' lq rs m.toNat M/\(∀i r:Nat,M i r=true↔(((r:Nat):Int),((i:Nat):Int))∈qs.take j)/\σ=[Vo (.ref dp),Vo (.ref G),Vo (.ref c),Vo (.ref S),Vo (.ref lq),k1,k2]) ⟨_,_,_,⟨λ_ _ _ e=>e,bm,dx,u⟩,λi r=>by simp,rfl⟩ (λj σ H' _ h=>by obtain⟨M,k1,k2,tl,_⟩:=h;exact ag.of (tl.keep _ _ nl bc)) ?_ ?_
   ·rintro j v σ H8 hx ⟨M,k1,k2,tl,hM,rfl⟩;rw[Fu]at hx;obtain⟨b,hb,rfl⟩:=FE.mp hx;obtain⟨z,hz,d8⟩:=cg b7 hb;obtain⟨z0,z1,z2,z3⟩:=hin z (FC hz);have d9:aO H8 b z:=tl.keep _ _ (tup1 b z d8) d8;have ek:z.2.toNat<rs.length:=by omega
    have be:rs[z.2.toNat]?=Vo rs[z.2.toNat]:=Ft ek;generalize rs[z.2.toNat]=ar at be;have hrow:=tl.rows.2 _ _ be;refine dH (aj.of d9) rfl ?_;walk_at"";refine aE (ag.of tl.rows.1) (v:=.ref ar) (eD z2 (by rw[Fu,be];rfl)) ?_;walk_at"";refine fI hrow (fB z0 (by rw[bS];omega)) ?_;refine⟨_,_,_,tl.mark be (by omega),λi r=>?_,rfl⟩;rw[List.take_add_one,hz,FQ];unfold put2;split
    ·rename_i y;simp only[true_iff];right;simp;refine Prod.ext ?_ ?_
     ·show((r:Nat):Int)=z.1;omega
     ·show((i:Nat):Int)=z.2;omega
    ·rename_i y;rw[hM];constructor
     ·exact λh=>.inl h
     ·rintro(h|h)
      ·exact h
      ·have h':(((r:Nat):Int),((i:Nat):Int))=z:=by simpa using h
       refine absurd ⟨?_,?_⟩ y
       ·rw[←h'];show i=((i:Nat):Int).toNat;omega
       ·rw[←h'];show r=((r:Nat):Int).toNat;omega
   ·rintro σ H8 ⟨M,k1,k2,tl,hM,rfl⟩;rw[Fs,ei,FW]at hM;walk_at"";refine q lq rs M H8 (λb o hb no=>?_) (t7.kp tl.keep λr N=>?_) tl.rows (by omega) λi r hi N=>?_
    ·have h7:=d7 _ _ hb no;exact tl.keep b o (λN=>ej b N o hb no) h7
    ·obtain⟨j,hj⟩:=Gg N;exact⟨_,u.2 j r hj⟩
    ·rw[hM];exact eg _
inductive nI(K:Fn)(vs:List V)(H:Hp)(Q:VK)(E:XK):Prop|mk:∀a lv n f R,vs=[.ref a,.ref lv]->fm H a n R->H lv=Vo (.lst (aL n f))->n<=12->(∀l g H',Ext H H'->H l=Vp->H' l=Vo (.lst (aL n g))->(∀j,j<n->(g j=true↔∃i,i<n/\f i=true/\R i j))->Q (.ref l) H')->nI K vs H Q E
abbrev mQ:Vl:=stq 53
def uw:FnScope ["rises","level","risen_to","p","q"] ["rises","level"] (aH mQ):=⟨rfl,rfl,rfl,by decide +kernel,rfl,by decide +kernel,by decide +kernel⟩
def Bm{P:Vd}{w:Ve}{mg:Vn->Option Va}{base:Vh}(D:Dfn K mg "next_level" mQ ["rises","level"])(T:Blt mg):Cal P w K mg base "next_level" 1 ["rises","level"] (nI K):=by
 have nd:=(uw).nd;refine D.ok uw (λvs H Q E h=>?_) (λX hX H vs Q E h=>?_)
 ·obtain⟨rl,lv,n,f,R,rfl,_⟩:=h;rfl
 ·obtain⟨f,cdv,A,outer,s,H0,E0,rfl,S⟩:=hX;obtain⟨rl,lv,n,l,R,rfl,W,x,hn,q⟩:=h;obtain⟨ps,g,B,C,hg⟩:=W;have Y:=dA C;refine⟨_,(@ai _ _ _ _ _ (@aC _ _ 2 _ _ _ _ nd rfl (Or.inl rfl) (aq iZ (@bo _ _ _ _ (@aa _ _ _ _ _ aT ae rfl)) (aU (dh K) rfl T.len_ PySem.boot_len (@aa _ _ _ _ _ (pv 1) ae rfl))) rfl (Or.inl rfl))
    (@ai _ _ _ _ _ (bq PassesOwn.never rfl (bP K (pv 0)) (dS (n:=2) K rfl (bp (aA (i:=3) nd rfl (Or.inl rfl)) (bp (aA (i:=4) nd rfl (Or.inl rfl)) dC))) (@ao _ _ _ (cF (aX (@ah _ _ _ _ _ _ _ (aF K) (pv 1) (pv 3) (λ_ _=>rfl))) (@ao _ _ _ (@dE _ _ _ _ _ _ aT (fu (pv 2) (pv 4) set_list) rfl rfl rfl)) aP)))
    (@ao _ _ _ (@aB _ _ _ _ (pv 2))))),?_⟩
  walk_at"";refine aK λz1 H1 Z a0 _=>?_;walk_at"";refine fK (ag.of (Z _ _ x)) ?_;rw[bS];refine iH a0 (by omega) (bw (by simp;omega)) (bL λrt H2 e2 F G=>?_);rw[jU,FF]at F;have I:=Z.trans e2;have d:H rt=Vp:=by
   cases y:H rt with
   | none=>rfl
   | some o=>rw[Z _ _ y]at G;cases G
  walk_at"";refine bN (ag.of (I _ _ B)) ?_;refine forL (xs:=List.map V.ref ps) (λj σ H'=>∃h k1 k2,Ext H H'/\H' rt=Vo (.lst (aL n h))/\(∀b,h b=true↔∃z∈(dv n g n).take j,l z.1.toNat=true/\z.2.toNat=b)/\σ=[Vo (.ref rl),Vo (.ref lv),Vo (.ref rt),k1,k2]) ⟨_,_,_,I,F,λb=>by simp,rfl⟩ (λj σ H' _ h=>by obtain⟨_,_,_,e,_⟩:=h;exact ag.of (e _ _ B)) ?_ ?_
  ·rintro j v σ H3 hx ⟨h,k1,k2,m,a,J,rfl⟩;rw[Fu]at hx;obtain⟨b,hb,rfl⟩:=FE.mp hx;obtain⟨z,U,a1⟩:=cg C hb;obtain⟨i,r,hi,S,L,rfl⟩:=iM.mp (FC U);have M:aO H3 b (((i:Nat):Int),((r:Nat):Int)):=m _ _ a1;refine dH (aj.of M) rfl ?_;walk_at"";refine fY ?_;walk_at"";refine aE (ag.of (m _ _ x)) (cR (by omega) (by omega)) ?_;rw[FF];walk_at"";have step:∀P:Bfs.Pl->Prop,(∃z∈(dv n g n).take (j+1),P z)↔(∃z∈(dv n g n).take j,P z)\/P (((i:Nat):Int),((r:Nat):Int)):=λP=>by
    rw[List.take_add_one,U];constructor
    ·rintro⟨z,k,p⟩;rcases FQ.mp k with k|k
     ·exact .inl ⟨z,k,p⟩
     ·have:z=(((i:Nat):Int),((r:Nat):Int)):=by simpa using k
      subst this;exact .inr p
    ·rintro(⟨z,k,p⟩|p)
     ·exact⟨z,Ga _ k,p⟩
     ·exact⟨_,F9 _ (by simp),p⟩
   cases u:l i with
   | false=>
    refine aw ?_;walk_at"";refine⟨h,_,_,m,a,λb=>?_,rfl⟩;rw[J,step];constructor
    ·exact λy=>.inl y
    ·rintro(y|⟨y,_⟩)
     ·exact y
     ·have N:l ((i:Nat):Int).toNat=true:=y;rw[FF,u]at N;cases N
   | true=>
    refine av ?_;walk_at"";refine fI a (fB (by omega) (by rw[bS];omega)) ?_;rw[FF,gr _ _ S];refine⟨_,_,_,cA m d,aI,λb=>?_,rfl⟩;rw[step];by_cases c:b=r
    ·rw[Gr c];simp only[true_iff];refine .inr ⟨?_,?_⟩
     ·show l ((i:Nat):Int).toNat=true;rw[FF];exact u
     ·show((r:Nat):Int).toNat=b;rw[FF];exact c.symm
    ·rw[Gq c,J];constructor
     ·exact λy=>.inl y
     ·rintro(y|⟨_,y⟩)
      ·exact y
      ·have N:((r:Nat):Int).toNat=b:=y;rw[FF]at N;exact absurd N.symm c
  ·rintro σ H3 ⟨h,k1,k2,m,a,J,rfl⟩;rw[Fs,Y,FW]at J;walk_at"";refine q rt h H3 m d a λb hb=>?_;rw[J];constructor
   ·rintro⟨z,U,u,rfl⟩;obtain⟨i,r,hi,S,L,rfl⟩:=iM.mp U;have O:l ((i:Nat):Int).toNat=true:=u;rw[FF]at O;refine⟨i,hi,O,?_⟩;show R i ((r:Nat):Int).toNat;rw[FF];exact(hg i r hi S).mp L
   ·rintro⟨i,hi,u,hR⟩;refine⟨(((i:Nat):Int),((b:Nat):Int)),iM.mpr ⟨i,b,hi,hb,(hg i b hi hb).mpr hR,rfl⟩,?_,?_⟩
    ·show l ((i:Nat):Int).toNat=true;rw[FF];exact u
    ·show((b:Nat):Int).toNat=b;exact FF b
def gw{f:Nat->Bool}{lo i:Nat}{ys:List V}(h:ys=(row f lo i).map V.int)(a:f (lo+i)=true):ys++[V.int ((lo+i:Nat):Int)]=(row f lo (i+1)).map V.int:=by rw[gN,Gr a,FJ,h];rfl
def gW{f:Nat->Bool}{lo i:Nat}{ys:List V}(h:ys=(row f lo i).map V.int)(a:f (lo+i)=false):ys=(row f lo (i+1)).map V.int:=by rw[gN,Gq (by rw[a];decide),List.append_nil,h]
def ck(H:Hp)(v:V)(b s:Int)(o a:List Int):Prop:=∃p q r,v=.ref p/\H p=Vo (.tup [.int b,.int s,.ref q,.ref r])/\H q=Vo (.tup (o.map V.int))/\H r=Vo (.tup (a.map V.int))
def ck.ext{H H':Hp}{v:V}{b s:Int}{o a:List Int}(e:Ext H H')(h:ck H v b s o a):ck H' v b s o a:=by obtain⟨p,q,r,rfl,h1,h2,c⟩:=h;exact⟨p,q,r,rfl,e _ _ h1,e _ _ h2,e _ _ c⟩
def kS{n:Nat}{f:Nat->Bool}{i:Int}(b:0<=i)(h:i<=n):dO (aL n f) (Vo i) Vp=aL (n-i.toNat) λk=>f (i.toNat+k):=by
 unfold dO;rw[bS,HT.uD];have e:HT.cz n 0 (Vo i)=i.toNat:=by show(if i<0 then(i+(n:Int)).toNat else min i.toNat n)=i.toNat;rw[Gq (by omega)];omega
 rw[e];apply List.ext_getElem?;intro k;rcases Gf k (n-i.toNat)with a|a
 ·rw[List.getElem?_take_of_lt a,List.getElem?_drop,eU _ (by omega),eU _ a]
 ·rw[List.getElem?_eq_none (by rw[Gi,List.length_drop,bS];omega),List.getElem?_eq_none (by rw[bS];omega)]
def dB(n:Nat)(f:Nat->Bool):List PyData:=(Gm n).map λi=>PyData.bool (f i)
theorem uA{α:Type}{R:V->PyData->Prop}{g:α->V}{k:α->PyData}(h:∀x,R (g x) (k x)):∀l:List α,Paired R (l.map g) (l.map k)
 | []=>.nil
 | x::l=>.cons (h x) (uA h l)
def iq{H:Hp}{p:Vb}{n:Nat}{f:Nat->Bool}(h:H p=Vo (.lst (aL n f))):aW H 1 (.ref p) (.list (dB n f)):=
 .inr ⟨p,aL n f,dB n f,rfl,.inr ⟨h,rfl⟩,uA (λi=>(rfl:f i=f i)) _⟩
theorem sH{α:Type}(f g:α->Bool):∀l:List α,PyData.eqvAll (l.map λi=>PyData.bool (f i)) (l.map λi=>PyData.bool (g i))=l.all λi=>f i == g i
 | []=>rfl
 | x::l=>by show(PyData.eqv (.bool (f x)) (.bool (g x)) && PyData.eqvAll (l.map λi=>PyData.bool (f i)) (l.map λi=>PyData.bool (g i)))=((f x == g x) && l.all λi=>f i == g i);rw[sH f g l];rfl
def jx{n:Nat}{f g:Nat->Bool}:PyData.eqv (.list (dB n f)) (.list (dB n g))=true↔∀i,i<n->f i=g i:=by show PyData.eqvAll (dB n f) (dB n g)=true↔_;unfold dB;rw[sH,F0];simp only[List.mem_range,beq_iff_eq]
def AF{n d:Nat}{g:Nat->Bool}(hd:d<=n)(a:n % d=0):PyData.eqv (.list (dB (n-d) λk=>g (d+k))) (.list (dB (n-d) g))=true↔Alike g 0 n d:=by
 rw[jx];constructor
 ·intro h;refine⟨a,λi hi=>?_⟩;have:=h i (by omega);rw[show 0+i+d=d+i by omega,this,Nat.zero_add]
 ·intro h i hi;have:=h.2 i (by omega);rw[show 0+i+d=d+i by omega,Nat.zero_add]at this;exact this
inductive pT(K:Fn)(vs:List V)(H:Hp)(Q:VK)(E:XK):Prop|mk:∀(p:Vb) (n:Nat) (g:Nat->Bool),vs=[.ref p]->1<=n->n<=20000->H p=Vo (.lst (aL n g))->(∀(d:Nat) H',Ext H H'->1<=d->d<=n->Alike g 0 n d->(∀e,1<=e->e<d->¬Alike g 0 n e)->Q (.int d) H')->pT K vs H Q E
abbrev rK:Vl:=stq 17
def wB:FnScope ["turn","whole","step"] ["turn"] (aH rK):=⟨rfl,rfl,rfl,by decide +kernel,rfl,by decide +kernel,by decide +kernel⟩
def Du{P:Vd}{w:Ve}{mg:Vn->Option Va}{base:Vh}(D:Dfn K mg "least_step" rK ["turn"])(T:Blt mg):Cal P w K mg base "least_step" 1 ["turn"] (pT K):=by
 have nd:=(wB).nd;refine D.ok wB (λvs H Q E h=>?_) (λX J H vs Q E h=>?_)
 ·obtain⟨p,n,g,rfl,_⟩:=h;rfl
 ·obtain⟨f,cdv,A,outer,s,H0,E0,rfl,L⟩:=J;obtain⟨p,n,g,rfl,y,M,F,q⟩:=h;refine⟨_,(ai (aC (i:=1) nd rfl (Or.inl rfl) (aU (dh K) rfl T.len_ PySem.boot_len (aa (pv 0) ae)))
    (ai (aC (i:=2) nd rfl (Or.inl rfl) af)
    (ai (fF PassesOwn.never (PW.pt (cC (aM eO (aq bW (pv 1) (pv 2)) af (aJ _)) (cW (aM (xP L) (gM (hJ K) (pv 0) (f7 (pv 2)) i7) (gM (hJ K) (pv 0) i7 (f7 (aq cG (pv 1) (pv 2)))) (aJ _))))) (ao (mE (i:=2) nd rfl (Or.inl rfl) af ya)))
    (ao (aB (pv 2)))))),?_⟩
  walk_at"";refine fK (ag.of F) ?_;rw[bS];walk_at"";refine fE (λm σ H'=>Ext H H'/\∃d:Nat,σ=[Vo (.ref p),Vo (.int n),Vo (.int d)]/\1<=d/\d<=n/\m=n-d/\∀e,1<=e->e<d->¬Alike g 0 n e)
   (λσ H'=>Ext H H'/\∃d:Nat,σ=[Vo (.ref p),Vo (.int n),Vo (.int d)]/\1<=d/\d<=n/\Alike g 0 n d/\∀e,1<=e->e<d->¬Alike g 0 n e) (n-1)
   ⟨Ext.rfl' H,1,rfl,FN _,y,rfl,λe h1 h2=>by omega⟩ ?_ ?_
  rotate_left
  ·rintro σ H' ⟨e,d,rfl,h1,h2,ha,v⟩;walk_at"";exact q d H' e h1 h2 ha v
  rintro m σ H' ⟨e,d,rfl,h1,h2,rfl,v⟩;have b:=e _ _ F;have a:((n:Int) % (d:Int)=0)↔n % d=0:=by have:(n:Int) % (d:Int)=((n % d:Nat):Int):=rfl;omega
  have next:∀H2,Ext H' H2->¬Alike g 0 n d->∃G,G<n-d/\Ext H H2/\∃c:Nat,[Vo (V.ref p),Vo (V.int n),Vo (V.int ((d:Int)+1))]=[Vo (V.ref p),Vo (V.int n),Vo (V.int c)]/\1<=c/\c<=n/\G=n-c/\∀e,1<=e->e<c->¬Alike g 0 n e:=by
   intro H2 j l;have hlt:d<n:=by
    rcases Gf d n with h|h
    ·exact h
    ·have:d=n:=by omega
     subst this;exact absurd ⟨Nat.mod_self d,λi hi=>by omega⟩ l
   refine⟨n-(d+1),by omega,e.trans j,d+1,rfl,by omega,by omega,rfl,λz N O=>?_⟩;rcases Gf z d with I|I
   ·exact v z N I
   ·have:z=d:=by omega
    subst this;exact l
  walk_at"";by_cases x:(n:Int) % (d:Int)=0
  ·rw[Gp x];refine aw ?_;walk_at"";refine ia (ag.of b) (bL λR H1 B o _=>?_);walk_at"";refine ia (ag.of (B _ _ b)) (bL λp2 H2 j r _=>?_);rw[kS (by omega) (by omega),FF]at o;rw[B1 (by omega) (by omega),show ((n:Int)-(d:Int)).toNat=n-d by omega]at r;refine⟨1,1,_,_,iq (j _ _ o),iq r,by decide,?_⟩;walk_at"";have u:=AF (g:=g) h2 (a.mp x);cases C:PyData.eqv (.list (dB (n-d) λk=>g (d+k))) (.list (dB (n-d) g))with
   | true=>
    exact aw ⟨e.trans (B.trans j),d,rfl,h1,h2,u.mp C,v⟩
   | false=>
    refine av ⟨_,λ_ _ h=>h,?_⟩;walk_at"";exact next H2 (B.trans j) λh=>by rw[u.mpr h]at C;cases C
  ·rw[Gn x];refine av (av ⟨_,λ_ _ h=>h,?_⟩);walk_at"";exact next H' (Ext.rfl' H') λh=>x (a.mpr h.1)
def ug{f:Nat->Bool}{b n d:Nat}:Alike (λk=>f (b+k)) 0 n d↔Alike f b n d:=by unfold Alike;simp only[Nat.zero_add,Nat.add_assoc]
inductive oa(K:Fn)(vs:List V)(H:Hp)(Q:VK)(E:XK):Prop|mk:∀(p:Vb) (b n:Nat) (f:Nat->Bool),vs=[.ref p,.int b]->1<=n->b+n<=20000->H p=Vo (.lst (aL (b+n) f))->aS f b n->(∀v (l d:Nat) H',Ext H H'->Least f d l->l<=b->d<=n->ck H' v l d (row f 0 l) (row f l d)->Q v H')->oa K vs H Q E
abbrev ph:Vl:=stq 18
def sV:FnScope ["marks","base","step","low","once","again"] ["marks","base"] (aH ph):=⟨rfl,rfl,rfl,by decide +kernel,rfl,by decide +kernel,by decide +kernel⟩
def BK{P:Vd}{w:Ve}{mg:Vn->Option Va}{base:Vh}(D:Dfn K mg "stair_of_marks" ph ["marks","base"])(T:Blt mg)(c:Cal P w K mg base "least_step" 1 ["turn"] (pT K)):Cal P w K mg base "stair_of_marks" 2 ["marks","base"] (oa K):=by
 have nd:=(sV).nd;refine D.ok sV (λvs H Q E h=>?_) (λX hX H vs Q E h=>?_)
 ·obtain⟨p,b,n,f,rfl,_⟩:=h;rfl
 ·obtain⟨f,cdv,A,outer,s,H0,E0,rfl,hr⟩:=hX;obtain⟨p,b,n,g,rfl,z,a4,hp,B,q⟩:=h;refine⟨_,(ai (aC (i:=2) nd rfl (Or.inl rfl) (ax c hr (aa (gM (hJ K) (pv 0) (f7 (pv 1)) i7) ae)))
    (ai (aC (i:=3) nd rfl (Or.inl rfl) (pv 1))
    (ai (fF PassesOwn.never (PW.pt (eS (aM eG (pv 3) af (aJ _)) (fH (aM bH (ah (aF K) (pv 0) (aq cG (pv 3) af) (λ_ _=>rfl)) (ah (aF K) (pv 0) (aq aN (aq cG (pv 3) af) (pv 2)) (λ_ _=>rfl)) (aJ _))))) (ao (mE (i:=3) nd rfl (Or.inl rfl) af yL)))
    (ai (gD (i:=4) ["number"] [0] nd rfl (Or.inl rfl) (cb rfl T.range_ (aa (pv 3) ae)) (λ_=>(aA (i:=0) (show(["number","marks"]:List Vn).Nodup from by decide +kernel) rfl (Or.inl rfl) (Or.inr rfl))) (λ_=>(dw (aX (ah (aF K) (pv 1) (pv 0) (λ_ _=>rfl))))) (λ_=>(pv 0)))
    (ai (gD (i:=5) ["number"] [0] nd rfl (Or.inl rfl) (lC rfl T.range_ (aa (pv 3) (aa (aq aN (pv 3) (pv 2)) ae))) (λ_=>(aA (i:=0) (show(["number","marks"]:List Vn).Nodup from by decide +kernel) rfl (Or.inl rfl) (Or.inr rfl))) (λ_=>(dw (aX (ah (aF K) (pv 1) (pv 0) (λ_ _=>rfl))))) (λ_=>(pv 0)))
    (ao (aB (bf (aa (pv 3) (aa (pv 2) (aa (dQ (fA K) rfl T.tuple_ PyProof.Rows.boot_tuple (aa (pv 4) ae)) (aa (dQ (fA K) rfl T.tuple_ PyProof.Rows.boot_tuple (aa (pv 5) ae)) ae)))))))))))),?_⟩
  walk_at"";refine ia (ag.of hp) (bL λp1 H1 e1 C _=>?_);rw[kS (by omega) (by omega),FF,show b+n-b=n by omega]at C;walk_at"";refine⟨p1,n,_,rfl,z,by omega,C,λd H2 e2 S U W k=>?_⟩;have F:=ug.mp W;have j:∀e,1<=e->e<d->¬Alike g b n e:=λe M N h5=>k e M N (ug.mpr h5);have G:Ext H H2:=e1.trans e2;have o:=G _ _ hp;walk_at"";refine fE (λm σ H'=>H'=H2/\∃l:Nat,σ=[Vo (.ref p),Vo (.int b),Vo (.int d),Vo (.int l),Vp,Vp]/\l<=b/\m=l/\∀x,l<=x->x<b->g x=g (x+d))
   (λσ H'=>H'=H2/\∃l:Nat,σ=[Vo (.ref p),Vo (.int b),Vo (.int d),Vo (.int l),Vp,Vp]/\l<=b/\(∀x,l<=x->x<b->g x=g (x+d))/\(l=0\/g (l-1)≠g (l-1+d))) b
   ⟨rfl,b,rfl,FN _,rfl,λx h1 h2=>by omega⟩ ?_ ?_
  ·rintro m σ H' ⟨rfl,l,rfl,I,rfl,a⟩;walk_at"";by_cases h0:(0:Int)<(m:Int)
   ·rw[Gp h0];refine av ?_;walk_at"";refine aE (ag.of o) (cR (by omega) (by omega)) ?_;walk_at"";refine aE (ag.of o) (cR (by omega) (by omega)) ?_;walk_at"";rw[show ((m:Int)-1).toNat=m-1 by omega,show ((m:Int)-1+(d:Int)).toNat=m-1+d by omega];cases Y:g (m-1) == g (m-1+d)with
    | true=>
     refine av ⟨_,λ_ _ h=>h,?_⟩;walk_at"";refine⟨m-1,by omega,rfl,m-1,by rw[show ((m-1:Nat):Int)=(m:Int)-1 by omega];rfl,by omega,rfl,λx h1 h2=>?_⟩;rcases Gf x m with M|M
     ·have:x=m-1:=by omega
      rw[this];exact eq_of_beq Y
     ·exact a x M h2
    | false=>exact aw ⟨rfl,m,rfl,I,a,.inr λh=>by rw[h]at Y;simp at Y⟩
   ·rw[Gn h0];exact aw (aw ⟨rfl,m,rfl,I,a,.inl (by omega)⟩)
  rintro σ H' ⟨rfl,l,rfl,I,a,y⟩;have r:Least g d l:=CG B z S F j I a y;walk_at"";refine cj (by omega) ?_;rw[FF];refine dD (λi ys u=>u=H'/\ys=(row g 0 i).map V.int) (bw (by omega)) ⟨rfl,rfl⟩ ?_ ?_ ?_
  ·rintro i ys u _ ⟨rfl,rfl⟩;rw[Fs];exact gn g 0 i
  ·rintro i ys u hi ⟨rfl,J⟩;walk_at"";refine aE (ag.of o) (cR (by omega) (by omega)) ?_;walk_at"";rw[show ((0:Int)+(i:Int)).toNat=i by omega];have e0:g (0+i)=g i:=by rw[Nat.zero_add]
   cases L:g i with
   | true=>
    refine av ?_;walk_at"";refine⟨rfl,?_⟩;rw[←gw J (e0.trans L)];congr 3
    all_goals omega
   | false=>exact aw ⟨rfl,gW J (e0.trans L)⟩
  rintro ys u O ⟨rfl,rfl⟩ Z;have e4:Ext u (upd u O (.lst ((row g 0 l).map V.int))):=aV Z;have N:(upd u O (.lst ((row g 0 l).map V.int))) O=_:=aI;generalize upd u O (.lst ((row g 0 l).map V.int))=H4 at e4 N;have a0:=e4 _ _ o;walk_at"";refine jX (by omega) ?_;rw[show ((l:Int)+(d:Int)-(l:Int)).toNat=d by omega];refine dD (λi ys v=>v=H4/\ys=(row g l i).map V.int) (bw (by omega)) ⟨rfl,rfl⟩ ?_ ?_ ?_
  ·rintro i ys v _ ⟨rfl,rfl⟩;rw[Fs];exact gn g _ i
  ·rintro i ys v hi ⟨rfl,J⟩;walk_at"";refine aE (ag.of a0) (cR (by omega) (by omega)) ?_;walk_at"";rw[show ((l:Int)+(i:Int)).toNat=l+i by omega];cases L:g (l+i)with
   | true=>
    refine av ?_;walk_at"";refine⟨rfl,?_⟩;rw[←gw J L];congr 3
    all_goals omega
   | false=>exact aw ⟨rfl,gW J L⟩
  rintro ys v R ⟨rfl,rfl⟩ a1;have e6:Ext v (upd v R (.lst ((row g l d).map V.int))):=aV a1;have h6:(upd v R (.lst ((row g l d).map V.int))) R=_:=aI;generalize upd v R (.lst ((row g l d).map V.int))=H6 at e6 h6;walk_at"";refine fG (ag.of (e6 _ _ N)) (bL λt1 H7 e7 a2 _=>?_);walk_at"";refine fG (ag.of (e7 _ _ h6)) (bL λt2 H8 e8 a3 _=>?_);walk_at"";refine aK λt H9 e9 ht _=>?_;exact q _ l d H9 (G.trans (e4.trans (e6.trans (e7.trans (e8.trans e9))))) r I U ⟨t,t1,t2,rfl,ht,e9 _ _ (e8 _ _ a2),e9 _ _ a3⟩
open Classical in
def iE(n:Nat)(R:Nat->Nat->Prop)(f:Nat->Bool):Nat->Bool:=λj=>decide (∃i,i<n/\f i=true/\R i j)
def jl{n:Nat}{R:Nat->Nat->Prop}{f:Nat->Bool}{j:Nat}:iE n R f j=true↔∃i,i<n/\f i=true/\R i j:=by unfold iE;simp
def bD(n:Nat)(R:Nat->Nat->Prop)(f:Nat->Bool):Nat->Nat->Bool
 | 0=>f
 | k+1=>iE n R (bD n R f k)
def eJ(n:Nat)(f g:Nat->Bool):Prop:=∀j,j<n->f j=g j
def AY{n:Nat}{R:Nat->Nat->Prop}{f g:Nat->Bool}(h:eJ n f g):eJ n (iE n R f) (iE n R g):=λj _=>by
 rw[F4,jl,jl];constructor
 ·rintro⟨i,hi,h1,h2⟩;exact⟨i,hi,by rw[←h i hi];exact h1,h2⟩
 ·rintro⟨i,hi,h1,h2⟩;exact⟨i,hi,by rw[h i hi];exact h1,h2⟩
theorem wx{n:Nat}{R:Nat->Nat->Prop}{f:Nat->Bool}{a k:Nat}(h:eJ n (bD n R f a) (bD n R f k)):∀t,eJ n (bD n R f (a+t)) (bD n R f (k+t))
 | 0=>h
 | t+1=>AY (wx h t)
def fe(f:Nat->Bool):Nat->Nat
 | 0=>0
 | n+1=>fe f n+if f n then 2 ^ n else 0
theorem lI(f:Nat->Bool):∀n,fe f n<2 ^ n
 | 0=>by simp[fe]
 | n+1=>by
  have:=lI f n;have h2:2 ^ (n+1)=2 ^ n+2 ^ n:=by rw[Nat.pow_succ];omega
  show fe f n+(if f n then 2 ^ n else 0)<_;split<;>omega
theorem xy{f g:Nat->Bool}:∀n,fe f n=fe g n->eJ n f g
 | 0,_=>λj b=>absurd b (Nat.not_lt_zero _)
 | n+1,h=>by
  have h1:=lI f n;have h2:=lI g n;have h':fe f n+(if f n then 2 ^ n else 0)=fe g n+(if g n then 2 ^ n else 0):=h;have key:f n=g n/\fe f n=fe g n:=by cases c:f n<;>cases d:g n<;>simp[c,d]at h' ⊢<;>omega
  intro j b;by_cases a:j<n
  ·exact xy n key.2 j a
  ·have:j=n:=by omega
   subst this;exact key.1
def sN{n k:Nat}{F:Nat->Nat->Bool}(g:n<=12)(h:∀a b,a<b->b<k->¬eJ n (F a) (F b)):k<=4096:=by
 have h1:=Bfs.iJ 4096 ((Gm k).map λa=>fe (F a) n) (by
  rw[List.nodup_iff_pairwise_ne,List.pairwise_map,List.pairwise_iff_getElem];intro i j hi d c e;simp at hi d e;exact h i j c d (xy n e)) (λx l=>by
  obtain⟨a,_,rfl⟩:=List.mem_map.mp l;exact FX (lI (F a) n) (FY (Nat.pow_le_pow_right (by omega) g) (by decide)))
 simpa using h1
def f9(n:Nat)(R:Nat->Nat->Prop)(top:Nat)(M:Nat->Nat->Bool):Nat->Nat->Bool:=λi=>if i<top then M i else bD n R (M top) (i-top)
def Aj{α:Type}{xs:List α}{k:Nat}(h:xs.length=k+1){v:α}(a:xs[k]?=Vo v):bF xs (-1)=Vo v:=by unfold bF eY;rw[h,Gq (by omega),Gr (by omega)];show xs[(-1+((k+1:Nat):Int)).toNat]?=Vo v;rw[show (-1+((k+1:Nat):Int)).toNat=k by omega];exact a
def zy{xs:List V}{k:Nat}(h:xs.length=k+1):dO xs Vp (Vo (-1))=xs.take k:=by
 unfold dO;have a:HT.cz xs.length xs.length (Vo (-1))=k:=by show(if(-1:Int)<0 then(-1+(xs.length:Int)).toNat else min (-1:Int).toNat xs.length)=_;rw[Gr (by decide)];omega
 have b:HT.cz xs.length 0 Vp=0:=rfl;rw[a,b];simp
theorem pS{H:Hp}{n:Nat}:∀{hs:List Vb} {F:Nat->Nat->Bool},(∀(a:Nat) (r:Vb),hs[a]?=Vo r->H r=Vo (.lst (aL n (F a))))->Paired (aW H 1) (List.map V.ref hs) ((Gm hs.length).map λa=>PyData.list (dB n (F a)))
 | [],_,_=>.nil
 | r::hs,F,h=>by rw[FV,List.range_succ_eq_map,List.map_cons,List.map_cons,List.map_map];exact .cons (iq (h 0 r rfl)) (pS (F:=λa=>F (a+1)) λa b c=>h (a+1) b (by simpa using c))
def AL{i x a:Nat}(h:x+a<=i):a+(i-x-a)=i-x:=by omega
def AZ{i x a k:Nat}(h:x+a<=i)(ha:a<k+1):k+1+(i-x-a)=i+(k+1-a)-x:=by omega
def xa{i x a c:Nat}(h:x+a<=i):¬i+c<x/\¬i<x:=by omega
def Fb{x r h k a:Nat}(b:r=x+1)(c:h=k+1)(ha:a<k+1):min x r+h=x+a+(k+1-a):=by omega
def Em{i x r:Nat}(a:r=x+1):i-min x r=i-x:=by omega
def rV{x r:Nat}(a:r=x+1):min x r=x:=by omega
inductive mN(K:Fn)(vs:List V)(H:Hp)(Q:VK)(E:XK):Prop|mk:∀a m ws c x,vs=[a,.ref c]->bC H a m ws->HOuse m ws->aO H c x->dU m x->gH K->Tbs K H->(∀p d rs (b N:Nat) M H',Et H H'->Tbs K H'->H' p=Vo (.tup [.ref d,.int (b:Nat)])->Rows H' d rs m.toNat (f9 m.toNat (bh ws m.toNat) x.2.toNat M)->rs.length=b+N->1<=N->b+N<=5200->(∀r,r<m.toNat->aS (λi=>f9 m.toNat (bh ws m.toNat) x.2.toNat M i r) b N)->(∀i r:Nat,(i:Int)<=x.2->(r:Int)<m->(M i r=true↔∃n,Bfs.Rw (LB ws m.toNat x.2) n x ((r:Int),(i:Int))))->Q (.ref p) H')->mN K vs H Q E
abbrev pO:Vl:=stq 54
def vj:FnScope ["house","place","rises","low","high","level"] ["house","place"] (aH pO):=⟨rfl,rfl,rfl,by decide +kernel,rfl,by decide +kernel,by decide +kernel⟩
def yB{P:Vd}{w:Ve}{mg:Vn->Option Va}{base:Vh}(D:Dfn K mg "all_levels" pO ["house","place"])(T:Blt mg)(d:Cal P w K mg base "next_level" 1 ["rises","level"] (nI K))(l:Cal P w K mg base "low_levels" 8 ["house","place"] (jY K))(I:Cal P w K mg base "risen" 7 ["house"] (j1 K)):Cal P w K mg base "all_levels" 9 ["house","place"] (mN K):=by
 have nd:=(vj).nd;refine D.ok vj (λvs H Q E h=>?_) (λX hX H vs Q E h=>?_)
 ·obtain⟨vh,m,ws,pa,x,rfl,_⟩:=h;rfl
 ·obtain⟨f,cdv,A,outer,s,H0,E0,rfl,S⟩:=hX;obtain⟨vh,m,ws,pa,x,rfl,hv,ok,a8,ix,a9,au,q⟩:=h;have m1:=ok.m1;have m12:=ok.m12;obtain⟨i0,i1,i2,i3⟩:=id ix;refine⟨_,(ai (aC (i:=2) nd rfl (Or.inl rfl) (ax I S (aa (pv 0) ae)))
    (ai (aC (i:=3) nd rfl (Or.inl rfl) (ax l S (aa (pv 0) (aa (pv 1) ae))))
    (ai (aC (i:=4) nd rfl (Or.inl rfl) (bo (aa (ah (aF K) (pv 3) (ja iI af) (λ_ _=>rfl)) ae)))
    (ai (aC (i:=5) nd rfl (Or.inl rfl) (ax d S (aa (pv 2) (aa (ah (aF K) (pv 3) (ja iI af) (λ_ _=>rfl)) ae))))
    (ai (fF PassesOwn.never (aM (uS S) (pv 5) (pv 4) (by with_unfolding_all rfl)) (ai (bz (bT K Fz FO FP bZ (pv 4) (aa (pv 5) ae)))
    (ao (aC (i:=5) nd rfl (Or.inl rfl) (ax d S (aa (pv 2) (aa (pv 5) ae)))))))
    (ao (aB (bf (aa (aq lY (gM (hJ K) (pv 3) i7 (f7 (ja iI af))) (pv 4)) (aa (aq aN (ah (ay K) (pv 1) af (λ_ _=>rfl)) (bT K Fz PySem.F.slot_list_index PySem.F.type_list_index (E1 S) (pv 4) (aa (pv 5) ae))) ae)))))))))),?_⟩
  walk_at"";refine⟨vh,m,ws,rfl,hv,ok,a9,au,λrl H1 e1 b0 b1=>?_⟩;walk_at"";refine⟨vh,m,ws,pa,x,rfl,hv.et e1,ok,a8.et e1,ix,a9,b0,λlq rs M H2 e2 b2 rows bm hM=>?_⟩;have U:=b1.et e2;have ab:=(a8.et e1).et e2;have n:rs.length=x.2.toNat+1:=by omega
  have u:rs[x.2.toNat]?=Vo rs[x.2.toNat]:=Ft (by omega);generalize rs[x.2.toNat]=r0 at u;have ac:=rows.2 _ _ u;have hat:bF (List.map V.ref rs) (-1)=Vo (.ref r0):=Aj (k:=x.2.toNat) (by rw[Fs];exact n) (by rw[Fu,u];rfl);walk_at"";refine aE (ag.of rows.1) hat ?_;walk_at"";refine aK λB H3 e3 b4 b5=>?_;walk_at"";refine aE (ag.of (e3 _ _ rows.1)) hat ?_;walk_at"";refine⟨rl,r0,m.toNat,_,_,rfl,U.et e3.et,e3 _ _ ac,by omega,λlv g H4 e4 bn ad hg=>?_⟩;have ak:=e3.trans e4;have am:H4 lv=Vo (.lst (aL m.toNat (bD m.toNat (bh ws m.toNat) (M x.2.toNat) 1))):=by
   rw[ad];congr 2;exact bY λj W=>by rw[F4];exact(hg j W).trans jl.symm
  clear ad hg;walk_at"";refine fE (λmm σ H'=>∃hs lv k,Ext H2 H'/\H' B=Vo (.lst (List.map V.ref hs))/\hs.length=k+1/\(∀(a:Nat) (r:Vb),hs[a]?=Vo r->H' r=Vo (.lst (aL m.toNat (bD m.toNat (bh ws m.toNat) (M x.2.toNat) a))))/\(∀a b,a<b->b<k+1->¬eJ m.toNat (bD m.toNat (bh ws m.toNat) (M x.2.toNat) a) (bD m.toNat (bh ws m.toNat) (M x.2.toNat) b))/\H' lv=Vo (.lst (aL m.toNat (bD m.toNat (bh ws m.toNat) (M x.2.toNat) (k+1))))/\mm=4097-k/\σ=[Vo vh,Vo (.ref pa),Vo (.ref rl),Vo (.ref lq),Vo (.ref B),Vo (.ref lv)])
   (λσ H'=>∃hs lv k a,Ext H2 H'/\H' B=Vo (.lst (List.map V.ref hs))/\hs.length=k+1/\(∀(a:Nat) (r:Vb),hs[a]?=Vo r->H' r=Vo (.lst (aL m.toNat (bD m.toNat (bh ws m.toNat) (M x.2.toNat) a))))/\(∀a b,a<b->b<k+1->¬eJ m.toNat (bD m.toNat (bh ws m.toNat) (M x.2.toNat) a) (bD m.toNat (bh ws m.toNat) (M x.2.toNat) b))/\H' lv=Vo (.lst (aL m.toNat (bD m.toNat (bh ws m.toNat) (M x.2.toNat) (k+1))))/\a<k+1/\eJ m.toNat (bD m.toNat (bh ws m.toNat) (M x.2.toNat) a) (bD m.toNat (bh ws m.toNat) (M x.2.toNat) (k+1))/\k+1<=4096/\σ=[Vo vh,Vo (.ref pa),Vo (.ref rl),Vo (.ref lq),Vo (.ref B),Vo (.ref lv)])
   4097 ⟨[r0],lv,0,ak,e4 _ _ b4,rfl,λa r ha=>by
    cases a with
    | zero=>cases ha;exact ak _ _ ac
    | succ a=>simp at ha,λa b h1 h2=>by omega,am,rfl,rfl⟩ ?_ ?_
  ·rintro mm σ Z ⟨hs,lv,k,e5,p,J,hrow,L,C,rfl,rfl⟩;have hk:=sN (F:=bD m.toNat (bh ws m.toNat) (M x.2.toNat)) (show m.toNat<=12 by omega) L;have an:=pS hrow;walk_at"";refine vI (iq C) p an (by omega) ?_;have N:((Gm hs.length).map λa=>PyData.list (dB m.toNat (bD m.toNat (bh ws m.toNat) (M x.2.toNat) a))).any (λe=>PyData.eqv e (.list (dB m.toNat (bD m.toNat (bh ws m.toNat) (M x.2.toNat) (k+1)))))=true↔∃a,a<k+1/\eJ m.toNat (bD m.toNat (bh ws m.toNat) (M x.2.toNat) a) (bD m.toNat (bh ws m.toNat) (M x.2.toNat) (k+1)):=by
    rw[List.any_map,F3,J];constructor
    ·rintro⟨a,ha,he⟩;exact⟨a,List.mem_range.mp ha,jx.mp he⟩
    ·rintro⟨a,ha,he⟩;exact⟨a,List.mem_range.mpr ha,jx.mpr he⟩
   generalize ((Gm hs.length).map λa=>PyData.list (dB m.toNat (bD m.toNat (bh ws m.toNat) (M x.2.toNat) a))).any (λe=>PyData.eqv e (.list (dB m.toNat (bD m.toNat (bh ws m.toNat) (M x.2.toNat) (k+1)))))=bb at N ⊢;cases bb with
   | true=>
    obtain⟨a,ha,hsame⟩:=N.mp rfl;refine⟨_,rfl,aw ?_⟩;exact⟨hs,lv,k,a,e5,p,J,hrow,L,C,ha,hsame,hk,rfl⟩
   | false=>
    have b6:∀a,a<k+1->¬eJ m.toNat (bD m.toNat (bh ws m.toNat) (M x.2.toNat) a) (bD m.toNat (bh ws m.toNat) (M x.2.toNat) (k+1)):=λa ha hs=>by have:=N.mpr ⟨a,ha,hs⟩;cases this
    have Y:∀a b,a<b->b<k+1+1->¬eJ m.toNat (bD m.toNat (bh ws m.toNat) (M x.2.toNat) a) (bD m.toNat (bh ws m.toNat) (M x.2.toNat) b):=λa b hab hb=>by
     by_cases b7:b<k+1
     ·exact L a b hab b7
     ·have:b=k+1:=by omega
      subst this;exact b6 a hab
    have bt:=sN (F:=bD m.toNat (bh ws m.toNat) (M x.2.toNat)) (show m.toNat<=12 by omega) Y;refine⟨_,rfl,av ⟨λap H'=>∃hs lv,Ext H2 H'/\H' B=Vo (.lst (List.map V.ref hs))/\hs.length=k+1+1/\(∀(a:Nat) (r:Vb),hs[a]?=Vo r->H' r=Vo (.lst (aL m.toNat (bD m.toNat (bh ws m.toNat) (M x.2.toNat) a))))/\H' lv=Vo (.lst (aL m.toNat (bD m.toNat (bh ws m.toNat) (M x.2.toNat) (k+1+1))))/\ap=[Vo vh,Vo (.ref pa),Vo (.ref rl),Vo (.ref lq),Vo (.ref B),Vo (.ref lv)],λap H' ⟨hs,lv,a1,a2,a3,a4,a5,a6⟩=>⟨4097-(k+1),by omega,hs,lv,k+1,a1,a2,a3,a4,Y,a5,rfl,a6⟩,?_⟩⟩;have nqr:∀r∈hs++[lv],r≠B:=λr S z=>by
     have hb:∃f,Z r=Vo (.lst (aL m.toNat f)):=by
      rcases FQ.mp S with h|h
      ·obtain⟨j,W⟩:=Gg h;exact⟨_,hrow j r W⟩
      ·rw[FD.mp h];exact⟨_,C⟩
     obtain⟨f,hb⟩:=hb;rw[z,p]at hb;have h2:List.map V.ref hs=aL m.toNat f:=by
      injection hb with hb
      injection hb
     have h3:=congrArg (λz:List V=>z[0]?) h2
     try dsimp only at h3
     rw[eU _ (by omega),Fu]at h3;cases y:hs[0]? with
     | none=>rw[y]at h3;cases h3
     | some a=>rw[y]at h3;cases h3
    walk_at"";refine⟨cJ (ag.of p),?_⟩;walk_at"";refine bX p (q5 (by rw[Fs];omega)) ?_;have b8:H2 B=Vp:=b5;have e6:=cA (o:=.lst (List.map V.ref hs++[.ref lv])) e5 b8;have keep:∀b o,b≠B->Z b=Vo o->upd Z B (.lst (List.map V.ref hs++[.ref lv])) b=Vo o:=λb o nb e=>by rw[aG nb];exact e
    have ar:upd Z B (.lst (List.map V.ref hs++[.ref lv])) B=Vo (.lst (List.map V.ref (hs++[lv]))):=by rw[aI,FJ];rfl
    have O:=keep lv _ (nqr lv (by simp)) C;have hrow6:∀(a:Nat) (r:Vb),(hs++[lv])[a]?=Vo r->upd Z B (.lst (List.map V.ref hs++[.ref lv])) r=Vo (.lst (aL m.toNat (bD m.toNat (bh ws m.toNat) (M x.2.toNat) a))):=λa r ha=>by
     by_cases ba:a<hs.length
     ·rw[FT ba]at ha;exact keep r _ (nqr r (Ga _ (FC ha))) (hrow a r ha)
     ·rw[FR (by omega)]at ha;have hz:a-hs.length=0:=by have:=(FA.mp ha).1;simp at this;omega
      rw[hz]at ha;cases ha;have:a=k+1:=by omega
      subst this;exact O
    generalize upd Z B (.lst (List.map V.ref hs++[.ref lv]))=H6 at e6 ar O hrow6 ⊢;walk_at"";refine⟨rl,lv,m.toNat,_,_,rfl,U.et e6.et,O,by omega,λbc g2 H7 e7 _ be bg=>?_⟩;walk_at"";refine⟨hs++[lv],bc,e6.trans e7,e7 _ _ ar,by rw[FK,J];rfl,λa r ha=>e7 _ _ (hrow6 a r ha),?_,rfl⟩;rw[be];congr 2;exact bY λj W=>by rw[F4];exact(bg j W).trans jl.symm
  ·rintro σ Z ⟨hs,lv,k,a,e5,p,J,hrow,L,C,ha,hsame,hk,rfl⟩;have a0:=rows.ext e5;walk_at"";refine ia (ag.of a0.1) (bL λlo H6 e6 as _=>?_);rw[zy (k:=x.2.toNat) (by rw[Fs];exact n)]at as;walk_at"";refine ni as (e6 _ _ p) (bw (by simp;omega)) (bL λll H7 e7 bi _=>?_);have G:=e6.trans e7;walk_at"";refine az (aj.of (G _ _ (e5 _ _ ab))) (v:=.int x.2) rfl ?_;walk_at"";have hrow7:∀(a:Nat) (r:Vb),hs[a]?=Vo r->H7 r=Vo (.lst (aL m.toNat (bD m.toNat (bh ws m.toNat) (M x.2.toNat) a))):=λa r h=>G _ _ (hrow a r h);refine⟨cJ (ag.of (G _ _ p)),?_⟩;walk_at"";refine⟨1,B,_,.ref lv,_,_,a,rfl,rfl,iq (G _ _ C),G _ _ p,pS hrow7,by omega,⟨_,by rw[Fu,List.getElem?_range (by omega)];rfl,jx.mpr hsame⟩,λb e hb he=>?_,by omega,?_⟩
   ·rw[Fu,List.getElem?_range (by omega)]at he;cases he;rw[Bool.eq_false_iff];intro hc;have:=jx.mp hc;exact L b a hb ha λj W=>(this j W).trans (hsame j W).symm
   walk_at"";refine aK λpp H8 e8 bl _=>?_;have a7:=e5.trans (G.trans e8);refine q pp ll (rs.take x.2.toNat++hs) (x.2.toNat+a) (k+1-a) M H8 ((e1.trans e2).trans a7.et) (b2.ext a7) ?_ ⟨?_,λi r hi=>?_⟩ ?_ (by omega) (by omega) (λr S=>?_) hM
   ·rw[bl];congr 3;congr 2;omega
   ·rw[e8 _ _ bi,FJ,List.map_take]
   ·unfold f9;by_cases R:i<x.2.toNat
    ·rw[Gr R];rw[FT (by rw[Gi,rV n];exact R),List.getElem?_take_of_lt R]at hi;exact a7 _ _ (rows.2 i r hi)
    ·rw[Gq R];rw[FR (by rw[Gi,rV n];exact Nat.le_of_not_lt R),Gi,Em n]at hi;exact e8 _ _ (hrow7 _ _ hi)
   ·rw[FK,Gi];exact Fb n J ha
   ·intro i hi;show f9 _ _ _ _ (i+(k+1-a)) r=f9 _ _ _ _ i r;unfold f9;rw[Gq (xa hi).1,Gq (xa (c:=0) hi).2];have hp:=wx hsame (i-x.2.toNat-a) r S;rw[AL hi,AZ hi ha]at hp;exact hp.symm
def ui{i d:Nat}(h:i+1<=d)(a:d≠i+1):i+1+(d-1-(i+1))=d-1:=by omega
def dY(ws:List Way)(a b:Bfs.Pl):Prop:=∃w∈ws,cU w a.1 a.2=true/\b=(w.other,a.2+rz w.deed)
def bV(ws:List Way)(x y:Bfs.Pl):Prop:=∃n,Bfs.Rw (dY ws) n x y
def gE{w:Way}{r n:Int}(b:w.room=r)(h:w.deed = "up"\/w.deed = "stay"\/(w.deed = "down"/\0<n)\/(w.deed = "zero"/\n=0)):cU w r n=true:=by
 unfold cU;rw[Gp b,Bool.true_and];rcases h with h|h|⟨h,a⟩|⟨h,a⟩
 ·rw[h,Gq (by decide +kernel)];have:decide ((F7 "up") = "zero")=false:=by decide +kernel
  rw[this];rfl
 ·rw[h,Gq (by decide +kernel)];have:decide ((F7 "stay") = "zero")=false:=by decide +kernel
  rw[this];rfl
 ·rw[h,Gr (by decide +kernel)];exact Gp a
 ·rw[h,Gq (by decide +kernel),a];simp
def hV{w:Way}{r n:Int}(hd:cx w.deed)(h:cU w r n=true):(w.deed = "up"/\rz w.deed=1)\/(w.deed = "stay"/\rz w.deed=0)\/(w.deed = "down"/\0<n/\rz w.deed = -1)\/(w.deed = "zero"/\n=0/\rz w.deed=0):=by
 unfold cU at h;rw[F5]at h;rcases hd with hd|hd|hd|hd
 ·exact .inl ⟨hd,by rw[hd];exact jO⟩
 ·rw[hd,Gr (by decide +kernel)]at h;exact .inr (.inr (.inl ⟨hd,of_decide_eq_true h.2,by rw[hd];exact j2⟩))
 ·exact .inr (.inl ⟨hd,by rw[hd];exact kJ⟩)
 ·rw[hd,Gq (by decide +kernel)]at h;have h2:decide ((F7 "zero") = "zero")=true:=by decide +kernel
  rw[h2]at h;refine .inr (.inr (.inr ⟨hd,?_,by rw[hd];exact mK⟩));simpa using h.2
def bV.refl{ws:List Way}{x:Bfs.Pl}:bV ws x x:=⟨0,.nil⟩
theorem bV.trans{ws:List Way}{x y z:Bfs.Pl}(h:bV ws x y)(g:bV ws y z):bV ws x z:=by obtain⟨n,h⟩:=h;obtain⟨k,g⟩:=g;exact⟨n+k,h.trans g⟩
def bV.one{ws:List Way}{x y:Bfs.Pl}(h:dY ws x y):bV ws x y:=⟨1,.snoc .nil h⟩
section
variable {m:Int} {ws:List Way} (ok:∀w∈ws,w.Ok m)
include ok
def eQ{a b:Bfs.Pl}(h:dY ws a b)(ha:0<=a.2):0<=b.1/\b.1<m/\0<=b.2/\b.2<=a.2+1/\a.2<=b.2+1:=by obtain⟨w,d,ho,rfl⟩:=h;have c:=ok w d;refine⟨c.o0,c.o1,?_⟩;rcases hV c.dd ho with⟨_,h⟩|⟨_,h⟩|⟨_,h1,h⟩|⟨_,h1,h⟩<;>(show 0<=a.2+rz w.deed/\a.2+rz w.deed<=a.2+1/\a.2<=a.2+rz w.deed+1;omega)
def w9{i j:Nat}(h:Kpt ws m.toNat i j):∀L:Int,0<=L->bV ws ((i:Int),L) ((j:Int),L):=by
 induction h with
 | refl _=>exact λ_ _=>.refl
 | @stay w l hd=>
  intro L _;have a:=ok w l;have r0:=a.r0;have o0:=a.o0;refine .one ⟨w,l,gE (by show w.room=((w.room.toNat:Nat):Int);omega) (.inr (.inl hd)),?_⟩;rw[hd,kJ];exact Prod.ext (by show((w.other.toNat:Nat):Int)=w.other;omega) (by show L=L+0;omega)
 | trans _ _ h1 h2=>exact λL k=>(h1 L k).trans (h2 L k)
 | @arch u d n b hd c _ o=>
  intro L k;have e:=ok u n;have g:=ok d hd;have p:=e.r0;have q:=e.o0;have r:=g.r0;have s:=g.o0;have s1:dY ws (((u.room.toNat:Nat):Int),L) (((u.other.toNat:Nat):Int),L+1):=⟨u,n,gE (by show u.room=((u.room.toNat:Nat):Int);omega) (.inl b),by rw[b,jO];exact Prod.ext (by show((u.other.toNat:Nat):Int)=u.other;omega) rfl⟩;have s2:dY ws (((d.room.toNat:Nat):Int),L+1) (((d.other.toNat:Nat):Int),L):=⟨d,hd,gE (by show d.room=((d.room.toNat:Nat):Int);omega) (.inr (.inr (.inl ⟨c,by omega⟩))),by rw[c,j2];exact Prod.ext (by show((d.other.toNat:Nat):Int)=d.other;omega) (by show L=L+1 + -1;omega)⟩;exact((bV.one s1).trans (o (L+1) (by omega))).trans (.one s2)
def vg:∀(n:Nat) (w:Nat->Bfs.Pl) (i:Nat) (L:Int),1<=L->(∀k,i<=k->k<i+n->dY ws (w k) (w (k+1)))->(∀k,i<=k->k<=i+n->L<=(w k).2)->(w i).2=L->(w (i+n)).2=L->0<=(w i).1->(w i).1<m->Kpt ws m.toNat (w i).1.toNat (w (i+n)).1.toNat:=by
 intro n;induction n using Nat.strongRecOn with
 | ind n F=>
  intro w i L J q E T h1 r0 r1;cases n with
  | zero=>exact .refl (by show(w i).1.toNat<m.toNat;omega)
  | succ n=>
   have M:=q i (FN _) (by omega);have in1:=eQ ok M (by omega);obtain⟨v,G,ho,r⟩:=id M;have H:=ok v G;have c:=gX ho;have N:(w (i+1)).1=v.other:=by rw[r]
   have U:(w (i+1)).2=(w i).2+rz v.deed:=by rw[r]
   have hge:=E (i+1) (by omega) (by omega);rcases hV H.dd ho with⟨hd,g⟩|⟨hd,g⟩|⟨hd,_,g⟩|⟨hd,Q,g⟩
   ·obtain⟨d,s,u,j,o⟩:=Bfs.Dx (h:=λk=>(w k).2) (l:=L) (P:=i+1) (n:=i+(n+1)) (by omega) (λk a b=>(eQ ok (q k (by omega) b) (by have:=E k (by omega) (by omega);omega)).2.2.2.2) (by show(w (i+(n+1))).2<=L;omega) (by show L<=(w (i+1)).2;omega)
    try dsimp only at j o
    have x:d≠i+1:=λz=>by rw[z]at j;omega
    have I:=q (d-1) (by omega) (by omega);rw[show d-1+1=d by omega]at I;obtain⟨v2,y,A,B⟩:=id I;have C:=ok v2 y;have e:=gX A;have R:(w d).1=v2.other:=by rw[B]
    have W:(w d).2=(w (d-1)).2+rz v2.deed:=by rw[B]
    have S:=o (d-1) (by omega) (by omega);have p:v2.deed = "down"/\rz v2.deed = -1:=by
     rcases hV C.dd A with⟨_,g⟩|⟨_,g⟩|⟨hd,_,g⟩|⟨_,_,g⟩
     ·omega
     ·omega
     ·exact⟨hd,g⟩
     ·omega
    have inner:=F (d-1-(i+1)) (by omega) w (i+1) (L+1) (by omega) (λk a b=>q k (by omega) (by omega)) (λk a b=>by have:=o k a (by omega);omega) (by omega) (by rw[ui s x];omega) in1.1 in1.2.1;rw[ui s x,N,←e]at inner;have O:=Kpt.arch G hd y p.1 inner;rw[c,←R]at O;have ind:=eQ ok I (by omega);have rest:=F (i+(n+1)-d) (by omega) w d L J (λk a b=>q k (by omega) (by omega)) (λk a b=>E k (by omega) (by omega)) j (by rw[Nat.add_sub_of_le u];exact h1) ind.1 ind.2.1;rw[Nat.add_sub_of_le u]at rest;exact .trans O rest
   ·have rest:=F n (by omega) w (i+1) L J (λk a b=>q k (by omega) (by omega)) (λk a b=>E k (by omega) (by omega)) (by omega) (by rw[show i+1+n=i+(n+1) by omega];exact h1) in1.1 in1.2.1;rw[show i+1+n=i+(n+1) by omega,N]at rest;have st:=Kpt.stay (n:=m.toNat) G hd;rw[c]at st;exact .trans st rest
   ·omega
   ·omega
theorem qN{w:Nat->Bfs.Pl}{n:Nat}(a:0<=(w 0).1/\(w 0).1<m/\0<=(w 0).2)(b:∀k,k<n->dY ws (w k) (w (k+1))):∀k,k<=n->0<=(w k).1/\(w k).1<m/\0<=(w k).2
 | 0,_=>a
 | k+1,d=>by have c:=qN a b k (by omega);have:=eQ ok (b k (by omega)) c.2.2;exact⟨this.1,this.2.1,this.2.2.1⟩
def B4{top:Int}{x:Bfs.Pl}(d:0<=top)(e:cO m top x){k:Nat}{y:Bfs.Pl}(h:Bfs.Rw (LB ws m.toNat top) k x y):bV ws x y/\cO m top y:=by
 induction h with
 | nil=>exact⟨.refl,e⟩
 | @snoc n x y z _ hs p=>
  obtain⟨g,l⟩:=p e;rcases hs with⟨w,q,ho,rfl,hle⟩|⟨r,i,j,o,a,rfl⟩
  ·have st:dY ws y (w.other,y.2+rz w.deed):=⟨w,q,ho,rfl⟩;have:=eQ ok st l.2.2.1;exact⟨g.trans (.one st),this.1,this.2.1,this.2.2.1,hle⟩
  ·have hlt:=Kpt.lt ok o;have b:y.2=top:=by have:=l.2.2.2;omega
   have hs:=w9 ok o top d;have c:y=((i:Int),top):=Prod.ext a b;rw[←c]at hs;exact⟨g.trans hs,by show(0:Int)<=(j:Int);omega,by show(j:Int)<m;omega,d,Int.le_refl _⟩
def Ck{top:Int}(R:0<=top):∀(n:Nat) (w:Nat->Bfs.Pl),0<=(w 0).1->(w 0).1<m->(w 0).2=top->(∀k,k<n->dY ws (w k) (w (k+1)))->(w n).2<=top->∃k,Bfs.Rw (LB ws m.toNat top) k (w 0) (w n):=by
 intro n;induction n using Nat.strongRecOn with
 | ind n E=>
  intro w b c j d hle;cases n with
  | zero=>exact⟨0,.nil⟩
  | succ n=>
   have hin:=qN ok (w:=w) (n:=n+1) ⟨b,c,by omega⟩ d;have sn:=d n (by omega);have J:=eQ ok sn (hin n (by omega)).2.2;by_cases e:(w n).2<=top
   ·obtain⟨k,i⟩:=E n (by omega) w b c j (λk i=>d k (by omega)) e;obtain⟨v,x,ho,L⟩:=sn;exact⟨k+1,.snoc i (.inl ⟨v,x,ho,L,hle⟩)⟩
   ·obtain⟨u,S,o,g⟩:=Bfs.lh (h:=λk=>(w k).2) (l:=top) n (λk i=>(eQ ok (d k (by omega)) (hin k (by omega)).2.2).2.2.2.1) (by show(w 0).2<=top;omega) (by show top<=(w n).2;omega)
    try dsimp only at o g
    have M:u≠n:=λz=>by rw[z]at o;omega
    have F:=d u (by omega);have N:=eQ ok F (hin u (by omega)).2.2;have O:=g (u+1) (by omega) (by omega);obtain⟨v,x,ho,p⟩:=id F;obtain⟨v2,q,r,s⟩:=id sn;have P:(w (u+1)).1=v.other:=by rw[p]
    have T:(w (u+1)).2=(w u).2+rz v.deed:=by rw[p]
    have Q:(w (n+1)).1=v2.other:=by rw[s]
    have U:(w (n+1)).2=(w n).2+rz v2.deed:=by rw[s]
    have y:v.deed = "up":=by
     rcases hV (ok v x).dd ho with⟨hd,_⟩|⟨_,e⟩|⟨_,_,e⟩|⟨_,_,e⟩
     ·exact hd
     ·omega
     ·omega
     ·omega
    have A:v2.deed = "down":=by
     rcases hV (ok v2 q).dd r with⟨_,e⟩|⟨_,e⟩|⟨hd,_,_⟩|⟨_,_,e⟩
     ·omega
     ·omega
     ·exact hd
     ·omega
    have a:=hin (u+1) (by omega);have inner:=vg ok (n-(u+1)) w (u+1) (top+1) (by omega) (λk B C=>d k (by omega)) (λk B C=>by have:=g k (by omega) (by omega);omega) (by omega) (by rw[show u+1+(n-(u+1))=n by omega];omega) a.1 a.2.1;rw[show u+1+(n-(u+1))=n by omega,P,←gX r]at inner;have G:=Kpt.arch x y q A inner;rw[gX ho,←Q]at G;obtain⟨k,i⟩:=E u (by omega) w b c j (λk i=>d k (by omega)) (by omega);have H:=hin u (by omega);have I:=hin (n+1) (by omega);refine⟨k+1,.snoc i (.inr ⟨by omega,_,_,G,by omega,?_⟩)⟩;exact Prod.ext (by show(w (n+1)).1=(((w (n+1)).1.toNat:Nat):Int);omega) (by show(w (n+1)).2=top;omega)
def Bs{top:Int}{x:Bfs.Pl}(c:0<=top)(a:cO m top x)(b:x.2=top){y:Bfs.Pl}(d:y.2<=top):(∃n,Bfs.Rw (LB ws m.toNat top) n x y)↔bV ws x y:=by
 constructor
 ·rintro⟨n,h⟩;exact(B4 ok c a h).1
 ·rintro⟨n,h⟩;obtain⟨w,w0,wn,e⟩:=h.fn;have:=Ck ok c n w (by rw[w0];exact a.1) (by rw[w0];exact a.2.1) (by rw[w0];exact b) e (by rw[wn];exact d);rw[w0,wn]at this;exact this
def vL{x:Bfs.Pl}(H:0<=x.1/\x.1<m/\0<=x.2){i r:Nat}(hi:x.2<=(i:Int)):bV ws x ((r:Int),((i+1:Nat):Int))↔∃p,p<m.toNat/\bV ws x ((p:Int),(i:Int))/\bh ws m.toNat p r:=by
 constructor
 ·rintro⟨n,h⟩;obtain⟨w,w0,wn,d⟩:=h.fn;have hin:=qN ok (w:=w) (n:=n) (by rw[w0];exact H) d;have y:(w n).2=(i:Int)+1:=by rw[wn];show((i+1:Nat):Int)=_;omega
  obtain⟨u,O,b,c⟩:=Bfs.lh (h:=λk=>(w k).2) (l:=(i:Int)) n (λk q=>(eQ ok (d k q) (hin k (by omega)).2.2).2.2.2.1) (by show(w 0).2<=(i:Int);rw[w0];exact hi) (by show(i:Int)<=(w n).2;omega)
  try dsimp only at b c
  have I:u≠n:=λz=>by rw[z]at b;omega
  have J:=d u (by omega);have L:=c (u+1) (by omega) (by omega);obtain⟨v,e,ho,g⟩:=id J;have M:(w (u+1)).1=v.other:=by rw[g]
  have P:(w (u+1)).2=(w u).2+rz v.deed:=by rw[g]
  have A:v.deed = "up"/\rz v.deed=1:=by
   rcases hV (ok v e).dd ho with⟨hd,s⟩|⟨_,s⟩|⟨_,_,s⟩|⟨_,_,s⟩
   ·exact⟨hd,s⟩
   ·omega
   ·omega
   ·omega
  have a:=hin (u+1) (by omega);have G:=hin u (by omega);have inner:=vg ok (n-(u+1)) w (u+1) ((i:Int)+1) (by omega) (λk B C=>d k (by omega)) (λk B C=>by have:=c k (by omega) (by omega);omega) (by omega) (by rw[show u+1+(n-(u+1))=n by omega];exact y) a.1 a.2.1;rw[show u+1+(n-(u+1))=n by omega,M,show (w n).1.toNat=r by rw[wn];exact FF r]at inner;refine⟨(w u).1.toNat,by omega,⟨u,?_⟩,v,e,A.1,by rw[gX ho],inner⟩;have seg:=Bfs.B7 (S:=dY ws) (w:=w) (i:=0) (j:=u) (by omega) (λk _ q=>d k (by omega));rw[w0,Nat.sub_zero]at seg;have E:w u=((((w u).1.toNat:Nat):Int),(i:Int)):=Prod.ext (by show(w u).1=(((w u).1.toNat:Nat):Int);omega) b;rw[E]at seg;exact seg
 ·rintro⟨p,Q,N,v,e,hd,F,q⟩;have o:=ok v e;have r0:=o.r0;have o0:=o.o0;have st:dY ws ((p:Int),(i:Int)) (((v.other.toNat:Nat):Int),(i:Int)+1):=⟨v,e,gE (by show v.room=((p:Nat):Int);omega) (.inl hd),by rw[hd,jO];exact Prod.ext (by show((v.other.toNat:Nat):Int)=v.other;omega) rfl⟩;have hs:=w9 ok q ((i:Int)+1) (by omega);have:=(N.trans (.one st)).trans hs;rw[show ((i+1:Nat):Int)=(i:Int)+1 by omega];exact this
def Ez{x:Bfs.Pl}(b:0<=x.1/\x.1<m/\0<=x.2){M:Nat->Nat->Bool}(e:∀i r:Nat,(i:Int)<=x.2->(r:Int)<m->(M i r=true↔∃n,Bfs.Rw (LB ws m.toNat x.2) n x ((r:Int),(i:Int)))):∀i r:Nat,r<m.toNat->(f9 m.toNat (bh ws m.toNat) x.2.toNat M i r=true↔bV ws x ((r:Int),(i:Int))):=by
 have c:cO m x.2 x:=⟨b.1,b.2.1,b.2.2,Int.le_refl _⟩;have low:∀i r:Nat,(i:Int)<=x.2->r<m.toNat->(M i r=true↔bV ws x ((r:Int),(i:Int))):=λi r hi a=>(e i r hi (by omega)).trans (Bs ok b.2.2 c rfl hi);have high:∀k r:Nat,r<m.toNat->(bD m.toNat (bh ws m.toNat) (M x.2.toNat) k r=true↔bV ws x ((r:Int),((x.2.toNat+k:Nat):Int))):=by
  intro k;induction k with
  | zero=>exact λr a=>low x.2.toNat r (by omega) a
  | succ k d=>
   intro r a;show iE _ _ _ r=true↔_;rw[jl,show x.2.toNat+(k+1)=x.2.toNat+k+1 by omega,vL ok b (by omega)];constructor
   ·rintro⟨i,hi,h1,h2⟩;exact⟨i,hi,(d i hi).mp h1,h2⟩
   ·rintro⟨i,hi,h1,h2⟩;exact⟨i,hi,(d i hi).mpr h1,h2⟩
 intro i r a;unfold f9;by_cases hi:i<x.2.toNat
 ·rw[Gr hi];exact low i r (by omega) a
 ·rw[Gq hi,high (i-x.2.toNat) r a,show x.2.toNat+(i-x.2.toNat)=i by omega]
end
inductive mO(K:Fn)(vs:List V)(H:Hp)(Q:VK)(E:XK):Prop|mk:∀a rs m F b N r,vs=[.ref a,.int (b:Nat),.int (r:Nat)]->Rows H a rs m F->rs.length=b+N->1<=N->b+N<=20000->r<m->aS (λi=>F i r) b N->(∀v (l d:Nat) H',Ext H H'->Least (λi=>F i r) d l->l<=b->d<=N->ck H' v l d (row (λi=>F i r) 0 l) (row (λi=>F i r) l d)->Q v H')->mO K vs H Q E
abbrev rm:Vl:=stq 55
def vb:FnScope ["levels","base","room"] ["levels","base","room"] (aH rm):=⟨rfl,rfl,rfl,by decide +kernel,rfl,by decide +kernel,by decide +kernel⟩
def A3{P:Vd}{w:Ve}{mg:Vn->Option Va}{base:Vh}(D:Dfn K mg "stair_of_room" rm ["levels","base","room"])(T:Blt mg)(c:Cal P w K mg base "stair_of_marks" 2 ["marks","base"] (oa K)):Cal P w K mg base "stair_of_room" 3 ["levels","base","room"] (mO K):=by
 have nd:=(vb).nd;refine D.ok vb (λvs H Q E h=>?_) (λX y H vs Q E h=>?_)
 ·obtain⟨z,rs,m,F,b,N,r,rfl,_⟩:=h;rfl
 ·obtain⟨f,cdv,A,outer,s,H0,E0,rfl,B⟩:=y;obtain⟨z,rs,m,F,b,N,r,rfl,rows,j,C,k,G,e,q⟩:=h;refine⟨_,(ao (aB (ax c B (aa (bK ["level"] [2] (bP K (pv 0)) (λ_=>(aA (i:=0) (show(["level","room"]:List Vn).Nodup from by decide +kernel) rfl (Or.inl rfl) (Or.inr rfl))) (λ_=>cn) (λ_=>(ah (aF K) (pv 0) (pv 1) (λ_ _=>rfl)))) (aa (pv 1) ae))))),?_⟩;walk_at"";refine bN (ag.of rows.1) ?_;refine dn (xs:=List.map V.ref rs) (λi ys H'=>H'=H/\ys=aL i (λi=>F i r)) (FY (show(List.map V.ref rs).length<=20000 by rw[Fs];omega) (by decide)) ⟨rfl,rfl⟩ (λi ys H' _ h=>⟨by rw[h.1];exact ag.of rows.1,by rw[h.2,bS];exact FN _⟩) ?_ ?_
  ·rintro i v ys H1 p ⟨rfl,rfl⟩;rw[Fu]at p;obtain⟨a,ha,rfl⟩:=FE.mp p;have hrow:=rows.2 i a ha;walk_at"";refine av ?_;walk_at"";refine aE (ag.of hrow) (cR (by omega) (by omega)) ?_;rw[FF];refine⟨rfl,?_⟩;rw[jB]
  ·rintro ys H1 g ⟨I,rfl⟩ n;subst I;rw[Fs,j];have u:=aV (o:=.lst (aL (b+N) λi=>F i r)) n;have x:(upd H1 g (.lst (aL (b+N) λi=>F i r))) g=_:=aI;generalize upd H1 g (.lst (aL (b+N) λi=>F i r))=H2 at u x ⊢;walk_at"";exact⟨g,b,N,_,rfl,C,k,x,e,λv l d J L M O hd hst=>q v l d J (u.trans L) M O hd hst⟩
def gh(H:Hp)(vs:List V)(m:Int)(ws:List Way)(x:Bfs.Pl):Prop:=(vs.length:Int)=m/\∀(r:Nat) (v:V),vs[r]?=Vo v->∃(F:Nat->Bool) (l d:Nat),ck H v l d (row F 0 l) (row F l d)/\Least F d l/\1<=d/\l+d<=5200/\∀i:Nat,F i=true↔bV ws x ((r:Int),(i:Int))
inductive mT(K:Fn)(vs:List V)(H:Hp)(Q:VK)(E:XK):Prop|mk:∀a m ws b x,vs=[a,.ref b]->bC H a m ws->HOuse m ws->aO H b x->dU m x->gH K->Tbs K H->(∀l xs H',Et H H'->Tbs K H'->(∀o,H l=Vo o->∃ps,o=.tbl ps)->H' l=Vo (.lst xs)->gh H' xs m ws x->Q (.ref l) H')->mT K vs H Q E
abbrev pA:Vl:=stq 56
def wU:FnScope ["house","place","told"] ["house","place"] (aH pA):=⟨rfl,rfl,rfl,by decide +kernel,rfl,by decide +kernel,by decide +kernel⟩
def Dm{P:Vd}{w:Ve}{mg:Vn->Option Va}{base:Vh}(D:Dfn K mg "forward" pA ["house","place"])(T:Blt mg)(e:Cal P w K mg base "stair_of_room" 3 ["levels","base","room"] (mO K))(g:Cal P w K mg base "all_levels" 9 ["house","place"] (mN K))(a:Cal P w K mg base "refuse_bad_places" 3 ["house","places"] (lW K))(c:Cal P w K mg base "refuse_no_house" 6 ["thing"] (jz K)):Cal P w K mg base "forward" 10 ["house","place"] (mT K):=by
 have nd:=(wU).nd;refine D.ok wU (λvs H Q E h=>?_) (λX hX H vs Q E h=>?_)
 ·obtain⟨vh,m,ws,pa,x,rfl,_⟩:=h;rfl
 ·obtain⟨f,cdv,A,outer,s,H0,E0,rfl,hr⟩:=hX;obtain⟨vh,m,ws,pa,x,rfl,I,ok,J,L,a0,a3,q⟩:=h;have m1:=ok.m1;have m12:=ok.m12;refine⟨_,(ai (bz (ax c hr (aa (pv 0) ae)))
    (ai (bz (ax a hr (aa (pv 0) (aa (bo (aa (pv 1) ae)) ae))))
    (ai (aC (i:=2) nd rfl (Or.inr rfl) (ax g hr (aa (pv 0) (aa (pv 1) ae))))
    (ao (aB (bK ["room"] [2] (cb rfl T.range_ (aa (ah (ay K) (pv 0) af (λ_ _=>rfl)) ae)) (λ_=>(aA (i:=0) (show(["room","told"]:List Vn).Nodup from by decide +kernel) rfl (Or.inl rfl) (Or.inr rfl))) (λ_=>cn) (λ_=>(ax e hr (aa (ah (ay K) (pv 1) af (λ_ _=>rfl)) (aa (ah (ay K) (pv 1) af (λ_ _=>rfl)) (aa (pv 0) ae))))))))))),?_⟩
  walk_at"";refine⟨vh,m,ws,rfl,I,ok,λH1 e1=>?_⟩;obtain⟨C,O,a4,hh,_⟩:=id (I.ext e1);subst a4;walk_at"";refine aK λpl H2 e2 a5 _=>?_;have k:=e1.trans e2;walk_at"";refine⟨C,.ref O,m,pl,[pa],[x],rfl,e2 _ _ hh,a5,.cons (k _ _ J) .nil,λy hy=>by rw[FD.mp hy];exact L,?_⟩;walk_at"";refine⟨.ref C,m,ws,pa,x,rfl,I.ext k,ok,k _ _ J,L,a0,a3.ext k,λp lq rs b N M H3 e3 a6 hp rows a7 hN ab u hM=>?_⟩;have B:=Ez ok.ok ⟨L.1,L.2.1,L.2.2.1⟩ hM;generalize f9 m.toNat (bh ws m.toNat) x.2.toNat M=F at rows u B;have a8:H3 C=Vo (.tup [.int m,.ref O]):=e3 _ _ (e2 _ _ hh) (λps z=>by cases z);walk_at"";refine az (aj.of a8) (v:=.int m) rfl ?_;walk_at"";refine cj (by omega) ?_;refine dD (λi ys H'=>Ext H3 H'/\ys.length=i/\∀(r:Nat) (v:V),ys[r]?=Vo v->∃(F:Nat->Bool) (l d:Nat),ck H' v l d (row F 0 l) (row F l d)/\Least F d l/\1<=d/\l+d<=5200/\∀i:Nat,F i=true↔bV ws x ((r:Int),(i:Int))) (bw (by omega)) ⟨Ext.rfl' _,rfl,λr v h=>by simp at h⟩ (λi ys H' _ h=>Nat.le_of_eq h.2.1) ?_ ?_
  ·rintro i ys H4 hi ⟨G,R,hys⟩;rw[show (0:Int)+(i:Int)=((i:Nat):Int) by omega];have S:=G _ _ hp;walk_at"";refine av ?_;walk_at"";refine az (aj.of S) (v:=.ref lq) rfl ?_;walk_at"";refine az (aj.of S) (v:=.int (b:Nat)) rfl ?_;walk_at"";refine⟨lq,rs,m.toNat,F,b,N,i,rfl,rows.ext G,a7,hN,by omega,hi,u i hi,λv l d H5 U hL hl hd hst=>?_⟩;refine⟨G.trans U,by rw[FK,R];rfl,λr v' n=>?_⟩;by_cases W:r<ys.length
   ·rw[FT W]at n;obtain⟨F',l',d',a1,a2⟩:=hys r v' n;exact⟨F',l',d',a1.ext U,a2⟩
   ·rw[FR (by omega)]at n;have hz:r-ys.length=0:=by have:=(FA.mp n).1;simp at this;omega
    rw[hz]at n;cases n;have a9:r=i:=by omega
    subst a9;exact⟨λj=>F j r,l,d,hst,hL,hL.pos,by omega,λj=>B j r hi⟩
  ·rintro ys H4 p9 ⟨G,R,hys⟩ Y;have U:=aV (o:=.lst ys) Y;have Z:=G.trans U;walk_at"";refine q p9 ys _ ((k.et.trans e3).trans Z.et) (a6.ext Z) (λo ho=>Classical.byContradiction λz=>by have:=((k.et.trans e3).trans G.et) p9 o ho λps w=>z ⟨ps,w⟩;rw[Y]at this;cases this) aI ⟨by omega,λr v I=>?_⟩
   obtain⟨F',l',d',a1,a2⟩:=hys r v I;exact⟨F',l',d',a1.ext U,a2⟩
def vU{m:Int}{ws:List Way}(ok:∀w∈ws,w.Ok m){p r:Nat}(h:bh ws m.toNat p r):p<m.toNat/\r<m.toNat:=by obtain⟨v,b,hd,a,c⟩:=h;have:=Kpt.lt ok c;have r1:=(ok v b).r1;have r0:=(ok v b).r0;omega
def xZ{m:Int}{ws:List Way}(ok:∀w∈ws,w.Ok m){x:Bfs.Pl}(d:0<=x.1/\x.1<m/\0<=x.2):∀k r:Nat,r<m.toNat->(bV ws x ((r:Int),((x.2.toNat+k:Nat):Int))↔∃s,s<m.toNat/\bV ws x ((s:Int),x.2)/\Rnd.Wg (bh ws m.toNat) k s r):=by
 intro k;induction k with
 | zero=>
  intro r b;rw[show ((x.2.toNat+0:Nat):Int)=x.2 by omega];constructor
  ·exact λh=>⟨r,b,h,.nil⟩
  ·rintro⟨s,_,h,w⟩;cases w;exact h
 | succ k c=>
  intro r b;rw[show x.2.toNat+(k+1)=x.2.toNat+k+1 by omega,vL ok d (by omega)];constructor
  ·rintro⟨p,e,h,hs⟩;obtain⟨s,h1,h2,a⟩:=(c p e).mp h;exact⟨s,h1,h2,.snoc a hs⟩
  ·rintro⟨s,h1,h2,a⟩;cases a with
   | @snoc _ _ p _ a hs=>
    have:=vU ok hs;exact⟨p,this.1,(c p this.1).mpr ⟨s,h1,h2,a⟩,hs⟩
def gh.near{H:Hp}{xs:List V}{m:Int}{ws:List Way}{x:Bfs.Pl}(h:gh H xs m ws x)(ok:HOuse m ws)(E:dU m x):∃P,1<=P/\P<=81/\∀(r:Nat) (v:V),xs[r]?=Vo v->∃(F:Nat->Bool) (l d:Nat),ck H v l d (row F 0 l) (row F l d)/\Least F d l/\1<=d/\d ∣ P/\l<=1288/\∀i:Nat,F i=true↔bV ws x ((r:Int),(i:Int)):=by
 have m1:=ok.m1;have m12:=ok.m12;obtain⟨a,b,c,G⟩:=E;have o:m.toNat<=12:=by omega
 obtain⟨P,e,g,w⟩:=Rnd.round (n:=m.toNat) (A:=bh ws m.toNat) (λi j h=>vU ok.ok h) o;have I:m.toNat*m.toNat<=12*12:=Nat.mul_le_mul o o;have J:m.toNat<=m.toNat*m.toNat:=Nat.le_mul_of_pos_right _ (by omega);refine⟨P,e,g,λr v z=>?_⟩;obtain⟨F,l,d,hst,B,hd,_,p⟩:=h.2 r v z;have C:r<m.toNat:=by have:=(FA.mp z).1;have:=h.1;omega
 have per:aS F (x.2.toNat+288) P:=λy L=>by
  obtain⟨k,rfl⟩:∃k,y=x.2.toNat+k:=⟨y-x.2.toNat,by omega⟩;rw[F4,p,p,show x.2.toNat+k+P=x.2.toNat+(k+P) by omega,xZ ok.ok ⟨a,b,c⟩ _ r C,xZ ok.ok ⟨a,b,c⟩ _ r C];constructor
  ·rintro⟨s,h1,h2,q⟩;exact⟨s,h1,h2,w s r (k+P) k h1 (by omega) (by omega) (Nat.add_mod_right k P) q⟩
  ·rintro⟨s,h1,h2,q⟩;exact⟨s,h1,h2,w s r k (k+P) h1 (by omega) (by omega) (Nat.add_mod_right k P).symm q⟩
 obtain⟨u,M⟩:=Rnd.Bh B e per;exact⟨F,l,d,hst,B,hd,u,by omega,p⟩
structure Gd(b s:Int)(o a:List Int):Prop where
 ok:Ok b s o a
 b3:b<=3000
 s8:s<=840
def BV{lo hi x:Int}{r:List Int}:g7 lo hi (x::r)↔lo<=x/\x<hi/\g7 (x+1) hi r:=by
 constructor
 ·rintro⟨h1,h2⟩;obtain⟨d,p2⟩:=List.pairwise_cons.mp h1;have b:=h2 x Fy;exact⟨b.1,b.2,p2,λz a=>⟨by have:=d z a;omega,(h2 z (Fv _ a)).2⟩⟩
 ·rintro⟨h1,h2,e,c⟩;refine⟨List.pairwise_cons.mpr ⟨λz a=>by have:=c z a;omega,e⟩,λz a=>?_⟩;rcases FH.mp a with rfl|a
  ·exact⟨h1,h2⟩
  ·have:=c z a;exact⟨by omega,this.2⟩
inductive oI(K:Fn)(vs:List V)(H:Hp)(Q:VK)(E:XK):Prop|mk:∀(p:Vb) (lo hi:Int) (xs:List Int),vs=[.ref p,.int lo,.int hi]->H p=Vo (.tup (xs.map V.int))->g7 lo hi xs->Q (.bl true) H->oI K vs H Q E
abbrev rH:Vl:=stq 10
def vQ:FnScope ["thing","low","end","lowest","number"] ["thing","low","end"] (aH rH):=⟨rfl,rfl,rfl,by decide +kernel,rfl,by decide +kernel,by decide +kernel⟩
def Dj{P:Vd}{w:Ve}{mg:Vn->Option Va}{base:Vh}(D:Dfn K mg "is_rising_row" rH ["thing","low","end"])(T:Blt mg)(a:Cal P w K mg base "is_whole" 1 ["thing"] (ig K)):Cal P w K mg base "is_rising_row" 2 ["thing","low","end"] (oI K):=by
 have nd:=(vQ).nd;refine D.ok vQ (λvs H Q E h=>?_) (λX j H vs Q E h=>?_)
 ·obtain⟨p,lo,hi,xs,rfl,_⟩:=h;rfl
 ·obtain⟨f,cdv,A,outer,s,H0,E0,rfl,k⟩:=j;obtain⟨p,lo,hi,xs,rfl,c,d,q⟩:=h;refine⟨_,(ai (aZ (bM (aX (aU eF rfl T.isinstance_ PyProof.Rows.boot_isinstance (aa (pv 0) (aa (dZ (v:=.ty "tuple") rfl T.tuple_ PyProof.Rows.boot_tuple rfl) ae))))) (ao (aB aT)) aP)
    (ai (aC (i:=3) nd rfl (Or.inl rfl) (pv 1))
    (ai (bq PassesOwn.never rfl (ft K (pv 0)) (aA (i:=4) nd rfl (Or.inl rfl)) (ai (aZ (PW.pt (cC (bM (aX (ax a k (aa (pv 4) ae)))) (cC (aM dP (pv 4) (pv 3) (aJ _)) (cW (aM iG (pv 4) (pv 2) (aJ _)))))) (ao (aB aT)) aP)
    (ao (aC (i:=3) nd rfl (Or.inl rfl) (aq aN (pv 4) af)))))
    (ao (aB aT))))),?_⟩
  walk_at"";refine eI (n:="tuple") (.inr ⟨rfl,_,c⟩) (b:=true) rfl ?_;walk_at"";refine aw ?_;walk_at"";refine eT (aj.of c) ?_;refine gK (xs:=xs.map V.int) (λi σ H'=>H'=H/\∃lw w,σ=[Vo (.ref p),Vo (.int lo),Vo (.int hi),Vo (.int lw),w]/\g7 lw hi (xs.drop i))
   ⟨rfl,lo,Vp,rfl,d⟩ (λi σ H' _ h=>by rw[h.1];exact aj.of c) ?_ ?_
  ·rintro i u σ H' l ⟨rfl,lw,w,rfl,e⟩;obtain⟨x,rfl,m⟩:=fb l;have hd:xs.drop i=x::xs.drop (i+1):=by obtain⟨g,rfl⟩:=FA.mp m;exact List.drop_eq_getElem_cons g
   rw[hd]at e;obtain⟨h1,h2,o⟩:=BV.mp e;walk_at"";refine⟨_,"int",rfl,rfl,?_⟩;walk_at"";refine aw ?_;walk_at"";rw[Gn (show ¬x<lw by omega)];refine aw ?_;walk_at"";rw[Gn (show ¬hi<=x by omega)];refine aw ?_;walk_at"";exact⟨rfl,_,_,rfl,o⟩
  ·rintro σ H' ⟨rfl,lw,w,rfl,_⟩;walk_at"";exact q
inductive qz(K:Fn)(vs:List V)(H:Hp)(Q:VK)(E:XK):Prop|mk:∀(b s:Int) (o a:List Int) (q r:Vb),vs=[.int b,.int s,.ref q,.ref r]->H q=Vo (.tup (o.map V.int))->H r=Vo (.tup (a.map V.int))->Ok b s o a->Q (.bl true) H->qz K vs H Q E
abbrev lS:Vl:=stq 11
def xf:FnScope ["base","step","once","again"] ["base","step","once","again"] (aH lS):=⟨rfl,rfl,rfl,by decide +kernel,rfl,by decide +kernel,by decide +kernel⟩
def zW{P:Vd}{w:Ve}{mg:Vn->Option Va}{base:Vh}(D:Dfn K mg "are_stair_places" lS ["base","step","once","again"])(T:Blt mg)(c:Cal P w K mg base "is_rising_row" 2 ["thing","low","end"] (oI K))(d:Cal P w K mg base "is_whole" 1 ["thing"] (ig K)):Cal P w K mg base "are_stair_places" 3 ["base","step","once","again"] (qz K):=by
 have nd:=(xf).nd;refine D.ok xf (λvs H Q E h=>?_) (λX g H vs Q E h=>?_)
 ·obtain⟨b,s,o,a,q,r,rfl,_⟩:=h;rfl
 ·obtain⟨f,cdv,A,outer,s,H0,E0,rfl,e⟩:=g;obtain⟨b,s',o,a,i,r,rfl,h2,j,hok,q⟩:=h;have hb:=hok.hb;have hs:=hok.hs;refine⟨_,(ai (aZ (PW.pt (cC (bM (aX (ax d e (aa (pv 0) ae)))) (cC (bM (aX (ax d e (aa (pv 1) ae)))) (cC (aM dP (pv 0) af (aJ _)) (cW (aM dP (pv 1) af (aJ _))))))) (ao (aB aT)) aP)
    (ao (aB (cK (ax c e (aa (pv 2) (aa af (aa (pv 0) ae)))) (cS (ax c e (aa (pv 3) (aa (pv 0) (aa (aq aN (pv 0) (pv 1)) ae))))))))),?_⟩
  walk_at"";refine⟨_,"int",rfl,rfl,?_⟩;walk_at"";refine aw ?_;walk_at"";refine⟨_,"int",rfl,rfl,?_⟩;walk_at"";refine aw ?_;walk_at"";rw[Gn (show ¬b<0 by omega)];refine aw ?_;walk_at"";rw[Gn (show ¬s'<1 by omega)];refine aw ?_;walk_at"";refine⟨i,_,_,o,rfl,h2,hok.ho,?_⟩;walk_at"";refine av ?_;walk_at"";exact⟨r,_,_,a,rfl,j,hok.ha,q⟩
inductive lD(K:Fn)(vs:List V)(H:Hp)(Q:VK)(E:XK):Prop|mk:∀v b s o a,vs=[v]->ck H v b s o a->Ok b s o a->Q (.bl true) H->lD K vs H Q E
abbrev qL:Vl:=stq 12
def vE:FnScope ["thing"] ["thing"] (aH qL):=⟨rfl,rfl,rfl,by decide +kernel,rfl,by decide +kernel,by decide +kernel⟩
def DA{P:Vd}{w:Ve}{mg:Vn->Option Va}{base:Vh}(D:Dfn K mg "is_stair" qL ["thing"])(T:Blt mg)(c:Cal P w K mg base "are_stair_places" 3 ["base","step","once","again"] (qz K)):Cal P w K mg base "is_stair" 4 ["thing"] (lD K):=by
 have nd:=(vE).nd;refine D.ok vE (λvs H Q E h=>?_) (λX d H vs Q E h=>?_)
 ·obtain⟨v,b,s,o,a,rfl,_⟩:=h;rfl
 ·obtain⟨f,cdv,A,outer,s,H0,E0,rfl,e⟩:=d;obtain⟨v,b,s',o,a,rfl,⟨p,g,r,rfl,h1,h2,i⟩,hok,q⟩:=h;refine⟨_,(ai (aZ (PW.pt (cC (bM (aX (aU eF rfl T.isinstance_ PyProof.Rows.boot_isinstance (aa (pv 0) (aa (dZ (v:=.ty "tuple") rfl T.tuple_ PyProof.Rows.boot_tuple rfl) ae))))) (cW (aM eO (aU (dh K) rfl T.len_ PySem.boot_len (aa (pv 0) ae)) af (aJ _))))) (ao (aB aT)) aP)
    (ao (aB (ax c e (aa (ah (ay K) (pv 0) af (λ_ _=>rfl)) (aa (ah (ay K) (pv 0) af (λ_ _=>rfl)) (aa (ah (ay K) (pv 0) af (λ_ _=>rfl)) (aa (ah (ay K) (pv 0) af (λ_ _=>rfl)) ae)))))))),?_⟩
  walk_at"";refine eI (n:="tuple") (.inr ⟨rfl,_,h1⟩) (b:=true) rfl ?_;walk_at"";refine aw ?_;walk_at"";refine iB (aj.of h1) ?_;walk_at"";refine aw ?_;walk_at"";refine az (aj.of h1) rfl ?_;walk_at"";refine az (aj.of h1) rfl ?_;walk_at"";refine az (aj.of h1) rfl ?_;walk_at"";refine az (aj.of h1) rfl ?_;walk_at"";exact⟨b,s',o,a,g,r,rfl,h2,i,hok,q⟩
inductive qK(K:Fn)(vs:List V)(H:Hp)(Q:VK)(E:XK):Prop|mk:∀v b s o a,vs=[v]->ck H v b s o a->Ok b s o a->Q .non H->qK K vs H Q E
abbrev nY:Vl:=stq 13
def uF:FnScope ["thing"] ["thing"] (aH nY):=⟨rfl,rfl,rfl,by decide +kernel,rfl,by decide +kernel,by decide +kernel⟩
def Bi{P:Vd}{w:Ve}{mg:Vn->Option Va}{base:Vh}(D:Dfn K mg "refuse_no_stair" nY ["thing"])(T:Blt mg)(c:Cal P w K mg base "is_stair" 4 ["thing"] (lD K)):Cal P w K mg base "refuse_no_stair" 5 ["thing"] (qK K):=by
 have nd:=(uF).nd;refine D.ok uF (λvs H Q E h=>?_) (λX d H vs Q E h=>?_)
 ·obtain⟨v,b,s,o,a,rfl,_⟩:=h;rfl
 ·obtain⟨f,cdv,A,outer,s,H0,E0,rfl,e⟩:=d;obtain⟨v,b,s',o,a,rfl,g,hok,q⟩:=h;refine⟨_,(ao (aZ (bM (aX (ax c e (aa (pv 0) ae)))) (ao i9) aP)),?_⟩;walk_at"";refine⟨v,b,s',o,a,rfl,g,hok,?_⟩;walk_at"";exact aw q
inductive rh(K:Fn)(vs:List V)(H:Hp)(Q:VK)(E:XK):Prop|mk:∀v b s o a,vs=[v]->ck H v b s o a->b<=3000->s<=840->Q .non H->rh K vs H Q E
abbrev qe:Vl:=stq 14
def xc:FnScope ["stair"] ["stair"] (aH qe):=⟨rfl,rfl,rfl,by decide +kernel,rfl,by decide +kernel,by decide +kernel⟩
def Bc{P:Vd}{w:Ve}{mg:Vn->Option Va}{base:Vh}(D:Dfn K mg "refuse_great_stair" qe ["stair"])(T:Blt mg)(c:∃t,mg "GREATEST_STEP" = Vo (.int 840 t))(d:∃t,mg "GREATEST_BASE" = Vo (.int 3000 t)):Cal P w K mg base "refuse_great_stair" 1 ["stair"] (rh K):=by
 have nd:=(xc).nd;refine D.ok xc (λvs H Q E h=>?_) (λX k H vs Q E h=>?_)
 ·obtain⟨v,b,s,o,a,rfl,_⟩:=h;rfl
 ·obtain⟨f,cdv,A,outer,s,H0,E0,rfl,l⟩:=k;obtain⟨i,e⟩:=c;obtain⟨j,g⟩:=d;obtain⟨v,b,s',o,a,rfl,⟨p,m,r,rfl,h1,h2,n⟩,hb,hs,q⟩:=h;refine⟨_,(ai (aZ (aM eG (ah (ay K) (pv 0) af (λ_ _=>rfl)) (fU (v:=.int 3000) rfl g ⟨_,rfl⟩) (aJ _)) (ao i9) aP)
    (ao (aZ (aM eG (ah (ay K) (pv 0) af (λ_ _=>rfl)) (fU (v:=.int 840) rfl e ⟨_,rfl⟩) (aJ _)) (ao i9) aP))),?_⟩
  walk_at"";refine az (aj.of h1) rfl ?_;walk_at"";rw[Gn (show ¬3000<b by omega)];refine aw ?_;walk_at"";refine az (aj.of h1) rfl ?_;walk_at"";rw[Gn (show ¬840<s' by omega)];exact aw q
inductive oZ(K:Fn)(vs:List V)(H:Hp)(Q:VK)(E:XK):Prop|mk:∀v b s o a,vs=[v]->ck H v b s o a->Gd b s o a->Q .non H->oZ K vs H Q E
abbrev mW:Vl:=stq 15
def wW:FnScope ["thing"] ["thing"] (aH mW):=⟨rfl,rfl,rfl,by decide +kernel,rfl,by decide +kernel,by decide +kernel⟩
def EY{P:Vd}{w:Ve}{mg:Vn->Option Va}{base:Vh}(D:Dfn K mg "refuse_bad_stair" mW ["thing"])(T:Blt mg)(c:Cal P w K mg base "refuse_great_stair" 1 ["stair"] (rh K))(d:Cal P w K mg base "refuse_no_stair" 5 ["thing"] (qK K)):Cal P w K mg base "refuse_bad_stair" 6 ["thing"] (oZ K):=by
 have nd:=(wW).nd;refine D.ok wW (λvs H Q E h=>?_) (λX j H vs Q E h=>?_)
 ·obtain⟨v,b,s,o,a,rfl,_⟩:=h;rfl
 ·obtain⟨f,cdv,A,outer,s,H0,E0,rfl,g⟩:=j;obtain⟨v,b,s',o,a,rfl,i,e,q⟩:=h;refine⟨_,(ai (bz (ax d g (aa (pv 0) ae)))
    (ao (bz (ax c g (aa (pv 0) ae))))),?_⟩
  walk_at"";refine⟨v,b,s',o,a,rfl,i,e.ok,?_⟩;walk_at"";exact⟨v,b,s',o,a,rfl,i,e.b3,e.s8,q⟩
def lK(x:Int)(xs:List Int):iY (.int x) (xs.map V.int)=xs.contains x:=by
 unfold iY;rw[List.any_map,F4,F3,List.contains_iff_mem];constructor
 ·rintro⟨y,a,e⟩;have b:(y == x)=true:=e;rw[←(by simpa using b:y=x)];exact a
 ·intro c;exact⟨x,c,by show(x == x)=true;simp⟩
def kR(xs:List Int):(xs.map V.int).all eV=true:=by rw[List.all_map,F0];intro x _;rfl
inductive j6(K:Fn)(vs:List V)(H:Hp)(Q:VK)(E:XK):Prop|mk:∀v x b s o a,vs=[v,.int x]->ck H v b s o a->Gd b s o a->Q (.bl (mem b s o a x)) H->j6 K vs H Q E
abbrev qS:Vl:=stq 19
def vc:FnScope ["stair","x","base"] ["stair","x"] (aH qS):=⟨rfl,rfl,rfl,by decide +kernel,rfl,by decide +kernel,by decide +kernel⟩
def Dv{P:Vd}{w:Ve}{mg:Vn->Option Va}{base:Vh}(D:Dfn K mg "holds" qS ["stair","x"])(T:Blt mg)(c:Cal P w K mg base "refuse_bad_stair" 6 ["thing"] (oZ K)):Cal P w K mg base "holds" 7 ["stair","x"] (j6 K):=by
 have nd:=(vc).nd;refine D.ok vc (λvs H Q E h=>?_) (λX j H vs Q E h=>?_)
 ·obtain⟨v,x,b,s,o,a,rfl,_⟩:=h;rfl
 ·obtain⟨f,cdv,A,outer,s,H0,E0,rfl,k⟩:=j;obtain⟨v,x,b,s',o,a,rfl,e,g,q⟩:=h;have hs:=g.ok.hs;refine⟨_,(ai (bz (ax c k (aa (pv 0) ae)))
    (ai (aC (i:=2) nd rfl (Or.inl rfl) (ah (ay K) (pv 0) af (λ_ _=>rfl)))
    (ai (aZ (aM dP (pv 1) (pv 2) (aJ _)) (ao (aB (dz (lB K) (pv 1) (ah (ay K) (pv 0) af (λ_ _=>rfl)) (by with_unfolding_all rfl)))) aP)
    (ao (aB (dz (lB K) (aq aN (pv 2) (aq bW (aq cG (pv 1) (pv 2)) (ah (ay K) (pv 0) af (λ_ _=>rfl)))) (ah (ay K) (pv 0) af (λ_ _=>rfl)) (by with_unfolding_all rfl))))))),?_⟩
  walk_at"";refine⟨v,b,s',o,a,rfl,e,g,?_⟩;obtain⟨p,m,r,rfl,h1,h2,l⟩:=e;walk_at"";refine az (aj.of h1) rfl ?_;walk_at"";by_cases d:x<b
  ·rw[Gp d];refine av ?_;walk_at"";refine az (aj.of h1) rfl ?_;walk_at"";refine kh (.inr (aj.of h2)) rfl (kR o) ?_;rw[kZ _ d]at q;rw[lK];exact q
  ·rw[Gn d];refine aw ?_;walk_at"";refine az (aj.of h1) rfl ?_;walk_at"";refine az (aj.of h1) rfl ?_;walk_at"";refine kh (.inr (aj.of l)) rfl (kR a) ?_;rw[iO _ (by omega)]at q;rw[lK];exact q
def uI{x n s:Int}(hs:1<=s){i:Nat}(h:i<eh x n s):x+i*s<n:=by
 unfold eh at h;rw[Gr (by omega)]at h;split at h
 ·have h1:(i:Int)<=(n-x-1) / s:=by have:0<=(n-x-1) / s:=Int.ediv_nonneg (by omega) (by omega);omega
  have h2:(i:Int)*s<=(n-x-1) / s*s:=Int.mul_le_mul_of_nonneg_right h1 (by omega);have a:=Int.ediv_mul_le (n-x-1) (b:=s) (by omega);omega
 ·omega
def CP{x n s y:Int}(hs:1<=s)(h1:x<=y)(h2:y<n)(a:(y-x) % s=0):∃i:Nat,i<eh x n s/\y=x+i*s:=by
 have b:=Int.mul_ediv_add_emod (y-x) s;rw[a]at b;have c:0<=(y-x) / s:=Int.ediv_nonneg (by omega) (by omega);refine⟨((y-x) / s).toNat,?_,?_⟩
 ·unfold eh;rw[Gr (by omega),Gr (by omega)];have:(y-x) / s<=(n-x-1) / s:=Int.ediv_le_ediv (by omega) (by omega);omega
 ·rw[FG c,Int.mul_comm];omega
def fg(s:Int)(o a:List Int)(y:Nat):Bool:=o.contains (y:Int) || a.any λx=>decide (x<=(y:Int)) && ((y:Int)-x) % s == 0
def wD{b s:Int}{o a:List Int}(S:Ok b s o a)(y:Nat):fg s o a y=fn b s o a y:=yI S (by omega)
inductive m6(K:Fn)(vs:List V)(H:Hp)(Q:VK)(E:XK):Prop|mk:∀v n b s o a,vs=[v,.int n]->ck H v b s o a->Gd b s o a->0<=n->n<=20000->(∀q H',Ext H H'->H q=Vp->H' q=Vo (.lst (aL n.toNat (fn b s o a)))->Q (.ref q) H')->m6 K vs H Q E
abbrev qZ:Vl:=stq 16
def xw:FnScope ["stair","end","marks","number","later"] ["stair","end"] (aH qZ):=⟨rfl,rfl,rfl,by decide +kernel,rfl,by decide +kernel,by decide +kernel⟩
def Ar{P:Vd}{w:Ve}{mg:Vn->Option Va}{base:Vh}(D:Dfn K mg "marks_below" qZ ["stair","end"])(T:Blt mg):Cal P w K mg base "marks_below" 1 ["stair","end"] (m6 K):=by
 have nd:=(xw).nd;refine D.ok xw (λvs H Q E h=>?_) (λX hX H vs Q E h=>?_)
 ·obtain⟨v,n,b,s,o,a,rfl,_⟩:=h;rfl
 ·obtain⟨f,cdv,A,outer,s,H0,E0,rfl,hr⟩:=hX;obtain⟨v,n,b,s',o,a,rfl,hv,B,a4,a5,q⟩:=h;obtain⟨p,q',r,rfl,h1,h2,h3⟩:=hv;have hs:=B.ok.hs;have a6:=B.s8;have a7:=B.ok.hb;have a8:=B.b3;refine⟨_,(ai (aC (i:=2) nd rfl (Or.inl rfl) (aq iZ (bo (aa aT ae)) (pv 1)))
    (ai (bq PassesOwn.never rfl (ft K (ah (ay K) (pv 0) af (λ_ _=>rfl))) (aA (i:=3) nd rfl (Or.inl rfl)) (ao (cF (aM dP (pv 3) (pv 1) (aJ _)) (ao (dE aT (fu (pv 2) (pv 3) set_list))) aP)))
    (ai (bq PassesOwn.never rfl (ft K (ah (ay K) (pv 0) af (λ_ _=>rfl))) (aA (i:=3) nd rfl (Or.inl rfl)) (ao (bq PassesOwn.never rfl (vp rfl T.range_ (aa (pv 3) (aa (pv 1) (aa (ah (ay K) (pv 0) af (λ_ _=>rfl)) ae)))) (aA (i:=4) nd rfl (Or.inl rfl)) (ao (dE aT (fu (pv 2) (pv 4) set_list))))))
    (ao (aB (pv 2)))))),?_⟩
  walk_at"";refine aK λm H1 e1 hm _=>?_;walk_at"";refine iH hm (by omega) (bw (by simp;omega)) (bL λl H2 e2 G N=>?_);rw[jU]at G;have C:Ext H H2:=e1.trans e2;have F:H l=Vp:=e1.none N;walk_at"";refine az (aj.of (C _ _ h1)) rfl ?_;walk_at"";refine eT (aj.of (C _ _ h2)) ?_;refine gK (xs:=o.map V.int) (λi σ H'=>Ext H H'/\∃x,σ=[Vo (.ref p),Vo (.int n),Vo (.ref l),x,Vp]/\H' l=Vo (.lst (aL n.toNat λy=>(o.take i).contains (y:Int))))
   ⟨C,Vp,rfl,by simpa using G⟩ (λi σ H' _ h=>aj.of (h.1 _ _ h2)) ?_ ?_
  ·rintro i v' σ H' hi ⟨e,x,rfl,u⟩;obtain⟨z,rfl,I⟩:=fb hi;have O:=(B.ok.ho.2 z (FC I));have c:o.take (i+1)=o.take i++[z]:=by rw[List.take_add_one,I];rfl
   walk_at"";refine eZ (λR H'=>Ext H H'/\∃x,R=[Vo (.ref p),Vo (.int n),Vo (.ref l),x,Vp]/\H' l=Vo (.lst (aL n.toNat λy=>(o.take (i+1)).contains (y:Int)))) ?_ (λ_ _ h=>h);walk_at"";by_cases J:z<n
   ·rw[Gp J];refine av ?_;walk_at"";refine fI u (fB (by omega) (by rw[bS];omega)) ?_;rw[gr _ _ (by omega)];refine⟨cA e F,_,rfl,?_⟩;rw[aI];congr 2;refine bY λy S=>?_;rw[c,List.contains_append];by_cases d:y=z.toNat
    ·rw[Gr d];have:(y:Int)=z:=by omega
     rw[this];simp
    ·rw[Gq d];have:[z].contains (y:Int)=false:=by rw[Bool.eq_false_iff];intro U;rw[List.contains_iff_mem,FD]at U;omega
     rw[this,Bool.or_false]
   ·rw[Gn J];refine aw ?_;walk_at"";refine⟨e,_,rfl,?_⟩;rw[u];congr 2;refine bY λy S=>?_;rw[c,List.contains_append];have:[z].contains (y:Int)=false:=by rw[Bool.eq_false_iff];intro U;rw[List.contains_iff_mem,FD]at U;omega
    rw[this,Bool.or_false]
  ·rintro σ H3 ⟨W,x,rfl,L⟩;rw[Fs,FW]at L;walk_at"";refine az (aj.of (W _ _ h1)) rfl ?_;walk_at"";refine eT (aj.of (W _ _ h3)) ?_;refine gK (xs:=a.map V.int) (λi σ H'=>Ext H H'/\∃x y,σ=[Vo (.ref p),Vo (.int n),Vo (.ref l),x,y]/\H' l=Vo (.lst (aL n.toNat (fg s' o (a.take i)))))
    ⟨W,_,_,rfl,by rw[L];congr 2;exact bY λy _=>by simp[fg]⟩ (λi σ H' _ h=>aj.of (h.1 _ _ h3)) ?_ ?_
   ·rintro i v' σ H' hi ⟨e,x,y,rfl,u⟩;obtain⟨z,rfl,I⟩:=fb hi;have O:=(B.ok.ha.2 z (FC I));have c:a.take (i+1)=a.take i++[z]:=by rw[List.take_add_one,I];rfl
    walk_at"";refine az (aj.of (e _ _ h1)) rfl ?_;walk_at"";refine vF (by unfold g9;omega) ?_;refine sX (λj σ H'=>Ext H H'/\∃y,σ=[Vo (.ref p),Vo (.int n),Vo (.ref l),Vo (.int z),y]/\H' l=Vo (.lst (aL n.toNat λy=>fg s' o (a.take i) y || (Gm j).any λk=>decide ((y:Int)=z+(k:Nat)*s'))))
     ⟨e,_,rfl,by rw[u];congr 2;exact bY λy _=>by simp⟩ ?_ ?_
    ·rintro j σ Y hj ⟨Z,y',rfl,g⟩;have hlt:=uI hs hj;have hge:0<=(j:Int)*s':=Int.mul_nonneg (by omega) (by omega);walk_at"";refine fI g (fB (by omega) (by rw[bS];omega)) ?_;rw[gr _ _ (by omega)];refine⟨cA Z F,_,rfl,?_⟩;rw[aI];congr 2;refine bY λy S=>?_;rw[List.range_succ,List.any_append];by_cases d:y=(z+(j:Int)*s').toNat
     ·rw[Gr d];have:(y:Int)=z+(j:Nat)*s':=by omega
      simp[this]
     ·rw[Gq d];have:(List.any [j] λk=>decide ((y:Int)=z+(k:Nat)*s'))=false:=by simp;omega
      rw[this,Bool.or_false]
    ·rintro σ Y ⟨Z,y',rfl,g⟩;refine⟨Z,_,_,rfl,?_⟩;rw[g];congr 2;refine bY λy S=>?_;rw[c];unfold fg;rw[List.any_append,Bool.or_assoc];congr 2;rw[F4,F3];simp only[List.mem_range,decide_eq_true_eq,List.any_cons,List.any_nil,Bool.or_false,F5,beq_iff_eq];constructor
     ·rintro⟨k,hk,a9⟩;have hge:0<=(k:Int)*s':=Int.mul_nonneg (by omega) (by omega);refine⟨by omega,?_⟩;rw[show (y:Int)-z=s'*(k:Int) by rw[Int.mul_comm];omega];exact Int.mul_emod_right _ _
     ·rintro⟨a0,a1⟩;obtain⟨k,a2,a3⟩:=CP (n:=n) hs a0 (by omega) a1;exact⟨k,a2,a3⟩
   ·rintro σ H4 ⟨e4,x',y',rfl,M⟩;rw[Fs,FW]at M;walk_at"";refine q l H4 e4 F ?_;rw[M];congr 2;exact bY λy _=>wD B.ok y
inductive mh(K:Fn)(vs:List V)(H:Hp)(Q:VK)(E:XK):Prop|mk:∀a b:Nat,vs=[.int a,.int b]->Q (.int (Nat.gcd a b:Nat)) H->mh K vs H Q E
abbrev m8:Vl:=stq 58
def vS:FnScope ["one","other","great","small","over"] ["one","other"] (aH m8):=⟨rfl,rfl,rfl,by decide +kernel,rfl,by decide +kernel,by decide +kernel⟩
def zl{P:Vd}{w:Ve}{mg:Vn->Option Va}{base:Vh}(D:Dfn K mg "greatest_divisor" m8 ["one","other"])(T:Blt mg):Cal P w K mg base "greatest_divisor" 1 ["one","other"] (mh K):=by
 have nd:=(vS).nd;refine D.ok vS (λvs H Q E h=>?_) (λX e H vs Q E h=>?_)
 ·obtain⟨a,b,rfl,_⟩:=h;rfl
 ·obtain⟨f,cdv,A,outer,s,H0,E0,rfl,j⟩:=e;obtain⟨a,b,rfl,q⟩:=h;refine⟨_,(ai (aC (i:=2) nd rfl (Or.inl rfl) (pv 0))
    (ai (aC (i:=3) nd rfl (Or.inl rfl) (pv 1))
    (ai (fF PassesOwn.never (aM eG (pv 3) af (aJ _)) (ai (aC (i:=4) nd rfl (Or.inl rfl) (aq bW (pv 2) (pv 3)))
    (ai (aC (i:=2) nd rfl (Or.inl rfl) (pv 3))
    (ao (aC (i:=3) nd rfl (Or.inl rfl) (pv 4))))))
    (ao (aB (pv 2)))))),?_⟩
  walk_at"";refine fE (λm σ H'=>H'=H/\∃(x y:Nat) (o:Option V),σ=[Vo (.int a),Vo (.int b),Vo (.int x),Vo (.int y),o]/\Nat.gcd x y=Nat.gcd a b/\m=y)
   (λσ H'=>H'=H/\∃(x:Nat) (s:St),σ=Vo (.int a)::Vo (.int b)::Vo (.int x)::s/\x=Nat.gcd a b) b ⟨rfl,a,b,Vp,rfl,rfl,rfl⟩ ?_ ?_
  ·rintro m σ H' ⟨rfl,x,y,o,rfl,c,rfl⟩;walk_at"";by_cases d:(0:Int)<(m:Int)
   ·rw[Gp d];refine av ⟨_,λ_ _ h=>h,?_⟩;walk_at"";refine⟨x % m,Nat.mod_lt _ (by omega),rfl,m,x % m,_,rfl,by rw[zH,c],rfl⟩
   ·rw[Gn d];have g:m=0:=by omega
    subst g;exact aw ⟨rfl,x,_,rfl,by rw[←c,Nat.gcd_zero_right]⟩
  rintro σ H' ⟨rfl,x,s1,rfl,rfl⟩;walk_at"";exact q
def SN(H:Hp)(v:V)(b s:Nat)(o a:List Int):Prop:=ck H v b s o a/\Gd b s o a
theorem SN.ext{H H':Hp}(e:Ext H H'){v:V}{b s:Nat}{o a:List Int}(h:SN H v b s o a):SN H' v b s o a:=⟨h.1.ext e,h.2⟩
def SN.s1{H:Hp}{v:V}{b s:Nat}{o a:List Int}(h:SN H v b s o a):1<=s:=by have:=h.2.ok.hs;omega
theorem SN.s8{H:Hp}{v:V}{b s:Nat}{o a:List Int}(h:SN H v b s o a):s<=840:=by have:=h.2.s8;omega
theorem SN.b3{H:Hp}{v:V}{b s:Nat}{o a:List Int}(h:SN H v b s o a):b<=3000:=by have:=h.2.b3;omega
inductive kN(K:Fn)(vs:List V)(H:Hp)(Q:VK)(E:XK):Prop|mk:∀v1 v2 a s1 o1 a1 b s2 c a2,vs=[v1,v2]->SN H v1 a s1 o1 a1->SN H v2 b s2 c a2->Q (.int (cm s1 s2:Nat)) H->kN K vs H Q E
abbrev q9:Vl:=stq 59
def vH:FnScope ["one","other"] ["one","other"] (aH q9):=⟨rfl,rfl,rfl,by decide +kernel,rfl,by decide +kernel,by decide +kernel⟩
def y8{P:Vd}{w:Ve}{mg:Vn->Option Va}{base:Vh}(D:Dfn K mg "common_step" q9 ["one","other"])(T:Blt mg)(a:Cal P w K mg base "greatest_divisor" 1 ["one","other"] (mh K)):Cal P w K mg base "common_step" 2 ["one","other"] (kN K):=by
 have nd:=(vH).nd;refine D.ok vH (λvs H Q E h=>?_) (λX c H vs Q E h=>?_)
 ·obtain⟨v1,v2,d,s1,o1,a1,g,s2,i,a2,rfl,_⟩:=h;rfl
 ·obtain⟨f,cdv,A,outer,s,H0,E0,rfl,j⟩:=c;obtain⟨v1,v2,d,s1,o1,a1,g,s2,i,a2,rfl,h1,h2,q⟩:=h;have b:=h1.s1;have l:=h1.s8;have m:=h2.s1;have n:=h2.s8;obtain⟨⟨o,p,r1,rfl,k1,_,_⟩,_⟩:=h1;obtain⟨⟨p2,r,u,rfl,k2,_,_⟩,_⟩:=h2;refine⟨_,(ao (aB (aq eE (aq lT (ah (ay K) (pv 0) af (λ_ _=>rfl)) (ax a j (aa (ah (ay K) (pv 0) af (λ_ _=>rfl)) (aa (ah (ay K) (pv 1) af (λ_ _=>rfl)) ae)))) (ah (ay K) (pv 1) af (λ_ _=>rfl))))),?_⟩;walk_at"";refine az (aj.of k1) rfl ?_;walk_at"";refine az (aj.of k1) rfl ?_;walk_at"";refine az (aj.of k2) rfl ?_;walk_at"";refine⟨s1,s2,rfl,?_⟩;have v:0<Nat.gcd s1 s2:=Nat.gcd_pos_of_pos_left s2 b;have k:Nat.gcd s1 s2<=s1:=Nat.le_of_dvd b (Nat.gcd_dvd_left s1 s2);refine rd_I (show(0:Int)<((Nat.gcd s1 s2:Nat):Int)/\((Nat.gcd s1 s2:Nat):Int)<2 ^ 64 by omega) ?_;walk_at"";refine az (aj.of k2) rfl ?_;refine rd_I (show iF _ _ from .inr (by omega)) ?_;have e:((s1:Int) / ((Nat.gcd s1 s2:Nat):Int))*(s2:Int)=((cm s1 s2:Nat):Int):=by unfold cm;rw[Int.natCast_mul];rfl
  rw[e];exact q
def Fc{b s:Nat}{o a:List Int}(g:Gd b s o a):aS (fn b s o a) b s:=by have:=zE g.ok;simpa using this
structure StT where
 b:Nat
 s:Nat
 o:List Int
 a:List Int
abbrev StT.f(t:StT):Nat->Bool:=fn t.b t.s t.o t.a
abbrev dg(H:Hp)(v:V)(t:StT):Prop:=SN H v t.b t.s t.o t.a
abbrev cE(H:Hp)(vs:List V)(ts:List StT):Prop:=Paired (dg H) vs ts
theorem cE.ext{H H':Hp}(e:Ext H H'):∀{vs:List V} {ts:List StT},cE H vs ts->cE H' vs ts
 | _,_,.nil=>.nil
 | _,_,.cons h t=>.cons (h.ext e) (cE.ext e t)
theorem cE.len{H:Hp}:∀{vs:List V} {ts:List StT},cE H vs ts->vs.length=ts.length
 | _,_,.nil=>rfl
 | _,_,.cons _ t=>by rw[FV,FV,cE.len t]
inductive qH(K:Fn)(vs:List V)(H:Hp)(Q:VK)(E:XK):Prop|mk:∀v t,vs=[v]->dg H v t->Q (.bl true) H->qH K vs H Q E
abbrev oP:Vl:=stq 61
def vk:FnScope ["thing"] ["thing"] (aH oP):=⟨rfl,rfl,rfl,by decide +kernel,rfl,by decide +kernel,by decide +kernel⟩
def EV{P:Vd}{w:Ve}{mg:Vn->Option Va}{base:Vh}(D:Dfn K mg "is_near_stair" oP ["thing"])(T:Blt mg)(a:∃t,mg "GREATEST_STEP" = Vo (.int 840 t))(c:∃t,mg "GREATEST_BASE" = Vo (.int 3000 t))(g:Cal P w K mg base "is_stair" 4 ["thing"] (lD K)):Cal P w K mg base "is_near_stair" 5 ["thing"] (qH K):=by
 have nd:=(vk).nd;refine D.ok vk (λvs H Q E h=>?_) (λX m H vs Q E h=>?_)
 ·obtain⟨v,t,rfl,_⟩:=h;rfl
 ·obtain⟨f,cdv,A,outer,s,H0,E0,rfl,n⟩:=m;obtain⟨i,d⟩:=a;obtain⟨j,e⟩:=c;obtain⟨v,t,rfl,k,q⟩:=h;have o:=k.2.b3;have r:=k.2.s8;obtain⟨p,_,_,rfl,l,_,_⟩:=id k.1;refine⟨_,(ao (aB (cK (ax g n (aa (pv 0) ae)) (cK (dz fN (ah (ay K) (pv 0) af (λ_ _=>rfl)) (fU (v:=.int 3000) rfl e ⟨_,rfl⟩) (aJ _)) (cS (dz fN (ah (ay K) (pv 0) af (λ_ _=>rfl)) (fU (v:=.int 840) rfl d ⟨_,rfl⟩) (aJ _))))))),?_⟩;walk_at"";refine⟨_,_,_,_,_,rfl,k.1,k.2.ok,?_⟩;refine rd_exb (av ?_);walk_at"";refine az (aj.of l) (v:=.int (t.b:Nat)) rfl ?_;walk_at"";rw[Gp o];refine av ?_;walk_at"";refine az (aj.of l) (v:=.int (t.s:Nat)) rfl ?_;walk_at"";rw[Gp r];exact q
def steps(ts:List StT):Prop:=∀x∈ts,∀y∈ts,cm x.s y.s<=840
def BP(n:Nat):(Gb n false).any id=false:=by
 induction n with
 | zero=>rfl
 | succ n a=>rw[List.replicate_succ,List.any_cons,a];rfl
def xo(n:Nat):(Gb n true).all id=true:=by
 induction n with
 | zero=>rfl
 | succ n a=>rw[List.replicate_succ,List.all_cons,a];rfl
def ny(n:Nat)(c:Bool):(Gb n c).map V.bl++[V.bl c]=(Gb (n+1) c).map V.bl:=by rw[List.replicate_succ',FJ];rfl
inductive o8(K:Fn)(vs:List V)(H:Hp)(Q:VK)(E:XK):Prop|mk:∀l xs ts,vs=[.ref l]->H l=Vo (.lst xs)->cE H xs ts->xs.length<=1000->steps ts->(∀H',Ext H H'->Q (.bl true) H')->o8 K vs H Q E
abbrev mZ:Vl:=stq 62
def uR:FnScope ["stairs","one"] ["stairs"] (aH mZ):=⟨rfl,rfl,rfl,by decide +kernel,rfl,by decide +kernel,by decide +kernel⟩
def AM{P:Vd}{w:Ve}{mg:Vn->Option Va}{base:Vh}(D:Dfn K mg "are_near_steps" mZ ["stairs"])(T:Blt mg)(c:∃t,mg "GREATEST_STEP" = Vo (.int 840 t))(e:Cal P w K mg base "common_step" 2 ["one","other"] (kN K)):Cal P w K mg base "are_near_steps" 3 ["stairs"] (o8 K):=by
 have nd:=(uR).nd;refine D.ok uR (λvs H Q E h=>?_) (λX B H vs Q E h=>?_)
 ·obtain⟨l,xs,ts,rfl,_⟩:=h;rfl
 ·obtain⟨f,cdv,A,outer,s,H0,E0,rfl,C⟩:=B;obtain⟨g,d⟩:=c;obtain⟨l,xs,ts,rfl,r,hs,M,hst,q⟩:=h;refine⟨_,(ai (bq PassesOwn.never rfl (bP K (pv 0)) (aA (i:=1) nd rfl (Or.inr rfl)) (ao (aZ (aX (aU (ki K rfl) rfl T.any_ PyProof.Rows.boot_any (aa (bK ["other"] [1] (bP K (pv 0)) (λ_=>(aA (i:=0) (show(["other","one"]:List Vn).Nodup from by decide +kernel) rfl (Or.inl rfl) (Or.inr rfl))) (λ_=>cn) (λ_=>(dz eG (ax e C (aa (pv 1) (aa (pv 0) ae))) (fU (v:=.int 840) rfl d ⟨_,rfl⟩) (aJ _)))) ae))) (ao (aB aT)) aP)))
    (ao (aB aT))),?_⟩
  walk_at"";refine bN (ag.of r) ?_;refine forL (xs:=xs) (λi σ H'=>Ext H H'/\∃w,σ=[Vo (.ref l),w]) ⟨Ext.rfl' _,_,rfl⟩ (λi σ H' _ h=>ag.of (h.1 _ _ r)) ?_ ?_
  ·rintro i v σ H1 F ⟨u,w,rfl⟩;obtain⟨t,G,x⟩:=cg hs F;walk_at"";refine bN (ag.of (u _ _ r)) ?_;refine dn (xs:=xs) (λj ys H'=>Ext H H'/\ys=(Gb j false).map V.bl) (dy (by omega)) ⟨u,rfl⟩ (λj ys H' _ h=>⟨ag.of (h.1 _ _ r),by rw[h.2,Fs,List.length_replicate];exact FN _⟩) ?_ ?_
   ·rintro j I ys H2 y ⟨m,rfl⟩;obtain⟨k,z,n⟩:=cg hs y;have N:=hst t (FC G) k (FC z);walk_at"";refine av ?_;walk_at"";refine⟨v,I,t.b,t.s,t.o,t.a,k.b,k.s,k.o,k.a,rfl,x.ext m,n.ext m,?_⟩;walk_at"";rw[Gn (show ¬(840:Int)<((cm t.s k.s:Nat):Int) by omega)];exact⟨m,ny j false⟩
   ·rintro ys H2 p ⟨m,rfl⟩ J;have L:=m.trans (aV (o:=.lst ((Gb xs.length false).map V.bl)) J);walk_at"";refine⟨p,_,rfl,ag.of aI,?_⟩;refine⟨_,rfl,?_⟩;rw[BP];refine aw ?_;walk_at"";exact⟨L,_,rfl⟩
  ·rintro σ H1 ⟨u,w,rfl⟩;walk_at"";exact q H1 u
def ie(H:Hp)(m:Int)(tv:V)(ts:List StT):Prop:=∃l xs,tv=.ref l/\H l=Vo (.lst xs)/\xs.length<=1000/\(xs.length:Int)=m/\cE H xs ts/\steps ts
theorem ie.ext{H H':Hp}(e:Ext H H'){m:Int}{tv:V}{ts:List StT}(h:ie H m tv ts):ie H' m tv ts:=by obtain⟨l,xs,rfl,a,h⟩:=h;exact⟨l,xs,rfl,e _ _ a,h.1,h.2.1,h.2.2.1.ext e,h.2.2.2⟩
inductive pj(K:Fn)(vs:List V)(H:Hp)(Q:VK)(E:XK):Prop|mk:∀a b m tv ts,vs=[.ref a,tv]->H a=Vo (.tup [.int m,b])->ie H m tv ts->(∀H',Ext H H'->Q (.bl true) H')->pj K vs H Q E
abbrev qA:Vl:=stq 63
def v9:FnScope ["house","thing"] ["house","thing"] (aH qA):=⟨rfl,rfl,rfl,by decide +kernel,rfl,by decide +kernel,by decide +kernel⟩
def yJ{P:Vd}{w:Ve}{mg:Vn->Option Va}{base:Vh}(D:Dfn K mg "are_stairs_for" qA ["house","thing"])(T:Blt mg)(a:Cal P w K mg base "are_near_steps" 3 ["stairs"] (o8 K))(c:Cal P w K mg base "is_near_stair" 5 ["thing"] (qH K)):Cal P w K mg base "are_stairs_for" 6 ["house","thing"] (pj K):=by
 have nd:=(v9).nd;refine D.ok v9 (λvs H Q E h=>?_) (λX u H vs Q E h=>?_)
 ·obtain⟨x,y,m,tv,ts,rfl,_⟩:=h;rfl
 ·obtain⟨f,cdv,A,outer,s,H0,E0,rfl,r⟩:=u;obtain⟨x,y,m,tv,ts,rfl,z,⟨l,xs,rfl,d,hlen,B,hs,hst⟩,q⟩:=h;refine⟨_,(ai (aZ (PW.pt (cC (bM (aX (aU eF rfl T.isinstance_ PyProof.Rows.boot_isinstance (aa (pv 1) (aa (dZ (v:=.ty "list") rfl T.list_ PyProof.Rows.boot_list rfl) ae))))) (cW (aM eO (aU (dh K) rfl T.len_ PySem.boot_len (aa (pv 1) ae)) (ah (ay K) (pv 0) af (λ_ _=>rfl)) (aJ _))))) (ao (aB aT)) aP)
    (ao (aB (cK (aU (og K rfl) rfl T.all_ PyProof.Rows.boot_all (aa (bK ["stair"] [] (bP K (pv 1)) (λ_=>(aA (i:=0) (show(["stair"]:List Vn).Nodup from by decide +kernel) rfl (Or.inl rfl) (Or.inr rfl))) (λ_=>cn) (λ_=>(ax c r (aa (pv 0) ae)))) ae)) (cS (ax a r (aa (pv 1) ae))))))),?_⟩
  walk_at"";refine eI (n:="list") (.inl ⟨rfl,xs,d⟩) (b:=true) rfl ?_;walk_at"";refine aw ?_;walk_at"";refine fK (ag.of d) ?_;walk_at"";refine az (aj.of z) (v:=.int m) rfl ?_;walk_at"";rw[Gp B];refine aw ?_;walk_at"";refine bN (ag.of d) ?_;refine dn (xs:=xs) (λj ys H'=>H'=H/\ys=(Gb j true).map V.bl) (dy (by omega)) ⟨rfl,rfl⟩ (λj ys H' _ h=>⟨by rw[h.1];exact ag.of d,by rw[h.2,Fs,List.length_replicate];exact FN _⟩) ?_ ?_
  ·rintro j v ys H2 C ⟨rfl,rfl⟩;obtain⟨t,_,F⟩:=cg hs C;walk_at"";refine av ?_;walk_at"";exact⟨v,t,rfl,F,rfl,ny j true⟩
  ·rintro ys H2 p ⟨G,rfl⟩ g;subst G;have k:=aV (o:=.lst ((Gb xs.length true).map V.bl)) g;walk_at"";refine⟨p,_,rfl,ag.of aI,?_⟩;rw[xo];refine rd_exb (av ?_);walk_at"";exact⟨l,xs,ts,rfl,k _ _ d,hs.ext k,hlen,hst,λH' e=>q H' (k.trans e)⟩
inductive ml(K:Fn)(vs:List V)(H:Hp)(Q:VK)(E:XK):Prop|mk:∀p x a b m,vs=[.ref p,.ref a]->aO H p x->H a=Vo (.tup [.int m,b])->dU m x->Q (.bl true) H->ml K vs H Q E
abbrev m5:Vl:=stq 33
def vx:FnScope ["thing","house"] ["thing","house"] (aH m5):=⟨rfl,rfl,rfl,by decide +kernel,rfl,by decide +kernel,by decide +kernel⟩
def Ep{P:Vd}{w:Ve}{mg:Vn->Option Va}{base:Vh}(D:Dfn K mg "is_near_place" m5 ["thing","house"])(T:Blt mg)(a:∃t,mg "GREATEST_NUMBER" = Vo (.int 1000 t))(d:Cal P w K mg base "is_whole" 1 ["thing"] (ig K))(e:Cal P w K mg base "is_room" 2 ["thing","many"] (jF K)):Cal P w K mg base "is_near_place" 3 ["thing","house"] (ml K):=by
 have nd:=(vx).nd;refine D.ok vx (λvs H Q E h=>?_) (λX k H vs Q E h=>?_)
 ·obtain⟨p,x,l,o,m,rfl,_⟩:=h;rfl
 ·obtain⟨f,cdv,A,outer,s,H0,E0,rfl,j⟩:=k;obtain⟨g,c⟩:=a;obtain⟨p,x,l,o,m,rfl,i,r,⟨x0,x1,u,y⟩,q⟩:=h;refine⟨_,(ai (aZ (PW.pt (cC (bM (aX (aU eF rfl T.isinstance_ PyProof.Rows.boot_isinstance (aa (pv 0) (aa (dZ (v:=.ty "tuple") rfl T.tuple_ PyProof.Rows.boot_tuple rfl) ae))))) (cW (aM eO (aU (dh K) rfl T.len_ PySem.boot_len (aa (pv 0) ae)) af (aJ _))))) (ao (aB aT)) aP)
    (ao (aB (cK (ax e j (aa (ah (ay K) (pv 0) af (λ_ _=>rfl)) (aa (ah (ay K) (pv 1) af (λ_ _=>rfl)) ae))) (cK (ax d j (aa (ah (ay K) (pv 0) af (λ_ _=>rfl)) ae)) (cS (kz fN fN af (ah (ay K) (pv 0) af (λ_ _=>rfl)) (fU (v:=.int 1000) rfl c ⟨_,rfl⟩)))))))),?_⟩
  walk_at"";refine eI (n:="tuple") (.inr ⟨rfl,_,i⟩) (b:=true) rfl ?_;walk_at"";refine aw ?_;walk_at"";refine iB (aj.of i) ?_;walk_at"";refine aw ?_;walk_at"";refine az (aj.of i) (v:=.int x.1) rfl ?_;walk_at"";refine az (aj.of r) (v:=.int m) rfl ?_;walk_at"";refine⟨_,_,rfl,x0,x1,?_⟩;walk_at"";refine av ?_;walk_at"";refine az (aj.of i) (v:=.int x.2) rfl ?_;walk_at"";refine⟨_,"int",rfl,rfl,?_⟩;walk_at"";refine av ?_;walk_at"";refine az (aj.of i) (v:=.int x.2) rfl ?_;walk_at"";rw[Gp u];refine av ?_;walk_at"";rw[Gp y];exact q
inductive ju(K:Fn)(vs:List V)(H:Hp)(Q:VK)(E:XK):Prop|mk:∀v x b s o a,vs=[v,.int x]->ck H v b s o a->Gd b s o a->Q (.bl (mem b s o a x)) H->ju K vs H Q E
abbrev nQ:Vl:=stq 77
def xi:FnScope ["_law_stair","_law_x","_law_base","_law_step","_law_once","_law_again"] ["_law_stair","_law_x"] (aH nQ):=⟨rfl,rfl,rfl,by decide +kernel,rfl,by decide +kernel,by decide +kernel⟩
def EL{P:Vd}{w:Ve}{mg:Vn->Option Va}{base:Vh}(D:Dfn K mg "_law_holds" nQ ["_law_stair","_law_x"])(T:Blt mg):Cal P w K mg base "_law_holds" 1 ["_law_stair","_law_x"] (ju K):=by
 have nd:=(xi).nd;refine D.ok xi (λvs H Q E h=>?_) (λX d H vs Q E h=>?_)
 ·obtain⟨v,x,b,s,o,a,rfl,_⟩:=h;rfl
 ·obtain⟨f,cdv,A,outer,s,H0,E0,rfl,k⟩:=d;obtain⟨v,x,b,s',o,a,rfl,e,g,q⟩:=h;have hs:=g.ok.hs;obtain⟨p,l,r,rfl,h1,h2,j⟩:=e;refine⟨_,(ai (dE (pv 0) (dS (n:=4) K rfl (bp (aA (i:=2) nd rfl (Or.inl rfl)) (bp (aA (i:=3) nd rfl (Or.inl rfl)) (bp (aA (i:=4) nd rfl (Or.inl rfl)) (bp (aA (i:=5) nd rfl (Or.inl rfl)) dC))))))
    (ai (aZ (aM dP (pv 1) (pv 2) (aJ _)) (ao (aB (dz (lB K) (pv 1) (pv 4) (by with_unfolding_all rfl)))) aP)
    (ao (aB (dz (lB K) (aq aN (pv 2) (aq bW (aq cG (pv 1) (pv 2)) (pv 3))) (pv 5) (by with_unfolding_all rfl)))))),?_⟩
  walk_at"";refine dH (aj.of h1) rfl ?_;walk_at"";by_cases c:x<b
  ·rw[Gp c];refine av ?_;walk_at"";refine kh (.inr (aj.of h2)) rfl (kR o) ?_;rw[kZ _ c]at q;rw[lK];exact q
  ·rw[Gn c];refine aw ?_;walk_at"";refine kh (.inr (aj.of j)) rfl (kR a) ?_;rw[iO _ (by omega)]at q;rw[lK];exact q
def eX(d:Vn)(f g:Nat->Bool):Prop:=
 if d = "zero" then f 0=true/\g 0=false else if d = "up" then ∃x,f x=true/\g (x+1)=false else if d = "down" then ∃x,f (x+1)=true/\g x=false else ∃x,f x=true/\g x=false
def lb{f g:Nat->Bool}{b d i j:Nat}(hd:1<=d)(a:aS f b d)(c:aS g b d):∀(n x:Nat),x<=n->f (x+i)=true->g (x+j)=false->∃y,y<b+d/\f (y+i)=true/\g (y+j)=false:=by
 intro n;induction n with
 | zero=>
  intro x e h1 h2;exact⟨x,by omega,h1,h2⟩
 | succ n k=>
  intro x e h1 h2;by_cases h:x<b+d
  ·exact⟨x,h,h1,h2⟩
  ·refine k (x-d) (by omega) ?_ ?_
   ·rw[←a (x-d+i) (by omega),show x-d+i+d=x+i by omega];exact h1
   ·rw[←c (x-d+j) (by omega),show x-d+j+d=x+j by omega];exact h2
def Cf(n:Nat)(p:Nat->Bool):((Gm n).map p).any id=true↔∃x,x<n/\p x=true:=by rw[List.any_map,F3];simp
def SN.per{H:Hp}{v:V}{b s:Nat}{o a:List Int}(h:SN H v b s o a):aS (fn b s o a) b s:=Fc h.2
def rJ{f:Nat->Bool}{b c s t:Nat}(h:aS f b s)(a:b<=c):aS f c (cm s t):=by rw[nG];exact(h.mono a).times _
def mj{f:Nat->Bool}{b c s t:Nat}(h:aS f b t)(a:b<=c):aS f c (cm s t):=by rw[Co,nG];exact(h.mono a).times _
def DY{f g:Nat->Bool}{b d i j n:Nat}(hd:1<=d)(a:aS f b d)(c:aS g b d)(e:b+d<=n):(∃x,x<n/\(f (i+x) && !g (j+x))=true)↔∃x,f (x+i)=true/\g (x+j)=false:=by
 constructor
 ·rintro⟨x,_,h⟩;rw[F5,Bool.not_eq_true']at h;exact⟨x,by rw[Nat.add_comm];exact h.1,by rw[Nat.add_comm];exact h.2⟩
 ·rintro⟨x,h1,h2⟩;obtain⟨y,k,h1,h2⟩:=lb (i:=i) (j:=j) hd a c x x (FN _) h1 h2;refine⟨y,by omega,?_⟩;rw[Nat.add_comm i y,Nat.add_comm j y,h1,h2];rfl
inductive nZ(K:Fn)(vs:List V)(H:Hp)(Q:VK)(E:XK):Prop|mk:∀c w v1 v2 a b,vs=[.ref c,v1,v2]->H c=Vo (.tup (Way.vs w))->cx w.deed->dg H v1 a->dg H v2 b->cm a.s b.s<=840->(∀r H',Ext H H'->(r=true↔eX w.deed a.f b.f)->Q (.bl r) H')->nZ K vs H Q E
abbrev pU:Vl:=stq 64
def uG:FnScope ["way","one","other","raised","end","starts","ends"] ["way","one","other"] (aH pU):=⟨rfl,rfl,rfl,by decide +kernel,rfl,by decide +kernel,by decide +kernel⟩
def AX{P:Vd}{w:Ve}{mg:Vn->Option Va}{base:Vh}(D:Dfn K mg "is_left_by" pU ["way","one","other"])(T:Blt mg)(j:Cal P w K mg base "marks_below" 1 ["stair","end"] (m6 K))(l:Cal P w K mg base "common_step" 2 ["one","other"] (kN K))(m:Cal P w K mg base "raised_by" 1 ["way"] (j9 K))(p:Cal P w K mg base "holds" 7 ["stair","x"] (j6 K)):Cal P w K mg base "is_left_by" 8 ["way","one","other"] (nZ K):=by
 have nd:=(uG).nd;refine D.ok uG (λvs H Q E h=>?_) (λX hX H vs Q E h=>?_)
 ·obtain⟨wb,w,v1,v2,c,g,rfl,_⟩:=h;rfl
 ·obtain⟨f,cdv,A,outer,s,H0,E0,rfl,z⟩:=hX;obtain⟨wb,w,v1,v2,c,g,rfl,hw,hd,h1,h2,hc,q⟩:=h;have x1:=h1.b3;have x2:=h2.b3;have c1:=jJ h1.s1 h2.s1;have p1:=rJ (t:=g.s) h1.per (Nat.le_max_left c.b g.b);have p2:=mj (s:=c.s) h2.per (Nat.le_max_right c.b g.b);refine⟨_,(ai (aZ (aM bH (ah (ay K) (pv 0) af (λ_ _=>rfl)) aR (aJ _)) (ao (aB (cK (ax p z (aa (pv 1) (aa af ae))) (cS (jS (ax p z (aa (pv 2) (aa af ae)))))))) aP)
    (ai (aC (i:=3) nd rfl (Or.inl rfl) (ax m z (aa (pv 0) ae)))
    (ai (aC (i:=4) nd rfl (Or.inl rfl) (aq aN (aq aN (aU (kG rfl) rfl T.max_ PyProof.Rows.boot_max (aa (ah (ay K) (pv 1) af (λ_ _=>rfl)) (aa (ah (ay K) (pv 2) af (λ_ _=>rfl)) ae))) af) (ax l z (aa (pv 1) (aa (pv 2) ae)))))
    (ai (aC (i:=5) nd rfl (Or.inl rfl) (gM (hJ K) (ax j z (aa (pv 1) (aa (pv 4) ae))) (f7 (aU (kG rfl) rfl T.max_ PyProof.Rows.boot_max (aa af (aa (ja iI (pv 3)) ae)))) i7))
    (ai (aC (i:=6) nd rfl (Or.inl rfl) (gM (hJ K) (ax j z (aa (pv 2) (aa (aq aN (pv 4) af) ae))) (f7 (aU (kG rfl) rfl T.max_ PyProof.Rows.boot_max (aa af (aa (pv 3) ae)))) i7))
    (ao (aB (aU (ki K rfl) rfl T.any_ PyProof.Rows.boot_any (aa (bK ["start","there"] [] (kr K rfl T.zip_ (aa (pv 5) (aa (pv 6) ae))) (λ_=>(dS (n:=2) K rfl (bp (aA (i:=0) (show(["start","there"]:List Vn).Nodup from by decide +kernel) rfl (Or.inl rfl) (Or.inr rfl)) (bp (aA (i:=1) (show(["start","there"]:List Vn).Nodup from by decide +kernel) rfl (Or.inl rfl) (Or.inr rfl)) dC)))) (λ_=>cn) (λ_=>(cK (pv 0) (cS (jS (pv 1)))))) ae))))))))),?_⟩
  walk_at"";refine az (aj.of hw) (v:=.str w.deed) rfl ?_;walk_at"";refine fD (rd_exb ?_);by_cases J:w.deed = "zero"
  ·rw[Gp J];refine av ?_;walk_at"";refine⟨v1,0,_,_,_,_,rfl,h1.1,h1.2,?_⟩;have Z:mem c.b c.s c.o c.a 0=c.f 0:=rfl;have e2:mem g.b g.s g.o g.a 0=g.f 0:=rfl;refine rd_exb ?_;have hq:∀r,(r=true↔c.f 0=true/\g.f 0=false)->Q (.bl r) H:=λr z=>q r H (Ext.rfl' _) (by rw[z];unfold eX;rw[Gr J]);rw[Z];cases L:c.f 0 with
   | false=>
    refine aw ?_;exact hq false (by simp[L])
   | true=>
    refine av ?_;walk_at"";refine⟨v2,0,_,_,_,_,rfl,h2.1,h2.2,?_⟩;walk_at"";rw[e2];exact hq _ (by simp[L])
  ·rw[Gn J];refine aw ?_;walk_at"";refine⟨wb,w,rfl,hw,hd,?_⟩;obtain⟨q1,_,_,rfl,k1,_,_⟩:=id h1.1;obtain⟨q2,_,_,rfl,k2,_,_⟩:=id h2.1;walk_at"";refine az (aj.of k1) rfl ?_;walk_at"";refine az (aj.of k2) rfl ?_;walk_at"";have em:(if(g.b:Int)>(c.b:Int)then(g.b:Int)else(c.b:Int))=((max c.b g.b:Nat):Int):=by split<;>omega
   rw[em];refine⟨_,_,c.b,c.s,c.o,c.a,g.b,g.s,g.o,g.a,rfl,h1,h2,?_⟩;walk_at"";have r1:=DO w.deed;have r2:=Eh w.deed;refine⟨_,((max c.b g.b:Nat):Int)+1+((cm c.s g.s:Nat):Int),c.b,c.s,c.o,c.a,rfl,h1.1,h1.2,by omega,by omega,λm1 H1 Z a2 M=>?_⟩;rw[show (((max c.b g.b:Nat):Int)+1+((cm c.s g.s:Nat):Int)).toNat=max c.b g.b+cm c.s g.s+1 by omega]at M;walk_at"";refine ia (ag.of M) (bL λl1 H2 e2 G _=>?_);generalize x:(if -rz w.deed>0 then -rz w.deed else 0)=B at G ⊢;have N:0<=B/\B<=1:=by rw[←x];split<;>omega
   rw[kS N.1 (by omega)]at G;have O:=Z.trans e2;walk_at"";refine⟨_,((max c.b g.b:Nat):Int)+1+((cm c.s g.s:Nat):Int)+1,g.b,g.s,g.o,g.a,rfl,h2.1.ext O,h2.2,by omega,by omega,λm2 H3 e3 a3 R=>?_⟩;rw[show (((max c.b g.b:Nat):Int)+1+((cm c.s g.s:Nat):Int)+1).toNat=max c.b g.b+cm c.s g.s+2 by omega]at R;walk_at"";refine ia (ag.of R) (bL λl2 H4 e4 C _=>?_);generalize y:(if rz w.deed>0 then rz w.deed else 0)=I at C ⊢;have S:0<=I/\I<=1:=by rw[←y];split<;>omega
   rw[kS S.1 (by omega)]at C;have F:=(e3.trans e4) _ _ G;have a0:=O.trans (e3.trans e4);walk_at"";refine kn (ag.of F) (ag.of C) ?_;refine lA (λi zs H'=>Ext H4 H'/\zs=((Gm i).map λk=>c.f (B.toNat+k) && !g.f (I.toNat+k)).map V.bl) (bw (by rw[bS];omega)) ⟨Ext.rfl' _,rfl⟩ (λi zs H' h=>⟨ag.of (h.1 _ _ F),ag.of (h.1 _ _ C),by rw[h.2,Fs,Fs,List.length_range];exact FN _⟩) ?_ ?_
   ·rintro i u v zs H5 p4 H6 hu hv ⟨e,rfl⟩ e6 h6 a4;have U:=(FA.mp hu).1;have W:=(FA.mp hv).1;rw[bS]at U W;rw[eU _ U]at hu;rw[eU _ W]at hv;cases hu;cases hv;refine dH (aj.of h6) rfl ?_;walk_at"";refine av ?_;walk_at"";have Y:((Gm (i+1)).map λk=>c.f (B.toNat+k) && !g.f (I.toNat+k)).map V.bl=((Gm i).map λk=>c.f (B.toNat+k) && !g.f (I.toNat+k)).map V.bl++[V.bl (c.f (B.toNat+i) && !g.f (I.toNat+i))]:=by rw[List.range_succ,FJ,FJ];rfl
    cases L:fn c.b c.s c.o c.a (B.toNat+i)with
    | false=>
     refine aw ?_;refine⟨e.trans e6,?_⟩;rw[Y,show c.f (B.toNat+i)=false from L];rfl
    | true=>
     refine av ?_;walk_at"";refine⟨e.trans e6,?_⟩;rw[Y,show c.f (B.toNat+i)=true from L];rfl
   ·rintro zs H5 p4 ⟨e,rfl⟩ a1;rw[bS,bS];walk_at"";refine⟨p4,_,rfl,ag.of aI,?_⟩;refine q _ _ (a0.trans (e.trans (aV a1))) ?_;rw[Cf];unfold eX;rw[Gq J];rw[DY (b:=max c.b g.b) (d:=cm c.s g.s) c1 p1 p2 (by omega)];rcases hd with hd|hd|hd|hd
    ·have z:rz w.deed=1:=by rw[hd];decide +kernel
     rw[z]at x y;rw[Gr hd,←x,←y];exact Iff.rfl
    ·have z:rz w.deed = -1:=by rw[hd];decide +kernel
     rw[z]at x y;rw[Gq (by rw[hd];decide +kernel),Gr hd,←x,←y];exact Iff.rfl
    ·have z:rz w.deed=0:=by rw[hd];decide +kernel
     rw[z]at x y;rw[Gq (by rw[hd];decide +kernel),Gq (by rw[hd];decide +kernel),←x,←y];exact Iff.rfl
    ·exact absurd hd J
def cls(ws:List Way)(ts:List StT):Prop:=∀w∈ws,∀a b,ts[w.room.toNat]?=Vo a->ts[w.other.toNat]?=Vo b->¬eX w.deed a.f b.f
def iS{xs:List V}{i:Int}{v:V}(a:0<=i)(h:xs[i.toNat]?=Vo v):bF xs i=Vo v:=eD a h
inductive iX(K:Fn)(vs:List V)(H:Hp)(Q:VK)(E:XK):Prop|mk:∀v tv m ws ts,vs=[v,tv]->bC H v m ws->HOuse m ws->ie H m tv ts->(∀r H',Ext H H'->(r=true↔cls ws ts)->Q (.bl r) H')->iX K vs H Q E
abbrev rD:Vl:=stq 65
def tU:FnScope ["house","stairs"] ["house","stairs"] (aH rD):=⟨rfl,rfl,rfl,by decide +kernel,rfl,by decide +kernel,by decide +kernel⟩
def Dd{P:Vd}{w:Ve}{mg:Vn->Option Va}{base:Vh}(D:Dfn K mg "sees_closed" rD ["house","stairs"])(T:Blt mg)(c:Cal P w K mg base "is_left_by" 8 ["way","one","other"] (nZ K))(a:Cal P w K mg base "are_stairs_for" 6 ["house","thing"] (pj K))(d:Cal P w K mg base "is_house" 5 ["thing"] (j7 K)):Cal P w K mg base "sees_closed" 9 ["house","stairs"] (iX K):=by
 have nd:=(tU).nd;refine D.ok tU (λvs H Q E h=>?_) (λX hX H vs Q E h=>?_)
 ·obtain⟨v,tv,m,ws,ts,rfl,_⟩:=h;rfl
 ·obtain⟨f,cdv,A,outer,s,H0,E0,rfl,o⟩:=hX;obtain⟨v,tv,m,ws,ts,rfl,hv,ok,hg,q⟩:=h;refine⟨_,(ai (aZ (PW.pt (cC (bM (aX (ax d o (aa (pv 0) ae)))) (cW (bM (aX (ax a o (aa (pv 0) (aa (pv 1) ae)))))))) (ao (aB aT)) aP)
    (ao (aB (jS (aU (ki K rfl) rfl T.any_ PyProof.Rows.boot_any (aa (bK ["way"] [1] (ft K (ah (ay K) (pv 0) af (λ_ _=>rfl))) (λ_=>(aA (i:=0) (show(["way","stairs"]:List Vn).Nodup from by decide +kernel) rfl (Or.inl rfl) (Or.inr rfl))) (λ_=>cn) (λ_=>(ax c o (aa (pv 0) (aa (ah (aF K) (pv 1) (ah (ay K) (pv 0) af (λ_ _=>rfl)) (λ_ _=>rfl)) (aa (ah (aF K) (pv 1) (ah (ay K) (pv 0) af (λ_ _=>rfl)) (λ_ _=>rfl)) ae)))))) ae)))))),?_⟩
  walk_at"";refine⟨v,m,ws,rfl,hv,ok,λH1 N=>?_⟩;walk_at"";refine aw ?_;walk_at"";obtain⟨hp,hq,rfl,hh,hw⟩:=id (hv.ext N);refine⟨hp,.ref hq,m,tv,ts,rfl,hh,hg.ext N,λH2 O=>?_⟩;have F:=N.trans O;obtain⟨bs,G,I⟩:=b9.al (hw.ext O);obtain⟨l,xs,rfl,hl,hn,hm,hs,ht⟩:=hg.ext F;have a0:=ok.few;have J:bs.length=ws.length:=I.1;walk_at"";refine aw ?_;walk_at"";refine az (aj.of (O _ _ hh)) (v:=.ref hq) rfl ?_;walk_at"";refine eT (aj.of G) ?_;refine lZ (xs:=bs.map V.ref) (λi ys H'=>Ext H2 H'/\∃rs:List Bool,ys=rs.map V.bl/\rs.length=i/\(rs.any id=true↔¬cls (ws.take i) ts)) (dy (by rw[Fs];omega)) ⟨Ext.rfl' _,[],rfl,rfl,?_⟩ ?_ ?_ ?_
  ·simp[cls]
  ·rintro i ys H' _ ⟨e,rs,rfl,o,_⟩;exact⟨aj.of (e _ _ G),by rw[Fs,o];exact FN _⟩
  ·rintro i x ys H3 hx ⟨y,rs,rfl,o,g⟩;rw[Fu]at hx;obtain⟨b,hb,rfl⟩:=FE.mp hx;have hi:i<ws.length:=by rw[←J];exact(FA.mp hb).1
   have k:ws[i]?=Vo ws[i]:=Ft hi;have n:=y _ _ (I.2 i b _ hb k);generalize ws[i]=w at k n;have j:=ok.ok w (FC k);have o1:=j.r0;have o2:=j.r1;have o3:=j.o0;have o4:=j.o1;have g1:w.room.toNat<xs.length:=by omega
   have g2:w.other.toNat<xs.length:=by omega
   obtain⟨R,z,S⟩:=cg hs (Ft g1);obtain⟨U,B,W⟩:=cg hs (Ft g2);walk_at"";refine av ?_;walk_at"";refine az (aj.of n) (v:=.int w.room) rfl ?_;walk_at"";refine aE (ag.of (y _ _ hl)) (iS o1 (Ft g1)) ?_;walk_at"";refine az (aj.of n) (v:=.int w.other) rfl ?_;walk_at"";refine aE (ag.of (y _ _ hl)) (iS o3 (Ft g2)) ?_;walk_at"";refine⟨b,w,_,_,R,U,rfl,n,j.dd,S.ext y,W.ext y,?_,λr H4 e4 Y=>?_⟩
   ·exact ht R (FC z) U (FC B)
   ·refine⟨y.trans e4,rs++[r],by rw[FJ];rfl,by rw[FK,o];rfl,?_⟩;rw[List.any_append,F6,g,List.take_add_one,k];have:List.any [r] id=r:=by cases r<;>rfl
    rw[this,Y];constructor
    ·rintro(h|h) hc
     ·exact h λu C=>hc u (FQ.mpr (.inl C))
     ·exact hc w (by simp) R U z B h
    ·intro h;by_cases h1:cls (ws.take i) ts
     ·right;refine Classical.byContradiction λh2=>h λu C=>?_;rcases FQ.mp C with C|C
      ·exact h1 u C
      ·have:u=w:=by simpa using C
       subst this;intro a1 a2 L M;rw[z]at L;rw[B]at M;cases L;cases M;exact h2
     ·exact .inl h1
  ·rintro ys H3 p ⟨y,rs,rfl,o,g⟩ Z;walk_at"";refine⟨p,rs,rfl,ag.of aI,?_⟩;walk_at"";refine q _ _ (F.trans (y.trans (aV Z))) ?_;rw[Fs,J,FW]at g;cases hb:rs.any id with
   | true=>
    rw[hb]at g;have:=g.mp rfl;simp[this]
   | false=>
    rw[hb]at g;have:cls ws ts:=Classical.byContradiction λh=>by have:=g.mpr h;cases this
    simp[this]
def xm{t:StT}{x:Int}(h:0<=x):mem t.b t.s t.o t.a x=t.f x.toNat:=by show _=mem t.b t.s t.o t.a (x.toNat:Int);rw[FG h]
inductive qW(K:Fn)(vs:List V)(H:Hp)(Q:VK)(E:XK):Prop|mk:∀v a b tv m ws ts x1 c d e,vs=[v,.ref a,.ref b,tv]->bC H v m ws->HOuse m ws->ie H m tv ts->aO H a x1->aO H b c->dU m x1->dU m c->cls ws ts->ts[x1.1.toNat]?=Vo d->ts[c.1.toNat]?=Vo e->d.f x1.2.toNat=true->e.f c.2.toNat=false->(∀H',Ext H H'->Q (.bl true) H')->qW K vs H Q E
abbrev mV:Vl:=stq 66
def sP:FnScope ["house","place","goal","stairs"] ["house","place","goal","stairs"] (aH mV):=⟨rfl,rfl,rfl,by decide +kernel,rfl,by decide +kernel,by decide +kernel⟩
def zV{P:Vd}{w:Ve}{mg:Vn->Option Va}{base:Vh}(D:Dfn K mg "sees_never" mV ["house","place","goal","stairs"])(T:Blt mg)(e:Cal P w K mg base "holds" 7 ["stair","x"] (j6 K))(c:Cal P w K mg base "is_near_place" 3 ["thing","house"] (ml K))(d:Cal P w K mg base "sees_closed" 9 ["house","stairs"] (iX K)):Cal P w K mg base "sees_never" 10 ["house","place","goal","stairs"] (qW K):=by
 have nd:=(sP).nd;refine D.ok sP (λvs H Q E h=>?_) (λX R H vs Q E h=>?_)
 ·obtain⟨v,a,b,tv,m,ws,ts,x1,p,S,U,rfl,_⟩:=h;rfl
 ·obtain⟨f,cdv,A,outer,s,H0,E0,rfl,i⟩:=R;obtain⟨v,a,b,tv,m,ws,ts,x1,p,S,U,rfl,I,ok,J,j,k,n,o,W,y,z,B,C,q⟩:=h;refine⟨_,(ai (aZ (PW.pt (cC (bM (aX (ax d i (aa (pv 0) (aa (pv 3) ae))))) (cC (bM (aX (ax c i (aa (pv 1) (aa (pv 0) ae))))) (cW (bM (aX (ax c i (aa (pv 2) (aa (pv 0) ae))))))))) (ao (aB aT)) aP)
    (ao (aB (cK (ax e i (aa (ah (aF K) (pv 3) (ah (ay K) (pv 1) af (λ_ _=>rfl)) (λ_ _=>rfl)) (aa (ah (ay K) (pv 1) af (λ_ _=>rfl)) ae))) (cS (jS (ax e i (aa (ah (aF K) (pv 3) (ah (ay K) (pv 2) af (λ_ _=>rfl)) (λ_ _=>rfl)) (aa (ah (ay K) (pv 2) af (λ_ _=>rfl)) ae))))))))),?_⟩
  walk_at"";refine⟨v,tv,m,ws,ts,rfl,I,ok,J,λr H1 g i=>?_⟩;rw[i.mpr W];walk_at"";refine aw ?_;walk_at"";obtain⟨L,M,rfl,N,Y⟩:=id (I.ext g);refine⟨a,x1,L,.ref M,m,rfl,g _ _ j,N,n,?_⟩;walk_at"";refine aw ?_;walk_at"";refine⟨b,p,L,.ref M,m,rfl,g _ _ k,N,o,?_⟩;walk_at"";refine aw ?_;obtain⟨l,xs,rfl,O,Z,hm,hs,ht⟩:=J.ext g;obtain⟨v1,F,u⟩:=eo hs y;obtain⟨v2,G,x⟩:=eo hs z;walk_at"";refine az (aj.of (g _ _ j)) (v:=.int x1.1) rfl ?_;walk_at"";refine aE (ag.of O) (iS n.1 F) ?_;walk_at"";refine az (aj.of (g _ _ j)) (v:=.int x1.2) rfl ?_;walk_at"";refine⟨_,x1.2,_,_,_,_,rfl,u.1,u.2,?_⟩;rw[xm n.2.2.1,B];refine rd_exb (av ?_);walk_at"";refine az (aj.of (g _ _ k)) (v:=.int p.1) rfl ?_;walk_at"";refine aE (ag.of O) (iS o.1 G) ?_;walk_at"";refine az (aj.of (g _ _ k)) (v:=.int p.2) rfl ?_;walk_at"";refine⟨_,p.2,_,_,_,_,rfl,x.1,x.2,?_⟩;rw[xm o.2.2.1,C];walk_at"";exact q H1 g
def red(b s x:Nat):Nat:=if x<b then x else b+(x-b) % s
def iP{b s x:Nat}(h:x<b+s):red b s x=x:=by
 unfold red;split
 ·rfl
 ·rw[Nat.mod_eq_of_lt (by omega)];omega
def sM{b s x:Nat}(h:b+s<=x):red b s (x-s)=red b s x:=by unfold red;rw[Gq (by omega),Gq (by omega),show x-b=x-s-b+s by omega,Nat.add_mod_right]
def jQ{b s x:Nat}(hs:1<=s):red b s x<b+s:=by
 unfold red;split
 ·omega
 ·have:=Nat.mod_lt (x-b) hs;omega
def Goes(d:Vn)(b s x:Nat)(P:Nat->Prop):Prop:=(d = "up"->P (if x+1=b+s then b else x+1))/\(d = "down"->(0<x->P (x-1))/\(x=b->P (b+s-1)))/\(d = "stay"\/d = "zero"/\x=0->P x)
def Goes.imp{d:Vn}{b s x:Nat}{P R:Nat->Prop}(h:Goes d b s x P)(i:∀y,P y->R y):Goes d b s x R:=
 ⟨λe=>i _ (h.1 e),λe=>⟨λz=>i _ ((h.2.1 e).1 z),λz=>i _ ((h.2.1 e).2 z)⟩,λe=>i _ (h.2.2 e)⟩
def oC(ws:List Way)(b s:Nat)(M:Nat->Nat->Bool):Prop:=∀w∈ws,∀x,x<b+s->M w.room.toNat x=true->Goes w.deed b s x λy=>M w.other.toNat y=true
structure Fr(H:Hp)(q wl:Vb)(rs:List Vb):Prop where
 q0:H q=Vp
 w0:H wl=Vp
 r0:∀r∈rs,H r=Vp
 nd:rs.Nodup
 qw:q≠wl
 qr:q∉rs
 wr:wl∉rs
abbrev qp(z:Nat×Nat):Bfs.Pl:=(((z.1:Nat):Int),((z.2:Nat):Int))
structure MI(H H':Hp)(q wl:Vb)(rs:List Vb)(n:Nat)(M:Nat->Nat->Bool)(ps:List Vb)(zs:List (Nat×Nat)):Prop where
 e:Ext H H'
 rows:Rows H' q rs n M
 wt:H' wl=Vo (.lst (ps.map V.ref))
 pl:Paired (λa z=>aO H' a (qp z)) ps zs
theorem MI.ext{H H' H2:Hp}{q wl:Vb}{rs:List Vb}{n:Nat}{M:Nat->Nat->Bool}{ps:List Vb}{zs:List (Nat×Nat)}(h:MI H H' q wl rs n M ps zs)(e:Ext H' H2):MI H H2 q wl rs n M ps zs:=
 ⟨h.e.trans e,h.rows.ext e,e _ _ h.wt,Paired.imp' (λ_ _ z=>e _ _ z) h.pl⟩
theorem kc{α β:Type}{R:α->β->Prop}:∀{xs:List α} {ys:List β} {x:α} {y:β},Paired R xs ys->R x y->Paired R (xs++[x]) (ys++[y])
 | _,_,_,_,.nil,h=>.cons h .nil
 | _,_,_,_,.cons a t,h=>.cons a (kc t h)
theorem gJ{α β:Type}{R:α->β->Prop}:∀{xs:List α} {ys:List β},Paired R xs ys->xs.length=ys.length
 | _,_,.nil=>rfl
 | _,_,.cons _ t=>by rw[FV,FV,gJ t]
theorem wY{α β:Type}{R:α->β->Prop}:∀{xs:List α} {ys:List β} {x:α} {y:β},Paired R (xs++[x]) (ys++[y])->xs.length=ys.length->Paired R xs ys/\R x y
 | [],[],_,_,.cons h _,_=>⟨.nil,h⟩
 | _::_,_::_,_,_,.cons h t,e=>by obtain⟨h1,h2⟩:=wY t (by simpa using e);exact⟨.cons h h1,h2⟩
def MI.push{H H':Hp}{q wl:Vb}{rs:List Vb}{n:Nat}{M:Nat->Nat->Bool}{ps:List Vb}{zs:List (Nat×Nat)}(h:MI H H' q wl rs n M ps zs)(f:Fr H q wl rs){p:Vb}{z:Nat×Nat}(b:aO H' p (qp z)):MI H (upd H' wl (.lst (ps.map V.ref++[.ref p]))) q wl rs n M (ps++[p]) (zs++[z]):=by
 have a:∀ys,HO.lst (ps.map V.ref)≠.tup ys:=λys z=>by cases z
 refine⟨cA h.e f.w0,⟨?_,λi r hi=>?_⟩,by rw[aI,FJ];rfl,kc (Paired.imp' (λ_ _ y=>y.put h.wt a) h.pl) (b.put h.wt a)⟩
 ·rw[aG f.qw];exact h.rows.1
 ·have c:=FC hi;rw[aG (show r≠wl from λz=>f.wr (z ▸ c))];exact h.rows.2 i r hi
def MI.pop{H H':Hp}{q wl:Vb}{rs:List Vb}{n:Nat}{M:Nat->Nat->Bool}{ps:List Vb}{zs:List (Nat×Nat)}(f:Fr H q wl rs){p:Vb}{z:Nat×Nat}(h:MI H H' q wl rs n M (ps++[p]) (zs++[z]))(b:ps.length=zs.length):aO (upd H' wl (.lst (ps.map V.ref))) p (qp z)/\MI H (upd H' wl (.lst (ps.map V.ref))) q wl rs n M ps zs:=by
 have a:∀ys,HO.lst ((ps++[p]).map V.ref)≠.tup ys:=λys z=>by cases z
 obtain⟨h1,h2⟩:=wY h.pl b;refine⟨h2.put h.wt a,cA h.e f.w0,⟨?_,λi r hi=>?_⟩,aI,Paired.imp' (λ_ _ y=>y.put h.wt a) h1⟩
 ·rw[aG f.qw];exact h.rows.1
 ·have c:=FC hi;rw[aG (show r≠wl from λz=>f.wr (z ▸ c))];exact h.rows.2 i r hi
def MI.mark{H H':Hp}{q wl:Vb}{rs:List Vb}{n:Nat}{M:Nat->Nat->Bool}{ps:List Vb}{zs:List (Nat×Nat)}(h:MI H H' q wl rs n M ps zs)(f:Fr H q wl rs){i x:Nat}{r:Vb}(hi:rs[i]?=Vo r)(o:x<n):MI H (upd H' r (.lst ((aL n (M i)).set x (.bl true)))) q wl rs n (put2 M i x) ps zs:=by
 have p:=h.rows.2 i r hi;have s:∀ys,HO.lst (aL n (M i))≠.tup ys:=λys z=>by cases z
 have c:=FC hi;refine⟨cA h.e (f.r0 r c),⟨?_,λj g b=>?_⟩,?_,Paired.imp' (λ_ _ y=>y.put p s) h.pl⟩
 ·rw[aG (show q≠r from λz=>f.qr (z ▸ c))];exact h.rows.1
 ·by_cases a:j=i
  ·subst a;rw[hi]at b;cases b;rw[aI,gr _ _ o];congr 2;refine bY λy u=>?_;unfold put2;by_cases d:y=x<;>simp[d]
  ·have hne:g≠r:=by
    intro v;subst v;have l1:=(FA.mp hi).1;have l2:=(FA.mp b).1;have k:=(FA.mp hi).2;have l:=(FA.mp b).2;have m:=List.pairwise_iff_getElem.mp f.nd;rcases Nat.lt_or_gt_of_ne a with h'|h'
    ·exact m j i l2 l1 h' (l.trans k.symm)
    ·exact m i j l1 l2 h' (k.trans l.symm)
   rw[aG hne,h.rows.2 j g b];congr 2;refine bY λy u=>?_;unfold put2;rw[Gq (λz=>a z.1)]
 ·rw[aG (show wl≠r from λz=>f.wr (z ▸ c))];exact h.wt
def ke:List (Nat×Nat):=(Gm 12).flatMap λi=>(Gm 110).map λx=>(i,x)
def zf{i x:Nat}(hi:i<12)(a:x<110):(i,x)∈ke:=by unfold ke;rw[List.mem_flatMap];exact⟨i,List.mem_range.mpr hi,List.mem_map.mpr ⟨x,List.mem_range.mpr a,rfl⟩⟩
def DW:ke.length=1320:=by decide +kernel
def un(M:Nat->Nat->Bool):Nat:=ke.countP λz=>!M z.1 z.2
def u4(M:Nat->Nat->Bool):un M<=1320:=by rw[←DW];exact List.countP_le_length
def y7{M:Nat->Nat->Bool}{i x:Nat}(hi:i<12)(c:x<110)(h:M i x=false):un (put2 M i x)<un M:=by
 refine nN (a:=(i,x)) (λy b=>?_) (by simp[h]) (by simp[put2]) (zf hi c);unfold put2 at b;split at b
 ·cases b
 ·exact b
def iu(ws:List Way)(b s:Nat)(M:Nat->Nat->Bool)(zs:List (Nat×Nat)):Prop:=∀(k:Nat) (w:Way),ws[k]?=Vo w->∀x,M w.room.toNat x=true->Goes w.deed b s x λy=>M w.other.toNat y=true\/(w.other.toNat,y)∈zs
def HX(ws:List Way)(b s:Nat)(M:Nat->Nat->Bool)(zs:List (Nat×Nat))(a x0 j:Nat):Prop:=∀(k:Nat) (w:Way),ws[k]?=Vo w->∀x,M w.room.toNat x=true->(w.room.toNat=a/\x=x0/\j<=k)\/Goes w.deed b s x λy=>M w.other.toNat y=true\/(w.other.toNat,y)∈zs
def HX.step{ws:List Way}{b s:Nat}{M:Nat->Nat->Bool}{zs a:List (Nat×Nat)}{c x0 j:Nat}(h:HX ws b s M zs c x0 j)(e:∀z∈zs,z∈a){w:Way}(g:ws[j]?=Vo w)(i:w.room.toNat=c->Goes w.deed b s x0 λy=>M w.other.toNat y=true\/(w.other.toNat,y)∈a):HX ws b s M a c x0 (j+1):=by
 intro k u d x l;rcases h k u d x l with⟨h1,h2,o⟩|h
 ·by_cases m:j=k
  ·subst m;rw[g]at d;cases d;subst h2;exact .inr (i h1)
  ·exact .inl ⟨h1,h2,by omega⟩
 ·exact .inr (h.imp λy n=>n.imp id (e _))
def HX.all{ws:List Way}{b s:Nat}{M:Nat->Nat->Bool}{zs:List (Nat×Nat)}{c x0:Nat}(h:HX ws b s M zs c x0 ws.length):iu ws b s M zs:=by
 intro k u a x d;rcases h k u a x d with⟨_,_,e⟩|h
 ·have:=(FA.mp a).1;omega
 ·exact h
def iu.drop{ws:List Way}{b s:Nat}{M:Nat->Nat->Bool}{zs:List (Nat×Nat)}{z:Nat×Nat}(h:iu ws b s M (zs++[z]))(c:M z.1 z.2=true):iu ws b s M zs:=by
 intro k u d x e;refine(h k u d x e).imp λy a=>?_;rcases a with a|a
 ·exact .inl a
 ·rcases FQ.mp a with a|a
  ·exact .inr a
  ·rw[←FD.mp a]at c;exact .inl c
def iu.mark{ws:List Way}{b s:Nat}{M:Nat->Nat->Bool}{zs:List (Nat×Nat)}{c x0:Nat}(h:iu ws b s M (zs++[(c,x0)])):HX ws b s (put2 M c x0) zs c x0 0:=by
 intro k u g x d;by_cases e:u.room.toNat=c/\x=x0
 ·exact .inl ⟨e.1,e.2,Nat.zero_le _⟩
 ·right;unfold put2 at d;rw[Gq e]at d;refine(h k u g x d).imp λy a=>?_;rcases a with a|a
  ·left;unfold put2;split
   ·rfl
   ·exact a
  ·rcases FQ.mp a with a|a
   ·exact .inr a
   ·have:=FD.mp a;left;unfold put2;rw[Gr ⟨(Prod.mk.inj this).1,(Prod.mk.inj this).2⟩]
def yC{M:Nat->Nat->Bool}{i x j y:Nat}(h:M j y=true):put2 M i x j y=true:=by
 unfold put2;split
 ·rfl
 ·exact h
def EH{M:Nat->Nat->Bool}{i x:Nat}:put2 M i x i x=true:=by simp[put2]
def jq{zs:List (Nat×Nat)}{r n:Nat}(h:∀z∈zs,z.1<r/\z.2<n){z:Nat×Nat}(b:z.1<r/\z.2<n):∀u∈zs++[z],u.1<r/\u.2<n:=by
 intro u a;rcases FQ.mp a with a|a
 ·exact h u a
 ·rw[FD.mp a];exact b
inductive qQ(K:Fn)(vs:List V)(H:Hp)(Q:VK)(E:XK):Prop|mk:∀a m ws b s l as xs,vs=[a,.int (b:Nat),.int (s:Nat),.ref l]->bC H a m ws->HOuse m ws->1<=s->b+s<=110->H l=Vo (.lst (List.map V.ref as))->Paired (aO H) as xs->xs.length<=10->(∀x∈xs,dU m x)->(∀q rs M H',Ext H H'->H q=Vp->(rs.length:Int)=m->Rows H' q rs (b+s) M->oC ws b s M->(∀x∈xs,M x.1.toNat (red b s x.2.toNat)=true)->Q (.ref q) H')->qQ K vs H Q E
abbrev qv:Vl:=stq 82
def yf:FnScope ["_law_house_here","_law_base","_law_step","_law_starts","_law_marks_here","_law_waiting","_law_room","_law_number","_law_here","_law_x","_law_deed","_law_other","_law_sign"] ["_law_house_here","_law_base","_law_step","_law_starts"] (aH qv):=⟨rfl,rfl,rfl,by decide +kernel,rfl,by decide +kernel,by decide +kernel⟩
def E3{P:Vd}{w:Ve}{mg:Vn->Option Va}{base:Vh}(D:Dfn K mg "_law_marks" qv ["_law_house_here","_law_base","_law_step","_law_starts"])(T:Blt mg):Cal P w K mg base "_law_marks" 1 ["_law_house_here","_law_base","_law_step","_law_starts"] (qQ K):=by
 have nd:=(yf).nd;refine D.ok yf (λvs H Q E h=>?_) (λX hX H vs Q E h=>?_)
 ·obtain⟨hv,m,ws,b,s,l,as,xs,rfl,_⟩:=h;rfl
 ·obtain⟨f,cdv,A,outer,s,H0,E0,rfl,Y⟩:=hX;obtain⟨vh,m,ws,b,s',l,as,xs,rfl,hv,ok,c6,d6,hl,hp,d7,hin,q⟩:=h;obtain⟨L,c7,rfl,hh,hw⟩:=id hv;obtain⟨bs,b4,be⟩:=b9.al hw;have m1:=ok.m1;have m12:=ok.m12;have c8:=gJ hp;refine⟨_,(@ai _ _ _ _ _ (gD (i:=4) ["_law_room"] [1,2] nd rfl (Or.inl rfl) (cb rfl T.range_ (@aa _ _ _ _ _ (@ah _ _ _ _ _ _ _ (ay K) (pv 0) af (λ_ _=>rfl)) ae rfl)) (λ_=>(aA (i:=0) (show(["_law_room","_law_base","_law_step"]:List Vn).Nodup from by decide +kernel) rfl (Or.inl rfl) (Or.inr rfl))) (λ_=>cn) (λ_=>(aq iZ (@bo _ _ _ _ (@aa _ _ _ _ _ aT ae rfl)) (aq aN (pv 1) (pv 2)))))
    (@ai _ _ _ _ _ (@aC _ _ 5 _ _ _ _ nd rfl (Or.inl rfl) (@bo _ _ _ _ ae) rfl (Or.inl rfl))
    (@ai _ _ _ _ _ (bq PassesOwn.never rfl (bP K (pv 3)) (dS (n:=2) K rfl (bp (aA (i:=6) nd rfl (Or.inl rfl)) (bp (aA (i:=7) nd rfl (Or.inl rfl)) dC))) (@ai _ _ _ _ _ (fF PassesOwn.never (aM iG (pv 7) (aq aN (pv 1) (pv 2)) (aJ _)) (@ao _ _ _ (@aC _ _ 7 _ _ _ _ nd rfl (Or.inl rfl) (aq cG (pv 7) (pv 2)) rfl (Or.inl rfl))))
    (@ao _ _ _ (bz (bT K Fz FO FP bZ (pv 5) (@aa _ _ _ _ _ (@bf _ _ _ _ _ (@aa _ _ _ _ _ (pv 6) (@aa _ _ _ _ _ (pv 7) ae rfl) rfl)) ae rfl))))))
    (@ai _ _ _ _ _ (fF PassesOwn.never (aM eG (aU (dh K) rfl T.len_ PySem.boot_len (@aa _ _ _ _ _ (pv 5) ae rfl)) af (aJ _)) (@ai _ _ _ _ _ (@dE _ _ _ _ _ _ (Ay K Fz PySem.F.slot_list_pop PySem.F.type_list_pop BL (pv 5)) (dS (n:=2) K rfl (bp (aA (i:=8) nd rfl (Or.inl rfl)) (bp (aA (i:=9) nd rfl (Or.inl rfl)) dC))) rfl rfl rfl)
    (@ao _ _ _ (cF (bM (aX (@ah _ _ _ _ _ _ _ (aF K) (@ah _ _ _ _ _ _ _ (aF K) (pv 4) (pv 8) (λ_ _=>rfl)) (pv 9) (λ_ _=>rfl)))) (@ai _ _ _ _ _ (@dE _ _ _ _ _ _ aT (fu (@ah _ _ _ _ _ _ _ (aF K) (pv 4) (pv 8) (λ_ _=>rfl)) (pv 9) set_list) rfl rfl rfl)
    (@ao _ _ _ (bq PassesOwn.never rfl (ft K (@ah _ _ _ _ _ _ _ (ay K) (pv 0) af (λ_ _=>rfl))) (dS (n:=4) K rfl (bp (aA (i:=6) nd rfl (Or.inl rfl)) (bp (aA (i:=10) nd rfl (Or.inl rfl)) (bp (aA (i:=11) nd rfl (Or.inl rfl)) (bp (aA (i:=12) nd rfl (Or.inl rfl)) dC))))) (@ai _ _ _ _ _ (cF (PW.pt (eS (aM bH (pv 6) (pv 8) (aJ _)) (fH (aM bH (pv 10) aR (aJ _))))) (@ao _ _ _ (bz (bT K Fz FO FP bZ (pv 5) (@aa _ _ _ _ _ (@bf _ _ _ _ _ (@aa _ _ _ _ _ (pv 11) (@aa _ _ _ _ _ (@ah _ _ _ _ _ _ _ (aF K) (@bo _ _ _ _ (@aa _ _ _ _ _ (aq aN (pv 9) af) (@aa _ _ _ _ _ (pv 1) ae rfl) rfl)) (dQ yV rfl T.int_ PyProof.Rows.boot_int (@aa _ _ _ _ _ (dz bH (aq aN (pv 9) af) (aq aN (pv 1) (pv 2)) (aJ _)) ae rfl)) (λ_ _=>rfl)) ae rfl) rfl)) ae rfl)))) aP)
    (@ai _ _ _ _ _ (cF (PW.pt (eS (aM bH (pv 6) (pv 8) (aJ _)) (fH (aM bH (pv 10) aR (aJ _))))) (@ai _ _ _ _ _ (cF (aM eG (pv 9) af (aJ _)) (@ao _ _ _ (bz (bT K Fz FO FP bZ (pv 5) (@aa _ _ _ _ _ (@bf _ _ _ _ _ (@aa _ _ _ _ _ (pv 11) (@aa _ _ _ _ _ (aq cG (pv 9) af) ae rfl) rfl)) ae rfl)))) aP)
    (@ao _ _ _ (cF (aM bH (pv 9) (pv 1) (aJ _)) (@ao _ _ _ (bz (bT K Fz FO FP bZ (pv 5) (@aa _ _ _ _ _ (@bf _ _ _ _ _ (@aa _ _ _ _ _ (pv 11) (@aa _ _ _ _ _ (aq cG (aq aN (pv 1) (pv 2)) af) ae rfl) rfl)) ae rfl)))) aP))) aP)
    (@ao _ _ _ (cF (PW.pt (eS (aM bH (pv 6) (pv 8) (aJ _)) (fH (PW.pt (cC (aM bH (pv 10) aR (aJ _)) (cW (PW.pt (eS (aM bH (pv 10) aR (aJ _)) (fH (aM bH (pv 9) af (aJ _))))))))))) (@ao _ _ _ (bz (bT K Fz FO FP bZ (pv 5) (@aa _ _ _ _ _ (@bf _ _ _ _ _ (@aa _ _ _ _ _ (pv 11) (@aa _ _ _ _ _ (pv 9) ae rfl) rfl)) ae rfl)))) aP))))))) aP))))
    (@ao _ _ _ (@aB _ _ _ _ (pv 4))))))),?_⟩
  walk_at"";refine az (aj.of hh) (v:=.int m) rfl ?_;walk_at"";refine cj (by omega) ?_;refine dD (λi ys H'=>Ext H H'/\∃rs:List Vb,ys=rs.map V.ref/\rs.length=i/\rs.Nodup/\∀r∈rs,H r=Vp/\H' r=Vo (.lst (aL (b+s') λ_=>false))) (dy (by omega)) ⟨Ext.rfl' _,[],rfl,rfl,List.nodup_nil,λr Y=>by cases Y⟩ (λi ys H' _ h=>by obtain⟨_,rs,rfl,h,_⟩:=h;rw[Fs,h];exact FN _) ?_ ?_
  ·rintro i ys H1 hi ⟨e1,rs,rfl,Y,ap,hrs⟩;walk_at"";refine av ?_;walk_at"";refine aK λu1 H2 e2 b7 _=>?_;walk_at"";refine iH b7 (by omega) (bw (by simp;omega)) (bL λu2 H3 e3 bg c9=>?_);rw[jU,show ((b:Int)+(s':Int)).toNat=b+s' by omega]at bg;have bi:=e2.trans e3;have bl:H1 u2=Vp:=e2.none c9;refine⟨e1.trans bi,rs++[u2],by rw[FJ];rfl,by rw[FK,Y];rfl,?_,?_⟩
   ·rw[List.nodup_append];refine⟨ap,by simp,λr g u hu=>?_⟩;rw[FD.mp hu];intro R;subst R;have:=(hrs r g).2;rw[bl]at this;cases this
   ·intro r g;rcases FQ.mp g with g|g
    ·exact⟨(hrs r g).1,bi _ _ (hrs r g).2⟩
    ·rw[FD.mp g];exact⟨e1.none bl,bg⟩
  ·rintro ys H1 B ⟨e1,rs,rfl,Y,ap,hrs⟩ a6;have e2:Ext H (upd H1 B (.lst (rs.map V.ref))):=e1.trans (aV a6);have a7:(upd H1 B (.lst (rs.map V.ref))) B=Vo (.lst (rs.map V.ref)):=aI;have hrs2:∀r∈rs,(upd H1 B (.lst (rs.map V.ref))) r=Vo (.lst (aL (b+s') λ_=>false)):=λr g=>(aV a6) _ _ (hrs r g).2;have bm:B∉rs:=λR=>by have:=(hrs B R).2;rw[a6]at this;cases this
   have bn:H B=Vp:=e1.none a6;generalize upd H1 B (.lst (rs.map V.ref))=H2 at e2 a7 hrs2 ⊢;walk_at"";refine aK λwl H3 e3 bt ar=>?_;have fr:Fr H B wl rs:=⟨bn,e2.none ar,λr g=>(hrs r g).1,ap,λR=>(by rw[R,ar]at a7;cases a7),bm,λR=>(by have:=hrs2 wl R;rw[ar]at this;cases this)⟩;have ca:(rs.length:Int)=m:=by omega
   have bu:MI H H3 B wl rs (b+s') (λ_ _=>false) [] []:=⟨e2.trans e3,⟨e3 _ _ a7,λi r hi=>e3 _ _ (hrs2 r (FC hi))⟩,bt,.nil⟩;clear hrs hrs2 a7 bt ar a6 e1 e2 e3 bn bm ap;walk_at"";refine bN (ag.of (bu.e _ _ hl)) ?_;refine forL (xs:=List.map V.ref as) (λi σ H'=>∃k1 k2 k3 k4 k5 k6 k7 ps,σ=[Vo (.ref L),Vo (.int (b:Nat)),Vo (.int (s':Nat)),Vo (.ref l),Vo (.ref B),Vo (.ref wl),k1,k2,k3,k4,k5,k6,k7]/\MI H H' B wl rs (b+s') (λ_ _=>false) ps ((xs.take i).map λx=>(x.1.toNat,red b s' x.2.toNat))) ⟨_,_,_,_,_,_,_,[],rfl,bu⟩ (λi σ H' _ h=>by obtain⟨_,_,_,_,_,_,_,ps,_,h⟩:=h;exact ag.of (h.e _ _ hl)) ?_ ?_
   ·rintro i v σ H4 U ⟨k1,k2,k3,k4,k5,k6,k7,ps,rfl,mi⟩;rw[Fu]at U;obtain⟨a,ha,rfl⟩:=FE.mp U;obtain⟨x,bv,cd⟩:=cg hp ha;have ce:=hin x (FC bv);obtain⟨i1,i2,i3,i4⟩:=ce;refine dH (aj.of (mi.e _ _ cd)) rfl ?_;walk_at"";refine fE (λmm σ H'=>H'=H4/\∃y:Nat,σ=[Vo (.ref L),Vo (.int (b:Nat)),Vo (.int (s':Nat)),Vo (.ref l),Vo (.ref B),Vo (.ref wl),Vo (.int x.1),Vo (.int (y:Nat)),k3,k4,k5,k6,k7]/\red b s' y=red b s' x.2.toNat/\mm=y)
     (λσ H'=>H'=H4/\∃y:Nat,σ=[Vo (.ref L),Vo (.int (b:Nat)),Vo (.int (s':Nat)),Vo (.ref l),Vo (.ref B),Vo (.ref wl),Vo (.int x.1),Vo (.int (y:Nat)),k3,k4,k5,k6,k7]/\y=red b s' x.2.toNat) x.2.toNat ⟨rfl,x.2.toNat,by rw[FG i3];rfl,rfl,rfl⟩ ?_ ?_
    ·rintro mm σ H5 ⟨rfl,y,rfl,hy,rfl⟩;walk_at"";by_cases R:(b:Int)+(s':Int)<=(mm:Int)
     ·rw[Gp R];refine av ⟨_,λ_ _ h=>h,?_⟩;walk_at"";refine⟨mm-s',by omega,rfl,mm-s',?_,?_,rfl⟩
      ·rw[show ((mm-s':Nat):Int)=(mm:Int)-(s':Int) by omega];rfl
      ·rw[sM (by omega)];exact hy
     ·rw[Gn R];exact aw ⟨rfl,mm,rfl,by rw[←hy,iP (by omega)]⟩
    ·rintro σ H5 ⟨rfl,y,rfl,hy⟩;have a8:=gJ mi.pl;rw[Fs,Gi]at a8;walk_at"";refine⟨cJ (ag.of mi.wt),?_⟩;walk_at"";refine aK λt H6 e6 ht _=>?_;walk_at"";refine bX (e6 _ _ mi.wt) (by rw[Fs];exact Nat.lt_of_le_of_lt (show ps.length<=1000 by omega) (by decide)) ?_;walk_at"";refine⟨_,_,_,_,_,_,_,ps++[t],rfl,?_⟩;rw[List.take_add_one,bv,FJ];refine(mi.ext e6).push fr (z:=(x.1.toNat,red b s' x.2.toNat)) ?_;show H6 t=_;rw[ht,hy];show Vo (HO.tup [V.int x.1,V.int _])=Vo (HO.tup [V.int (x.1.toNat:Nat),V.int _]);rw[FG i1]
   ·rintro σ H4 ⟨k1,k2,k3,k4,k5,k6,k7,ps,rfl,mi⟩;rw[Fs,c8,FW]at mi;have d3:=ok.few;have bx:bs.length=ws.length:=be.1;walk_at"";refine fE (λmm σ H'=>∃k1 k2 k3 k4 k5 k6 k7 M ps zs,σ=[Vo (.ref L),Vo (.int (b:Nat)),Vo (.int (s':Nat)),Vo (.ref l),Vo (.ref B),Vo (.ref wl),k1,k2,k3,k4,k5,k6,k7]/\MI H H' B wl rs (b+s') M ps zs/\(∀z∈zs,z.1<rs.length/\z.2<b+s')/\iu ws b s' M zs/\(∀x∈xs,M x.1.toNat (red b s' x.2.toNat)=true\/(x.1.toNat,red b s' x.2.toNat)∈zs)/\mm=501*un M+zs.length/\mm<=800000)
     (λσ H'=>∃k1 k2 k3 k4 k5 k6 k7 M,σ=[Vo (.ref L),Vo (.int (b:Nat)),Vo (.int (s':Nat)),Vo (.ref l),Vo (.ref B),Vo (.ref wl),k1,k2,k3,k4,k5,k6,k7]/\Ext H H'/\Rows H' B rs (b+s') M/\oC ws b s' M/\∀x∈xs,M x.1.toNat (red b s' x.2.toNat)=true)
     (501*un (λ_ _=>false)+(xs.map λx=>(x.1.toNat,red b s' x.2.toNat)).length) ⟨_,_,_,_,_,_,_,_,_,_,rfl,mi,?_,?_,λx U=>.inr (List.mem_map.mpr ⟨x,U,rfl⟩),rfl,?_⟩ ?_ ?_
    ·intro z hz;obtain⟨x,U,rfl⟩:=List.mem_map.mp hz;obtain⟨z1,z2,_,_⟩:=hin x U;exact⟨by show x.1.toNat<rs.length;omega,jQ c6⟩
    ·intro k w _ x U;cases U
    ·have:=u4 (λ_ _=>false);rw[Fs];omega
    ·rintro mm σ H5 ⟨k1,k2,k3,k4,k5,k6,k7,M,ps,zs,rfl,mi,c0,hhalf,hst,b8,d8⟩;walk_at"";refine fK (ag.of mi.wt) ?_;walk_at"";have a8:=gJ mi.pl;rw[Fs];by_cases h0:zs.length=0
     ·rw[Gn (show ¬(0:Int)<((ps.length:Nat):Int) by omega)];have hz:zs=[]:=List.length_eq_zero_iff.mp h0;subst hz;refine aw ⟨_,_,_,_,_,_,_,M,rfl,mi.e,mi.rows,?_,?_⟩
      ·intro w hw x _ U;obtain⟨k,hk⟩:=Gg hw;exact(hhalf k w hk x U).imp λy hy=>hy.elim id (λR=>by cases R)
      ·intro x U;exact(hst x U).elim id (λR=>by cases R)
     ·rw[Gp (show(0:Int)<((ps.length:Nat):Int) by omega)];refine av ⟨_,λ_ _ h=>h,?_⟩;obtain⟨N,z,rfl⟩:∃N z,zs=N++[z]:=⟨_,_,(List.dropLast_concat_getLast (λR=>h0 (by rw[R];rfl))).symm⟩;obtain⟨Z,p,rfl⟩:∃Z p,ps=Z++[p]:=⟨_,_,(List.dropLast_concat_getLast (λR=>by rw[R]at a8;simp at a8)).symm⟩;have cf:Z.length=N.length:=by simpa using a8
      obtain⟨C,x0⟩:=z;obtain⟨b5,a1⟩:=MI.pop fr mi cf;have a9:=c0 (C,x0) (by simp);dsimp only at a9;have b6:∀z∈N,z.1<rs.length/\z.2<b+s':=λz hz=>c0 z (FQ.mpr (.inl hz));have c1:=mi.wt;obtain⟨r,ab⟩:∃r,rs[C]?=Vo r:=⟨_,Ft a9.1⟩;walk_at"";refine⟨cJ (ag.of c1),?_⟩;refine⟨wl,_,.ref p,rfl,rfl,c1,by simp,?_⟩;rw[show (List.map V.ref (Z++[p])).dropLast=List.map V.ref Z by simp];generalize upd H5 wl (.lst (List.map V.ref Z))=H6 at b5 a1 ⊢;refine dH (aj.of b5) rfl ?_;walk_at"";refine fY ?_;walk_at"";refine aE (ag.of a1.rows.1) (v:=.ref r) (fk (by rw[Fu,ab];rfl)) ?_;walk_at"";refine aE (ag.of (a1.rows.2 C r ab)) (cR (by omega) (by omega)) ?_;rw[FF];walk_at"";cases hM:M C x0 with
      | true=>
       refine aw ?_;walk_at"";rw[FK,List.length_singleton]at b8;refine⟨501*un M+N.length,by omega,_,_,_,_,_,_,_,M,Z,N,rfl,a1,b6,hhalf.drop hM,λx U=>?_,rfl,by omega⟩;rcases hst x U with h|h
       ·exact .inl h
       ·rcases FQ.mp h with h|h
        ·exact .inr h
        ·have:=FD.mp h;rw[(Prod.mk.inj this).1,(Prod.mk.inj this).2];exact .inl hM
      | false=>
       refine av ?_;walk_at"";refine aE (ag.of a1.rows.1) (v:=.ref r) (fk (by rw[Fu,ab];rfl)) ?_;walk_at"";refine fI (a1.rows.2 C r ab) (fB (by omega) (by rw[bS];omega)) ?_;rw[FF];have au:=a1.mark fr ab a9.2;generalize upd H6 r _=H7 at au ⊢;walk_at"";refine az (aj.of (au.e _ _ hh)) (v:=.ref c7) rfl ?_;walk_at"";refine eT (aj.of (au.e _ _ b4)) ?_;refine gK (xs:=bs.map V.ref) (λj σ H'=>∃k1 k2 k5 k6 k7 S d,σ=[Vo (.ref L),Vo (.int (b:Nat)),Vo (.int (s':Nat)),Vo (.ref l),Vo (.ref B),Vo (.ref wl),k1,k2,Vo (.int (C:Nat)),Vo (.int (x0:Nat)),k5,k6,k7]/\MI H H' B wl rs (b+s') (put2 M C x0) S d/\(∀z∈d,z.1<rs.length/\z.2<b+s')/\HX ws b s' (put2 M C x0) d C x0 j/\(∀z∈N,z∈d)/\d.length<=N.length+4*j) ⟨_,_,_,_,_,Z,N,rfl,au,b6,hhalf.mark,λz h=>h,by omega⟩ (λj σ H' _ h=>by obtain⟨_,_,_,_,_,_,_,_,h,_⟩:=h;exact aj.of (h.e _ _ b4)) ?_ ?_
       ·rintro j v σ H8 U ⟨ch,ac,ci,cl,co,S,d,rfl,W,ad,b0,hsub,hlen⟩;rw[Fu]at U;obtain⟨wb,hb,rfl⟩:=FE.mp U;have hj:j<ws.length:=by rw[←bx];exact(FA.mp hb).1
        have b1:ws[j]?=Vo ws[j]:=Ft hj;have c2:=W.e _ _ (be.2 j wb _ hb b1);generalize ws[j]=w at b1 c2;have cp:=ok.ok w (FC b1);obtain⟨o1,o2,o3,o4,o5,o6⟩:=cp;have d4:=gJ W.pl;have d9:=u4 M;rw[FK,List.length_singleton]at b8;refine dH (aj.of c2) rfl ?_;walk_at"";have ak:w.other.toNat<rs.length:=by omega
        refine eZ (λJ H'=>J=[Vo (.ref L),Vo (.int (b:Nat)),Vo (.int (s':Nat)),Vo (.ref l),Vo (.ref B),Vo (.ref wl),Vo (.int w.room),ac,Vo (.int (C:Nat)),Vo (.int (x0:Nat)),Vo (.str w.deed),Vo (.int w.other),Vo (.str w.sign)]/\∃a2 I,MI H H' B wl rs (b+s') (put2 M C x0) a2 I/\(∀z∈I,z.1<rs.length/\z.2<b+s')/\(∀z∈d,z∈I)/\I.length<=d.length+1/\(w.room=C->w.deed = "up"->(w.other.toNat,if x0+1=b+s' then b else x0+1)∈I)) ?_ ?_
        ·walk_at"";by_cases Y:w.room=(C:Int)
         ·rw[Gp Y];refine av ?_;walk_at"";refine fD (rd_exb ?_);by_cases hd:w.deed = "up"
          ·rw[Gp hd];refine av ?_;walk_at"";refine⟨cJ (ag.of W.wt),?_⟩;walk_at"";refine aK λu1 G1 f1 b7 _=>?_;walk_at"";refine aE (ag.of b7) (v:=.int ((if x0+1=b+s' then b else x0+1:Nat):Int)) ?_ ?_
           ·by_cases R:x0+1=b+s'
            ·rw[Gr R,Gp (show(x0:Int)+1=(b:Int)+(s':Int) by omega)];rfl
            ·rw[Gq R,Gn (show ¬(x0:Int)+1=(b:Int)+(s':Int) by omega)];rfl
           walk_at"";refine aK λt G2 f2 ht _=>?_;have c3:=f1.trans f2;walk_at"";refine bX (c3 _ _ W.wt) (by rw[Fs];exact Nat.lt_of_le_of_lt (show S.length<=900000 by omega) (by decide)) ?_;walk_at"";refine⟨rfl,S++[t],d++[(w.other.toNat,if x0+1=b+s' then b else x0+1)],(W.ext c3).push fr ?_,jq ad ⟨ak,by dsimp only;split<;>omega⟩,λz h=>FQ.mpr (.inl h),by simp,λ_ _=>by simp⟩;show G2 t=Vo (.tup [.int (w.other.toNat:Nat),.int ((if x0+1=b+s' then b else x0+1:Nat):Int)]);rw[ht,FG o3]
          ·rw[Gn hd];refine aw ?_;walk_at"";exact⟨rfl,S,d,W,ad,λz h=>h,by omega,λ_ h=>absurd h hd⟩
         ·rw[Gn Y];refine aw ?_;walk_at"";exact⟨rfl,S,d,W,ad,λz h=>h,by omega,λh=>absurd h Y⟩
        ·rintro J H9 ⟨rfl,a2,I,a3,b2,c4,da,cr⟩;have d5:=gJ a3.pl;walk_at"";refine eZ (λJ H'=>J=[Vo (.ref L),Vo (.int (b:Nat)),Vo (.int (s':Nat)),Vo (.ref l),Vo (.ref B),Vo (.ref wl),Vo (.int w.room),ac,Vo (.int (C:Nat)),Vo (.int (x0:Nat)),Vo (.str w.deed),Vo (.int w.other),Vo (.str w.sign)]/\∃G c,MI H H' B wl rs (b+s') (put2 M C x0) G c/\(∀z∈c,z.1<rs.length/\z.2<b+s')/\(∀z∈I,z∈c)/\c.length<=I.length+2/\(w.room=C->w.deed = "down"->(0<x0->(w.other.toNat,x0-1)∈c)/\(x0=b->(w.other.toNat,b+s'-1)∈c))) ?_ ?_
         ·walk_at"";by_cases Y:w.room=(C:Int)
          ·rw[Gp Y];refine av ?_;walk_at"";refine fD (rd_exb ?_);by_cases hd:w.deed = "down"
           ·rw[Gp hd];refine av ?_;walk_at"";refine eZ (λJ H'=>J=[Vo (.ref L),Vo (.int (b:Nat)),Vo (.int (s':Nat)),Vo (.ref l),Vo (.ref B),Vo (.ref wl),Vo (.int w.room),ac,Vo (.int (C:Nat)),Vo (.int (x0:Nat)),Vo (.str w.deed),Vo (.int w.other),Vo (.str w.sign)]/\∃G c,MI H H' B wl rs (b+s') (put2 M C x0) G c/\(∀z∈c,z.1<rs.length/\z.2<b+s')/\(∀z∈I,z∈c)/\c.length<=I.length+1/\(0<x0->(w.other.toNat,x0-1)∈c)) ?_ ?_
            ·walk_at"";by_cases ba:0<x0
             ·rw[Gp (show(0:Int)<(x0:Int) by omega)];refine av ?_;walk_at"";refine⟨cJ (ag.of a3.wt),?_⟩;walk_at"";refine aK λt G2 f2 ht _=>?_;walk_at"";refine bX (f2 _ _ a3.wt) (by rw[Fs];exact Nat.lt_of_le_of_lt (show a2.length<=900000 by omega) (by decide)) ?_;walk_at"";refine⟨rfl,a2++[t],I++[(w.other.toNat,x0-1)],(a3.ext f2).push fr ?_,jq b2 ⟨ak,by dsimp only;omega⟩,λz h=>FQ.mpr (.inl h),by simp,λ_=>by simp⟩;show G2 t=Vo (.tup [.int (w.other.toNat:Nat),.int ((x0-1:Nat):Int)]);rw[ht,FG o3,show ((x0-1:Nat):Int)=(x0:Int)-1 by omega]
             ·rw[Gn (show ¬(0:Int)<(x0:Int) by omega)];refine aw ?_;walk_at"";exact⟨rfl,a2,I,a3,b2,λz h=>h,by omega,λh=>absurd h ba⟩
            ·rintro J cs ⟨rfl,G,c,o,a0,a5,ct,am⟩;have c5:=gJ o.pl;walk_at"";refine fY ?_;walk_at"";by_cases cu:x0=b
             ·rw[Gp (show(x0:Int)=(b:Int) by omega)];refine av ?_;walk_at"";refine⟨cJ (ag.of o.wt),?_⟩;walk_at"";refine aK λt G2 f2 ht _=>?_;walk_at"";refine bX (f2 _ _ o.wt) (by rw[Fs];exact Nat.lt_of_le_of_lt (show G.length<=900000 by omega) (by decide)) ?_;walk_at"";refine⟨rfl,G++[t],c++[(w.other.toNat,b+s'-1)],(o.ext f2).push fr ?_,jq a0 ⟨ak,by dsimp only;omega⟩,λz h=>FQ.mpr (.inl (a5 z h)),by rw[FK,List.length_singleton];omega,λ_ _=>⟨λh=>FQ.mpr (.inl (am h)),λ_=>by simp⟩⟩;show G2 t=Vo (.tup [.int (w.other.toNat:Nat),.int ((b+s'-1:Nat):Int)]);rw[ht,FG o3,show ((b+s'-1:Nat):Int)=(b:Int)+(s':Int)-1 by omega]
             ·rw[Gn (show ¬(x0:Int)=(b:Int) by omega)];refine aw ?_;walk_at"";exact⟨rfl,G,c,o,a0,a5,by omega,λ_ _=>⟨am,λh=>absurd h cu⟩⟩
           ·rw[Gn hd];refine aw ?_;walk_at"";exact⟨rfl,a2,I,a3,b2,λz h=>h,by omega,λ_ h=>absurd h hd⟩
          ·rw[Gn Y];refine aw ?_;walk_at"";exact⟨rfl,a2,I,a3,b2,λz h=>h,by omega,λh=>absurd h Y⟩
         ·rintro J cs ⟨rfl,G,c,o,a0,a5,ct,am⟩;have c5:=gJ o.pl;have O:∀J H' bb a4,J=[Vo (.ref L),Vo (.int (b:Nat)),Vo (.int (s':Nat)),Vo (.ref l),Vo (.ref B),Vo (.ref wl),Vo (.int w.room),ac,Vo (.int (C:Nat)),Vo (.int (x0:Nat)),Vo (.str w.deed),Vo (.int w.other),Vo (.str w.sign)]->MI H H' B wl rs (b+s') (put2 M C x0) bb a4->(∀z∈a4,z.1<rs.length/\z.2<b+s')->(∀z∈c,z∈a4)->a4.length<=c.length+1->(w.room=C->w.deed = "stay"\/w.deed = "zero"/\x0=0->(w.other.toNat,x0)∈a4)->∃k1 k2 k5 k6 k7 S d,J=[Vo (.ref L),Vo (.int (b:Nat)),Vo (.int (s':Nat)),Vo (.ref l),Vo (.ref B),Vo (.ref wl),k1,k2,Vo (.int (C:Nat)),Vo (.int (x0:Nat)),k5,k6,k7]/\MI H H' B wl rs (b+s') (put2 M C x0) S d/\(∀z∈d,z.1<rs.length/\z.2<b+s')/\HX ws b s' (put2 M C x0) d C x0 (j+1)/\(∀z∈N,z∈d)/\d.length<=N.length+4*(j+1):=by
           intro J H' bb a4 cv d0 d1 an db d2;refine⟨_,_,_,_,_,bb,a4,cv,d0,d1,b0.step (λz h=>an z (a5 z (c4 z h))) b1 (λY=>?_),λz h=>an z (a5 z (c4 z (hsub z h))),by omega⟩;have g:w.room=(C:Int):=by omega
           exact⟨λh=>.inr (an _ (a5 _ (cr g h))),λh=>⟨λh'=>.inr (an _ ((am g h).1 h')),λh'=>.inr (an _ ((am g h).2 h'))⟩,λh=>.inr (d2 g h)⟩
          walk_at"";refine fY ?_;walk_at"";by_cases Y:w.room=(C:Int)
          ·rw[Gp Y];refine av ?_;walk_at"";refine fD (rd_exb ?_);by_cases hd:w.deed = "stay"
           ·rw[Gp hd];refine av (av ?_);walk_at"";refine⟨cJ (ag.of o.wt),?_⟩;walk_at"";refine aK λt G2 f2 ht _=>?_;walk_at"";refine bX (f2 _ _ o.wt) (by rw[Fs];exact Nat.lt_of_le_of_lt (show G.length<=900000 by omega) (by decide)) ?_;walk_at"";refine O _ _ (G++[t]) (c++[(w.other.toNat,x0)]) rfl ((o.ext f2).push fr ?_) (jq a0 ⟨ak,a9.2⟩) (λz h=>FQ.mpr (.inl h)) (by simp) λ_ _=>by simp
            show G2 t=Vo (.tup [.int (w.other.toNat:Nat),.int (x0:Int)]);rw[ht,FG o3]
           ·rw[Gn hd];refine aw ?_;walk_at"";refine fD (rd_exb ?_);by_cases bc:w.deed = "zero"
            ·rw[Gp bc];refine av ?_;walk_at"";by_cases ba:x0=0
             ·rw[Gp (show(x0:Int)=0 by omega)];refine av ?_;walk_at"";refine⟨cJ (ag.of o.wt),?_⟩;walk_at"";refine aK λt G2 f2 ht _=>?_;walk_at"";refine bX (f2 _ _ o.wt) (by rw[Fs];exact Nat.lt_of_le_of_lt (show G.length<=900000 by omega) (by decide)) ?_;walk_at"";refine O _ _ (G++[t]) (c++[(w.other.toNat,x0)]) rfl ((o.ext f2).push fr ?_) (jq a0 ⟨ak,a9.2⟩) (λz h=>FQ.mpr (.inl h)) (by simp) λ_ _=>by simp
              show G2 t=Vo (.tup [.int (w.other.toNat:Nat),.int (x0:Int)]);rw[ht,FG o3]
             ·rw[Gn (show ¬(x0:Int)=0 by omega)];refine aw ?_;walk_at"";exact O _ _ G c rfl o a0 (λz h=>h) (by omega) λ_ h=>h.elim (λh=>absurd h hd) λh=>absurd h.2 ba
            ·rw[Gn bc];refine aw (aw ?_);walk_at"";exact O _ _ G c rfl o a0 (λz h=>h) (by omega) λ_ h=>h.elim (λh=>absurd h hd) λh=>absurd h.1 bc
          ·rw[Gn Y];refine aw ?_;walk_at"";exact O _ _ G c rfl o a0 (λz h=>h) (by omega) λh=>absurd h Y
       ·rintro σ H8 ⟨ch,ac,ci,cl,co,S,d,rfl,W,ad,b0,hsub,hlen⟩;rw[Fs,bx]at b0 hlen;have hu:=y7 (M:=M) (i:=C) (x:=x0) (by omega) (by omega) hM;rw[FK,List.length_singleton]at b8;refine⟨501*un (put2 M C x0)+d.length,by omega,_,_,_,_,_,_,_,put2 M C x0,S,d,rfl,W,ad,b0.all,λx U=>?_,rfl,by omega⟩;rcases hst x U with h|h
        ·exact .inl (yC h)
        ·rcases FQ.mp h with h|h
         ·exact .inr (hsub _ h)
         ·have:=FD.mp h;rw[(Prod.mk.inj this).1,(Prod.mk.inj this).2];exact .inl EH
    ·rintro σ H5 ⟨k1,k2,k3,k4,k5,k6,k7,M,rfl,e5,hR,hC,hS⟩;walk_at"";exact q B rs M H5 e5 fr.q0 ca hR hC hS
def ck.put{H:Hp}{f:Vb}{xs ys:List V}{v:V}{b s:Int}{o a:List Int}(c:H f=Vo (.lst xs))(h:ck H v b s o a):ck (upd H f (.lst ys)) v b s o a:=by
 obtain⟨p,q,r,rfl,h1,h2,d⟩:=h;refine⟨p,q,r,rfl,?_,?_,?_⟩
 ·rw[aG (dM h1 c (by intro z;cases z))];exact h1
 ·rw[aG (dM h2 c (by intro z;cases z))];exact h2
 ·rw[aG (dM d c (by intro z;cases z))];exact d
theorem cE.put{H:Hp}{f:Vb}{xs ys:List V}{vs:List V}{ts:List StT}(a:H f=Vo (.lst xs))(h:cE H vs ts):cE (upd H f (.lst ys)) vs ts:=Paired.imp' (λ_ _ z=>⟨z.1.put a,z.2⟩) h
abbrev stM(b s:Nat)(M:Nat->Nat->Bool)(i:Nat):StT:=⟨b,s,row (M i) 0 b,row (M i) b s⟩
def dN(b s:Nat)(M:Nat->Nat->Bool)(n:Nat):List StT:=(Gm n).map (stM b s M)
def wM{b s:Nat}{M:Nat->Nat->Bool}{n i:Nat}(h:i<n):(dN b s M n)[i]?=Vo (stM b s M i):=by unfold dN;rw[Fu,List.getElem?_range h];rfl
def oD{b s:Nat}{M:Nat->Nat->Bool}{n:Nat}:(dN b s M n).length=n:=by simp[dN]
inductive oo(K:Fn)(vs:List V)(H:Hp)(Q:VK)(E:XK):Prop|mk:∀q rs M b s,vs=[.ref q,.int (b:Nat),.int (s:Nat)]->1<=s->b+s<=800->Rows H q rs (b+s) M->rs.length<=100->(∀fq xs H',Ext H H'->H fq=Vp->H' fq=Vo (.lst xs)->cE H' xs (dN b s M rs.length)->Q (.ref fq) H')->oo K vs H Q E
abbrev me:Vl:=stq 83
def uU:FnScope ["_law_marks_here","_law_base","_law_step","_law_found","_law_row","_law_once"] ["_law_marks_here","_law_base","_law_step"] (aH me):=⟨rfl,rfl,rfl,by decide +kernel,rfl,by decide +kernel,by decide +kernel⟩
def Cg{P:Vd}{w:Ve}{mg:Vn->Option Va}{base:Vh}(D:Dfn K mg "_law_stairs_of" me ["_law_marks_here","_law_base","_law_step"])(T:Blt mg):Cal P w K mg base "_law_stairs_of" 1 ["_law_marks_here","_law_base","_law_step"] (oo K):=by
 have nd:=(uU).nd;refine D.ok uU (λvs H Q E h=>?_) (λX S H vs Q E h=>?_)
 ·obtain⟨q,rs,M,b,s,rfl,_⟩:=h;rfl
 ·obtain⟨f,cdv,A,outer,s,H0,E0,rfl,o⟩:=S;obtain⟨U,rs,M,b,s',rfl,hs,W,u,Y,q⟩:=h;refine⟨_,(@ai _ _ _ _ _ (@aC _ _ 3 _ _ _ _ nd rfl (Or.inl rfl) (@bo _ _ _ _ ae) rfl (Or.inl rfl))
    (@ai _ _ _ _ _ (bq PassesOwn.never rfl (bP K (pv 0)) (aA (i:=4) nd rfl (Or.inr rfl)) (@ai _ _ _ _ _ (@aC _ _ 5 _ _ _ _ nd rfl (Or.inl rfl) (dQ (fA K) rfl T.tuple_ PyProof.Rows.boot_tuple (@aa _ _ _ _ _ (bK ["_law_x"] [4] (cb rfl T.range_ (@aa _ _ _ _ _ (pv 1) ae rfl)) (λ_=>(aA (i:=0) (show(["_law_x","_law_row"]:List Vn).Nodup from by decide +kernel) rfl (Or.inl rfl) (Or.inr rfl))) (λ_=>(dw (aX (@ah _ _ _ _ _ _ _ (aF K) (pv 1) (pv 0) (λ_ _=>rfl))))) (λ_=>(pv 0))) ae rfl)) rfl (Or.inl rfl))
    (@ao _ _ _ (bz (bT K Fz FO FP bZ (pv 3) (@aa _ _ _ _ _ (@bf _ _ _ _ _ (@aa _ _ _ _ _ (pv 1) (@aa _ _ _ _ _ (pv 2) (@aa _ _ _ _ _ (pv 5) (@aa _ _ _ _ _ (dQ (fA K) rfl T.tuple_ PyProof.Rows.boot_tuple (@aa _ _ _ _ _ (bK ["_law_x"] [4] (lC rfl T.range_ (@aa _ _ _ _ _ (pv 1) (@aa _ _ _ _ _ (aq aN (pv 1) (pv 2)) ae rfl) rfl)) (λ_=>(aA (i:=0) (show(["_law_x","_law_row"]:List Vn).Nodup from by decide +kernel) rfl (Or.inl rfl) (Or.inr rfl))) (λ_=>(dw (aX (@ah _ _ _ _ _ _ _ (aF K) (pv 1) (pv 0) (λ_ _=>rfl))))) (λ_=>(pv 0))) ae rfl)) ae rfl) rfl) rfl) rfl)) ae rfl))))))
    (@ao _ _ _ (@aB _ _ _ _ (pv 3))))),?_⟩
  walk_at"";refine aK λfq H1 G Z hfn=>?_;walk_at"";refine bN (ag.of (G _ _ u.1)) ?_;refine forL (xs:=rs.map V.ref) (λi σ H'=>∃k1 k2 xs,σ=[Vo (.ref U),Vo (.int (b:Nat)),Vo (.int (s':Nat)),Vo (.ref fq),k1,k2]/\Ext H H'/\H' fq=Vo (.lst xs)/\cE H' xs (dN b s' M i)) ⟨_,_,[],rfl,G,Z,.nil⟩ (λi σ H' _ h=>by obtain⟨_,_,_,_,h,_⟩:=h;exact ag.of (h _ _ u.1)) ?_ ?_
  ·rintro i v σ H2 I ⟨k1,k2,xs,rfl,n,a,g⟩;rw[Fu]at I;obtain⟨r,o,rfl⟩:=FE.mp I;have hrow:=n _ _ (u.2 i r o);have hi:=(FA.mp o).1;have x:=g.len;rw[oD]at x;walk_at"";refine cj (by omega) ?_;refine dD (λj ys H'=>H'=H2/\ys=(row (M i) 0 j).map V.int) (bw (by omega)) ⟨rfl,rfl⟩ ?_ ?_ ?_
   ·rintro j ys H' _ ⟨_,rfl⟩;rw[Fs];exact gn _ 0 j
   ·rintro j ys H' hj ⟨rfl,k⟩;walk_at"";refine aE (ag.of hrow) (cR (by omega) (by omega)) ?_;walk_at"";rw[show ((0:Int)+(j:Int)).toNat=j by omega];have J:M i (0+j)=M i j:=by rw[Nat.zero_add]
    cases l:M i j with
    | true=>
     refine av ?_;walk_at"";refine⟨rfl,?_⟩;rw[←gw k (J.trans l)];congr 3
     all_goals omega
    | false=>exact aw ⟨rfl,gW k (J.trans l)⟩
   ·rintro ys H' p ⟨y,rfl⟩ hp;subst y;rw[FF];walk_at"";refine fG (ag.of aI) ?_;have L:Ext H' (upd H' p (.lst ((row (M i) 0 b).map V.int))):=aV hp;generalize upd H' p (.lst ((row (M i) 0 b).map V.int))=H3 at L;refine bL λt1 H4 e4 z _=>?_;have d:=L.trans e4;walk_at"";refine⟨cJ (ag.of (d _ _ a)),?_⟩;walk_at"";refine jX (by omega) ?_;rw[show (b:Int)+(s':Int)-(b:Int)=(s':Int) by omega];refine dD (λj ys e=>e=H4/\ys=(row (M i) b j).map V.int) (bw (by omega)) ⟨rfl,rfl⟩ ?_ ?_ ?_
    ·rintro j ys H' _ ⟨_,rfl⟩;rw[Fs];exact gn _ _ j
    ·rintro j ys e hj ⟨rfl,k⟩;walk_at"";refine aE (ag.of (d _ _ hrow)) (cR (by omega) (by omega)) ?_;walk_at"";rw[show ((b:Int)+(j:Int)).toNat=b+j by omega];cases l:M i (b+j)with
     | true=>
      refine av ?_;walk_at"";refine⟨rfl,?_⟩;rw[←gw k l];congr 3
      all_goals omega
     | false=>exact aw ⟨rfl,gW k l⟩
    ·rintro ys e N ⟨y,rfl⟩ B;subst y;rw[FF];walk_at"";refine fG (ag.of aI) ?_;have O:Ext e (upd e N (.lst ((row (M i) b s').map V.int))):=aV B;generalize upd e N (.lst ((row (M i) b s').map V.int))=H6 at O;refine bL λt2 H7 e7 C _=>?_;walk_at"";refine aK λt H8 R ht _=>?_;have m:=O.trans (e7.trans R);have c:=d.trans m;walk_at"";refine bX (c _ _ a) (Nat.lt_of_le_of_lt (show xs.length<=1000 by omega) (by decide)) ?_;walk_at"";have hst:ck H8 (.ref t) (b:Nat) (s':Nat) (row (M i) 0 b) (row (M i) b s'):=⟨t,t1,t2,rfl,ht,m _ _ z,R _ _ C⟩;have F:Gd (b:Nat) (s':Nat) (row (M i) 0 b) (row (M i) b s'):=⟨jh _ _ _ hs,by omega,by omega⟩;refine⟨_,_,xs++[.ref t],rfl,cA (n.trans c) hfn,aI,?_⟩;unfold dN;rw[List.range_succ,FJ];exact kc ((g.ext c).put (c _ _ a)) ⟨hst.put (c _ _ a),F⟩
  ·rintro σ H2 ⟨k1,k2,xs,rfl,n,a,g⟩;rw[Fs]at g;walk_at"";exact q fq xs H2 n hfn a g
theorem nj{f g:Nat->Bool}{lo:Nat}:∀{n:Nat},(∀y,lo<=y->y<lo+n->f y=g y)->row f lo n=row g lo n
 | 0,_=>rfl
 | n+1,h=>by rw[gN,gN,nj (n:=n) λy h1 h2=>h y h1 (by omega),h (lo+n) (by omega) (by omega)]
def A7{b s:Nat}:∀x,b<=x->red b s (x+s)=red b s x:=λx a=>by have:=sM (b:=b) (s:=s) (x:=x+s) (by omega);rw[show x+s-s=x by omega]at this;exact this.symm
def jr{b s:Nat}(hs:1<=s)(M:Nat->Nat->Bool)(i x:Nat):(stM b s M i).f x=M i (red b s x):=by
 have a:aS (λx=>M i (red b s x)) b s:=λx c=>by dsimp only;rw[A7 x c]
 have h1:=mH hs a x;have d:row (λx=>M i (red b s x)) 0 b=row (M i) 0 b:=nj λy h1 h2=>by rw[iP (by omega)]
 have e:row (λx=>M i (red b s x)) b s=row (M i) b s:=nj λy h1 h2=>by rw[iP (by omega)]
 rw[d,e]at h1;exact h1
def xj{b s x:Nat}(hs:1<=s):red b s (x+1)=if red b s x+1=b+s then b else red b s x+1:=by
 by_cases h1:x+1<b+s
 ·rw[iP h1,iP (show x<b+s by omega),Gq (by omega)]
 ·have a:red b s (x+1)=b+(x+1-b) % s:=by unfold red;rw[Gq (by omega)]
  have c:red b s x=b+(x-b) % s:=by unfold red;rw[Gq (by omega)]
  rw[a,c,show x+1-b=x-b+1 by omega];have d:=Nat.mod_lt (x-b) hs;have hd:=Nat.div_add_mod (x-b) s;by_cases e:(x-b) % s+1=s
  ·rw[Gr (by omega)];have:x-b+1=s*((x-b) / s+1):=by rw[Nat.mul_add,Nat.mul_one];omega
   rw[this,Nat.mul_mod_right];rfl
  ·rw[Gq (by omega)];have:x-b+1=s*((x-b) / s)+((x-b) % s+1):=by omega
   rw[this,Nat.mul_add_mod,Nat.mod_eq_of_lt (by omega)];have h':s*((x-b) / s)+((x-b) % s+1)=x-b+1:=by omega
   omega
def Ew{ws:List Way}{m:Int}{b s n:Nat}{M:Nat->Nat->Bool}(ok:∀w∈ws,w.Ok m)(j:m<=(n:Nat))(hs:1<=s)(h:oC ws b s M):cls ws (dN b s M n):=by
 intro w c k l h1 h2 a;obtain⟨o1,o,p,q,e,_⟩:=ok w c;rw[wM (by omega)]at h1 h2;cases h1;cases h2;have key:=h w c;unfold eX at a;rcases e with hd|hd|hd|hd
 ·rw[hd,Gq (by decide +kernel),Gr rfl]at a;obtain⟨x,k1,k2⟩:=a;rw[jr hs]at k1 k2;have:=(key _ (jQ hs) k1).1 hd;rw[xj hs,this]at k2;cases k2
 ·rw[hd,Gq (by decide +kernel),Gq (by decide +kernel),Gr rfl]at a;obtain⟨x,k1,k2⟩:=a;rw[jr hs]at k1 k2;have g:=(key _ (jQ hs) k1).2.1 hd;rw[xj hs]at g;have hlt:=jQ (b:=b) (x:=x) hs;by_cases d:red b s x+1=b+s
  ·rw[Gr d]at g;have:=g.2 rfl;rw[show b+s-1=red b s x by omega,k2]at this;cases this
  ·rw[Gq d]at g;have:=g.1 (by omega);rw[show red b s x+1-1=red b s x by omega,k2]at this;cases this
 ·rw[hd,Gq (by decide +kernel),Gq (by decide +kernel),Gq (by decide +kernel)]at a;obtain⟨x,k1,k2⟩:=a;rw[jr hs]at k1 k2;have:=(key _ (jQ hs) k1).2.2 (.inl hd);rw[this]at k2;cases k2
 ·rw[hd,Gr rfl]at a;obtain⟨k1,k2⟩:=a;rw[jr hs]at k1 k2;have i:red b s 0=0:=iP (by omega);rw[i]at k1 k2;have:=(key _ (by omega) k1).2.2 (.inr ⟨hd,rfl⟩);rw[this]at k2;cases k2
def Bl{z y c s:Int}(hs:1<=s)(a:(y-z) % s=0)(h1:y<=c)(h2:c<y+s):(c-z) % s=0↔c=y:=by obtain⟨k,b⟩:=Int.dvd_of_emod_eq_zero a;rw[show c-z=s*k+(c-y) by omega,Int.mul_add_emod_self_left,Int.emod_eq_of_lt (by omega) (by omega)];omega
inductive qG(K:Fn)(vs:List V)(H:Hp)(Q:VK)(E:XK):Prop|mk:∀v t n,vs=[v,.int (n:Nat)]->dg H v t->t.b<=n->n<=20000->(∀q H',Ext H H'->H q=Vp->H' q=Vo (.lst (aL n t.f))->Q (.ref q) H')->qG K vs H Q E
abbrev rM:Vl:=stq 78
def si:FnScope ["_law_stair","_law_many","_law_bits_here","_law_x"] ["_law_stair","_law_many"] (aH rM):=⟨rfl,rfl,rfl,by decide +kernel,rfl,by decide +kernel,by decide +kernel⟩
def zU{P:Vd}{w:Ve}{mg:Vn->Option Va}{base:Vh}(D:Dfn K mg "_law_bits" rM ["_law_stair","_law_many"])(T:Blt mg):Cal P w K mg base "_law_bits" 1 ["_law_stair","_law_many"] (qG K):=by
 have nd:=(si).nd;refine D.ok si (λvs H Q E h=>?_) (λX hX H vs Q E h=>?_)
 ·obtain⟨v,t,n,rfl,_⟩:=h;rfl
 ·obtain⟨f,cdv,A,outer,s,H0,E0,rfl,hr⟩:=hX;obtain⟨v,⟨b,s',o,a⟩,n,rfl,⟨⟨p,q',r,rfl,h1,h2,W⟩,l⟩,Y,a4,q⟩:=h;dsimp only at h1 h2 W l Y q;have hs:=l.ok.hs;have a5:=l.s8;have a6:=l.b3;refine⟨_,(ai (aC (i:=2) nd rfl (Or.inl rfl) (aq iZ (bo (aa aT ae)) (pv 1)))
    (ai (bq PassesOwn.never rfl (ft K (ah (ay K) (pv 0) af (λ_ _=>rfl))) (aA (i:=3) nd rfl (Or.inl rfl)) (ao (dE aT (fu (pv 2) (pv 3) set_list))))
    (ai (bq PassesOwn.never rfl (ft K (ah (ay K) (pv 0) af (λ_ _=>rfl))) (aA (i:=3) nd rfl (Or.inl rfl)) (ao (fF PassesOwn.never (aM dP (pv 3) (pv 1) (aJ _)) (ai (dE aT (fu (pv 2) (pv 3) set_list))
    (ao (aC (i:=3) nd rfl (Or.inl rfl) (aq aN (pv 3) (ah (ay K) (pv 0) af (λ_ _=>rfl)))))))))
    (ao (aB (pv 2)))))),?_⟩
  walk_at"";refine aK λm H1 e1 hm _=>?_;walk_at"";refine iH hm (by omega) (bw (by simp;omega)) (bL λk H2 e2 I Z=>?_);rw[jU,FF]at I;have u:Ext H H2:=e1.trans e2;have B:H k=Vp:=e1.none Z;walk_at"";refine az (aj.of (u _ _ h1)) rfl ?_;walk_at"";refine eT (aj.of (u _ _ h2)) ?_;refine gK (xs:=o.map V.int) (λi σ H'=>Ext H H'/\∃x,σ=[Vo (.ref p),Vo (.int (n:Nat)),Vo (.ref k),x]/\H' k=Vo (.lst (aL n λy=>(o.take i).contains (y:Int))))
   ⟨u,Vp,rfl,by simpa using I⟩ (λi σ H' _ h=>aj.of (h.1 _ _ h2)) ?_ ?_
  ·rintro i v' σ H' hi ⟨e,x,rfl,C⟩;obtain⟨z,rfl,J⟩:=fb hi;have a0:=(l.ok.ho.2 z (FC J));have d:o.take (i+1)=o.take i++[z]:=by rw[List.take_add_one,J];rfl
   walk_at"";refine fI C (fB (by omega) (by rw[bS];omega)) ?_;rw[gr _ _ (by omega)];refine⟨cA e B,_,rfl,?_⟩;rw[aI];congr 2;refine bY λy hy=>?_;rw[d,List.contains_append];by_cases L:y=z.toNat
   ·rw[Gr L];have:(y:Int)=z:=by omega
    rw[this];simp
   ·rw[Gq L];have:[z].contains (y:Int)=false:=by rw[Bool.eq_false_iff];intro M;rw[List.contains_iff_mem,FD]at M;omega
    rw[this,Bool.or_false]
  ·rintro σ H3 ⟨e3,x,rfl,N⟩;rw[Fs,FW]at N;walk_at"";refine az (aj.of (e3 _ _ h1)) rfl ?_;walk_at"";refine eT (aj.of (e3 _ _ W)) ?_;refine gK (xs:=a.map V.int) (λi σ H'=>Ext H H'/\∃x,σ=[Vo (.ref p),Vo (.int (n:Nat)),Vo (.ref k),x]/\H' k=Vo (.lst (aL n (fg s' o (a.take i)))))
    ⟨e3,_,rfl,by rw[N];congr 2;exact bY λy _=>by simp[fg]⟩ (λi σ H' _ h=>aj.of (h.1 _ _ W)) ?_ ?_
   ·rintro i v' σ H' hi ⟨e,x,rfl,C⟩;obtain⟨z,rfl,J⟩:=fb hi;have a0:=(l.ok.ha.2 z (FC J));have d:a.take (i+1)=a.take i++[z]:=by rw[List.take_add_one,J];rfl
    walk_at"";refine fE (λmm σ H'=>Ext H H'/\∃y:Int,z<=y/\(y-z) % (s':Int)=0/\σ=[Vo (.ref p),Vo (.int (n:Nat)),Vo (.ref k),Vo (.int y)]/\mm=((n:Int)-y).toNat/\H' k=Vo (.lst (aL n λc=>fg s' o (a.take i) c || (decide (z<=(c:Int)) && decide ((c:Int)<y) && ((c:Int)-z) % (s':Int) == 0))))
     (λσ H'=>Ext H H'/\∃x,σ=[Vo (.ref p),Vo (.int (n:Nat)),Vo (.ref k),x]/\H' k=Vo (.lst (aL n (fg s' o (a.take (i+1)))))) ((n:Int)-z).toNat ⟨e,z,Int.le_refl _,by rw[Int.sub_self];rfl,rfl,rfl,?_⟩ ?_ ?_
    ·rw[C];congr 2;refine bY λc _=>?_;rw[show (decide (z<=(c:Int)) && decide ((c:Int)<z) && ((c:Int)-z) % (s':Int) == 0)=false by
      by_cases M:z<=(c:Int)
      ·rw[Gn (show ¬(c:Int)<z by omega),Bool.and_false];rfl
      ·rw[Gn M];rfl,Bool.or_false]
    ·rintro mm σ H4 ⟨U,y,a1,F,rfl,a7,g⟩;walk_at"";by_cases O:y<(n:Int)
     ·rw[Gp O];refine av ⟨_,λ_ _ h=>h,?_⟩;walk_at"";refine fI g (fB (by omega) (by rw[bS];omega)) ?_;rw[gr _ _ (by omega)];have e5:=cA (o:=.lst (aL n λj=>if j=y.toNat then true else fg (↑s') o (List.take i a) j || (decide (z<=(j:Int)) && decide ((j:Int)<y) && ((j:Int)-z) % (s':Int) == 0))) U B;walk_at"";refine az (aj.of (e5 _ _ h1)) rfl ?_;walk_at"";refine⟨((n:Int)-(y+s')).toNat,by omega,e5,y+s',by omega,?_,rfl,rfl,?_⟩
      ·rw[show y+(s':Int)-z=y-z+s' by omega,Int.add_emod_right];exact F
      ·rw[aI];congr 2;refine bY λc M=>?_;by_cases G:c=y.toNat
       ·rw[Gr G];have:(c:Int)=y:=by omega
        rw[this,F,Gp a1,Gp (show y<y+(s':Int) by omega)];simp
       ·rw[Gq G];congr 1;by_cases R:z<=(c:Int)
        ·rw[Gp R,Bool.true_and,Bool.true_and];by_cases hlt:(c:Int)<y
         ·rw[Gp hlt,Gp (show(c:Int)<y+(s':Int) by omega)]
         ·rw[Gn hlt,Bool.false_and];by_cases S:(c:Int)<y+(s':Int)
          ·have a2:¬((c:Int)-z) % (s':Int)=0:=λa3=>G (by have:=(Bl hs F (by omega) S).mp a3;omega);simp[a2]
          ·rw[Gn S,Bool.false_and]
        ·rw[Gn R];simp
     ·rw[Gn O];refine aw ⟨U,_,rfl,?_⟩;rw[g];congr 2;refine bY λc M=>?_;rw[Gp (show(c:Int)<y by omega),Bool.and_true,d];unfold fg;rw[List.any_append,Bool.or_assoc];simp
    ·rintro σ H4 h4;exact h4
   ·rintro σ H4 ⟨U,x',rfl,g⟩;rw[Fs,FW]at g;walk_at"";refine q k H4 U B ?_;rw[g];congr 2;exact bY λy _=>wD l.ok y
def CN{a b k:Nat}(ha:1<=a)(hb:1<=b)(d:a*k<=cm a b)(h:¬b ∣ a*k):a*k+a<=cm a b:=by
 rw[kU]at d ⊢;obtain⟨c,e⟩:=Nat.dvd_lcm_left a b;rw[e]at d ⊢;have h1:k<=c:=Nat.le_of_mul_le_mul_left d ha;have h2:k≠c:=by rintro rfl;exact h (e ▸ Nat.dvd_lcm_right a b)
 rw[←Nat.mul_succ];exact Nat.mul_le_mul_left a (by omega)
def Cb{a b k:Nat}(ha:1<=a)(c:1<=k)(d:a*k<=cm a b)(h:b ∣ a*k):a*k=cm a b:=by rw[kU]at d ⊢;exact Nat.le_antisymm d (Nat.le_of_dvd (Nat.mul_pos ha c) (Nat.lcm_dvd (Nat.dvd_mul_right a k) h))
inductive jM(K:Fn)(vs:List V)(H:Hp)(Q:VK)(E:XK):Prop|mk:∀a b:Nat,vs=[.int a,.int b]->1<=a->1<=b->a<=10000->b<=10000->Q (.int (cm a b:Nat)) H->jM K vs H Q E
abbrev oQ:Vl:=stq 79
def wg:FnScope ["_law_one","_law_two","_law_far"] ["_law_one","_law_two"] (aH oQ):=⟨rfl,rfl,rfl,by decide +kernel,rfl,by decide +kernel,by decide +kernel⟩
def zK{P:Vd}{w:Ve}{mg:Vn->Option Va}{base:Vh}(D:Dfn K mg "_law_multiple" oQ ["_law_one","_law_two"])(T:Blt mg):Cal P w K mg base "_law_multiple" 1 ["_law_one","_law_two"] (jM K):=by
 have nd:=(wg).nd;refine D.ok wg (λvs H Q E h=>?_) (λX n H vs Q E h=>?_)
 ·obtain⟨a,b,rfl,_⟩:=h;rfl
 ·obtain⟨f,cdv,A,outer,s,H0,E0,rfl,r⟩:=n;obtain⟨a,b,rfl,ha,hb,d,e,q⟩:=h;have o:a<=cm a b:=by rw[kU];exact Nat.le_of_dvd (Nat.lcm_pos ha hb) (Nat.dvd_lcm_left a b)
  have p:cm a b<=100000000:=FY pZ (Nat.mul_le_mul d e);refine⟨_,(ai (aC (i:=2) nd rfl (Or.inl rfl) (pv 0))
    (ai (fF PassesOwn.never (aM eO (aq bW (pv 2) (pv 1)) af (aJ _)) (ao (aC (i:=2) nd rfl (Or.inl rfl) (aq aN (pv 2) (pv 0)))))
    (ao (aB (pv 2))))),?_⟩
  walk_at"";refine fE (λm σ H'=>H'=H/\∃k:Nat,1<=k/\a*k<=cm a b/\m=cm a b-a*k/\σ=[Vo (.int (a:Nat)),Vo (.int (b:Nat)),Vo (.int ((a*k:Nat):Int))]) (λσ H'=>H'=H/\σ=[Vo (.int (a:Nat)),Vo (.int (b:Nat)),Vo (.int ((cm a b:Nat):Int))]) (cm a b-a) ⟨rfl,1,FN _,by omega,by omega,by rw[Nat.mul_one];rfl⟩ ?_ ?_
  ·rintro m σ H' ⟨rfl,k,g,l,u,rfl⟩;walk_at""
   try refine rd_I (show(0:Int)<(b:Int)/\(b:Int)<2 ^ 64 by omega) ?_
   walk_at"";by_cases hd:b ∣ a*k
   ·have j:((a*k:Nat):Int) % (b:Int)=0:=by rw[←Int.natCast_emod,Nat.mod_eq_zero_of_dvd hd];rfl
    rw[j];refine aw ⟨rfl,?_⟩;rw[Cb ha g l hd]
   ·have j:¬((a*k:Nat):Int) % (b:Int)=0:=λh=>hd (Nat.dvd_of_mod_eq_zero (by rw[←Int.natCast_emod]at h;omega));have c:=CN ha hb l hd;rw[Gn j];refine av ⟨_,λ_ _ h=>h,?_⟩;walk_at"";refine⟨cm a b-a*(k+1),by rw[Nat.mul_succ];omega,rfl,k+1,by omega,by rw[Nat.mul_succ];exact c,rfl,?_⟩;rw[Nat.mul_succ];rfl
  rintro σ H' ⟨rfl,rfl⟩;walk_at"";exact q
def de(d:Vn)(x:Int):Int:=if d = "up" then x+1 else if d = "down" then x-1 else if d = "zero"/\0<x then -1 else x
inductive qi(K:Fn)(vs:List V)(H:Hp)(Q:VK)(E:XK):Prop|mk:∀d x,vs=[.str d,.int x]->Q (.int (de d x)) H->qi K vs H Q E
abbrev rB:Vl:=stq 80
def w4:FnScope ["_law_deed","_law_x"] ["_law_deed","_law_x"] (aH rB):=⟨rfl,rfl,rfl,by decide +kernel,rfl,by decide +kernel,by decide +kernel⟩
def Bx{P:Vd}{w:Ve}{mg:Vn->Option Va}{base:Vh}(D:Dfn K mg "_law_there" rB ["_law_deed","_law_x"])(T:Blt mg):Cal P w K mg base "_law_there" 1 ["_law_deed","_law_x"] (qi K):=by
 have nd:=(w4).nd;refine D.ok w4 (λvs H Q E h=>?_) (λX c H vs Q E h=>?_)
 ·obtain⟨d,x,rfl,_⟩:=h;rfl
 ·obtain⟨f,cdv,A,outer,s,H0,E0,rfl,e⟩:=c;obtain⟨d,x,rfl,q⟩:=h;unfold de at q;refine⟨_,(ai (aZ (aM bH (pv 0) aR (aJ _)) (ao (aB (aq aN (pv 1) af))) aP)
    (ai (aZ (aM bH (pv 0) aR (aJ _)) (ao (aB (aq cG (pv 1) af))) aP)
    (ai (aZ (PW.pt (eS (aM bH (pv 0) aR (aJ _)) (fH (aM eG (pv 1) af (aJ _))))) (ao (aB (ja iI af))) aP)
    (ao (aB (pv 1)))))),?_⟩
  walk_at"";refine fD (rd_exb ?_);by_cases h1:d = "up"
  ·rw[Gr h1]at q;rw[Gp h1];refine av ?_;walk_at"";exact q
  ·rw[Gq h1]at q;rw[Gn h1];refine aw ?_;walk_at"";refine fD (rd_exb ?_);by_cases h2:d = "down"
   ·rw[Gr h2]at q;rw[Gp h2];refine av ?_;walk_at"";exact q
   ·rw[Gq h2]at q;rw[Gn h2];refine aw ?_;walk_at"";refine fD (rd_exb ?_);by_cases a:d = "zero"
    ·rw[Gp a];refine av ?_;walk_at"";by_cases b:0<x
     ·rw[Gr ⟨a,b⟩]at q;rw[Gp b];refine av ?_;walk_at"";exact q
     ·rw[Gq (λh=>b h.2)]at q;rw[Gn b];refine aw ?_;walk_at"";exact q
    ·rw[Gq (λh=>a h.1)]at q;rw[Gn a];refine aw (aw ?_);walk_at"";exact q
def BN{d:Vn}{f g:Nat->Bool}{b s n:Nat}(hd:cx d)(hs:1<=s)(a:aS f b s)(c:aS g b s)(m:b+s+2<=n):(∃x:Nat,x<n/\f x=true/\0<=de d x/\g (de d x).toNat=false)↔eX d f g:=by
 unfold eX de;rcases hd with rfl|rfl|rfl|rfl
 ·rw[Gq (by decide +kernel),Gr rfl];simp only[if_true];constructor
  ·rintro⟨x,_,h1,_,h2⟩;exact⟨x,h1,by rw[show ((x:Int)+1).toNat=x+1 by omega]at h2;exact h2⟩
  ·rintro⟨x,h1,h2⟩;obtain⟨y,h,k1,k2⟩:=lb (i:=0) (j:=1) hs a c x x (FN _) h1 h2;exact⟨y,by omega,k1,by omega,by rw[show ((y:Int)+1).toNat=y+1 by omega];exact k2⟩
 ·rw[Gq (by decide +kernel),Gq (by decide +kernel),Gr rfl];have k:¬(F7 "down" = F7 "up"):=by decide +kernel
  simp only[Gq k,if_true];constructor
  ·rintro⟨x,_,h1,o,h2⟩;refine⟨x-1,by rw[show x-1+1=x by omega];exact h1,?_⟩;rw[show ((x:Int)-1).toNat=x-1 by omega]at h2;exact h2
  ·rintro⟨x,h1,h2⟩;obtain⟨y,h,k1,k2⟩:=lb (i:=1) (j:=0) hs a c x x (FN _) h1 h2;exact⟨y+1,by omega,k1,by omega,by rw[show (((y+1:Nat):Int)-1).toNat=y by omega];exact k2⟩
 ·have h1:¬(F7 "stay" = F7 "zero"):=by decide +kernel
  have h2:¬(F7 "stay" = F7 "up"):=by decide +kernel
  have e:¬(F7 "stay" = F7 "down"):=by decide +kernel
  simp only[Gq h1,Gq h2,Gq e,h1,false_and,if_false];constructor
  ·rintro⟨x,_,k1,_,k2⟩;exact⟨x,k1,by rw[FF]at k2;exact k2⟩
  ·rintro⟨x,k1,k2⟩;obtain⟨y,h,k1,k2⟩:=lb (i:=0) (j:=0) hs a c x x (FN _) k1 k2;exact⟨y,by omega,k1,by omega,by rw[FF];exact k2⟩
 ·have h2:¬(F7 "zero" = F7 "up"):=by decide +kernel
  have e:¬(F7 "zero" = F7 "down"):=by decide +kernel
  rw[Gr rfl];simp only[Gq h2,Gq e,true_and];constructor
  ·rintro⟨x,_,k1,k0,k2⟩;by_cases l:(0:Int)<(x:Int)
   ·rw[Gr l]at k0;omega
   ·have:x=0:=by omega
    subst this;exact⟨k1,k2⟩
  ·rintro⟨k1,k2⟩;exact⟨0,by omega,k1,by decide,k2⟩
def Ek{d:Vn}{x:Int}:de d x<=x+1:=by
 unfold de;split
 ·omega
 ·split
  ·omega
  ·split<;>omega
def Cp{ws:List Way}{ts:List StT}{i:Nat}{w:Way}(d:ws[i]?=Vo w)(h:cls (ws.take i) ts)(e:∀b c,ts[w.room.toNat]?=Vo b->ts[w.other.toNat]?=Vo c->¬eX w.deed b.f c.f):cls (ws.take (i+1)) ts:=by
 intro u a;rw[List.take_add_one,d]at a;rcases FQ.mp a with a|a
 ·exact h u a
 ·have:u=w:=by simpa using a
  subst this;exact e
inductive qj(K:Fn)(vs:List V)(H:Hp)(Q:VK)(E:XK):Prop|mk:∀a m ws l xs ts,vs=[a,.ref l]->bC H a m ws->HOuse m ws->H l=Vo (.lst xs)->cE H xs ts->(xs.length:Int)=m->steps ts->(∀r H',Ext H H'->(r=true↔¬cls ws ts)->Q (.bl r) H')->qj K vs H Q E
def Eb{D zs:List Int}(hd:D.Nodup)(h:∀z,z∈D↔z∈zs):D.length<=zs.length:=hd.length_le_of_subset λz a=>(h z).mp a
abbrev sI(t:StT):Int:=(t.s:Int)
abbrev bI(t:StT):Int:=(t.b:Int)
abbrev qX:Vl:=stq 81
def u5:FnScope ["_law_house_here","_law_stairs","_law_steps","_law_far","_law_many","_law_rows","_law_room","_law_deed","_law_other","_law_sign","_law_x","_law_there_here"] ["_law_house_here","_law_stairs"] (aH qX):=⟨rfl,rfl,rfl,by decide +kernel,rfl,by decide +kernel,by decide +kernel⟩
def BU{P:Vd}{w:Ve}{mg:Vn->Option Va}{base:Vh}(D:Dfn K mg "_law_leaves" qX ["_law_house_here","_law_stairs"])(T:Blt mg)(C:Cal P w K mg base "_law_there" 1 ["_law_deed","_law_x"] (qi K))(I:Cal P w K mg base "_law_bits" 1 ["_law_stair","_law_many"] (qG K))(a:Cal P w K mg base "_law_multiple" 1 ["_law_one","_law_two"] (jM K)):Cal P w K mg base "_law_leaves" 2 ["_law_house_here","_law_stairs"] (qj K):=by
 have nd:=(u5).nd;refine D.ok u5 (λvs H Q E h=>?_) (λX hX H vs Q E h=>?_)
 ·obtain⟨hv,m,ws,l,xs,ts,rfl,_⟩:=h;rfl
 ·obtain⟨f,cdv,A,outer,s,H0,E0,rfl,hr⟩:=hX;obtain⟨vh,m,ws,l,xs,ts,rfl,hv,ok,hl,hS,hm,b4,q⟩:=h;obtain⟨b5,c5,rfl,hh,hw⟩:=id hv;obtain⟨bs,ab,b6⟩:=b9.al hw;have m1:=ok.m1;have m12:=ok.m12;have hlen:=hS.len;have cp:=ok.few;have b7:bs.length=ws.length:=b6.1;have hall:∀t∈ts,1<=t.s/\t.s<=840/\t.b<=3000:=λt O=>by obtain⟨i,hi⟩:=Gg O;obtain⟨v0,_,ad⟩:=eo hS hi;exact⟨ad.s1,ad.s8,ad.b3⟩
  refine⟨_,(@ai _ _ _ _ _ (@aC _ _ 2 _ _ _ _ nd rfl (Or.inr rfl) (aU (Ti.call_sortJ hr) rfl T.sorted_ PyProof.Rows.boot_sorted (@aa _ _ _ _ _ (dQ (Ti.call_setJ hr) rfl T.set_ PyProof.Rows.boot_set (@aa _ _ _ _ _ (bK ["_law_stair"] [] (bP K (pv 1)) (λ_=>(aA (i:=0) (show(["_law_stair"]:List Vn).Nodup from by decide +kernel) rfl (Or.inl rfl) (Or.inr rfl))) (λ_=>cn) (λ_=>(@ah _ _ _ _ _ _ _ (ay K) (pv 0) af (λ_ _=>rfl)))) ae rfl)) ae rfl)) rfl (Or.inl rfl))
    (@ai _ _ _ _ _ (@aC _ _ 3 _ _ _ _ nd rfl (Or.inl rfl) (aU (jj K rfl) rfl T.max_ PyProof.Rows.boot_max (@aa _ _ _ _ _ (bK ["_law_one"] [2] (bP K (pv 2)) (λ_=>(aA (i:=0) (show(["_law_one","_law_steps"]:List Vn).Nodup from by decide +kernel) rfl (Or.inr rfl) (Or.inl rfl))) (λ_=>cn) (λ_=>(aU (jj K rfl) rfl T.max_ PyProof.Rows.boot_max (@aa _ _ _ _ _ (bK ["_law_two"] [0] (bP K (pv 1)) (λ_=>(aA (i:=0) (show(["_law_two","_law_one"]:List Vn).Nodup from by decide +kernel) rfl (Or.inl rfl) (Or.inr rfl))) (λ_=>cn) (λ_=>(ax a hr (@aa _ _ _ _ _ (pv 1) (@aa _ _ _ _ _ (pv 0) ae rfl) rfl)))) ae rfl)))) ae rfl)) rfl (Or.inl rfl))
    (@ai _ _ _ _ _ (@aC _ _ 4 _ _ _ _ nd rfl (Or.inr rfl) (aq aN (aq aN (aU (jj K rfl) rfl T.max_ PyProof.Rows.boot_max (@aa _ _ _ _ _ (bK ["_law_stair"] [] (bP K (pv 1)) (λ_=>(aA (i:=0) (show(["_law_stair"]:List Vn).Nodup from by decide +kernel) rfl (Or.inl rfl) (Or.inr rfl))) (λ_=>cn) (λ_=>(@ah _ _ _ _ _ _ _ (ay K) (pv 0) af (λ_ _=>rfl)))) ae rfl)) (pv 3)) af) rfl (Or.inl rfl))
    (@ai _ _ _ _ _ (gD (i:=5) ["_law_stair"] [4] nd rfl (Or.inl rfl) (bP K (pv 1)) (λ_=>(aA (i:=0) (show(["_law_stair","_law_many"]:List Vn).Nodup from by decide +kernel) rfl (Or.inl rfl) (Or.inr rfl))) (λ_=>cn) (λ_=>(ax I hr (@aa _ _ _ _ _ (pv 0) (@aa _ _ _ _ _ (pv 1) ae rfl) rfl))))
    (@ai _ _ _ _ _ (bq PassesOwn.never rfl (ft K (@ah _ _ _ _ _ _ _ (ay K) (pv 0) af (λ_ _=>rfl))) (dS (n:=4) K rfl (bp (aA (i:=6) nd rfl (Or.inl rfl)) (bp (aA (i:=7) nd rfl (Or.inl rfl)) (bp (aA (i:=8) nd rfl (Or.inl rfl)) (bp (aA (i:=9) nd rfl (Or.inl rfl)) dC))))) (@ao _ _ _ (bq PassesOwn.never rfl (cb rfl T.range_ (@aa _ _ _ _ _ (aq cG (pv 4) af) ae rfl)) (aA (i:=10) nd rfl (Or.inl rfl)) (@ai _ _ _ _ _ (@aC _ _ 11 _ _ _ _ nd rfl (Or.inl rfl) (ax C hr (@aa _ _ _ _ _ (pv 7) (@aa _ _ _ _ _ (pv 10) ae rfl) rfl)) rfl (Or.inl rfl))
    (@ao _ _ _ (@aZ _ _ _ _ _ _ _ _ (PW.pt (eS (aX (@ah _ _ _ _ _ _ _ (aF K) (@ah _ _ _ _ _ _ _ (aF K) (pv 5) (pv 6) (λ_ _=>rfl)) (pv 10) (λ_ _=>rfl))) (eS (aM iG (pv 11) af (aJ _)) (fH (bM (aX (@ah _ _ _ _ _ _ _ (aF K) (@ah _ _ _ _ _ _ _ (aF K) (pv 5) (pv 8) (λ_ _=>rfl)) (pv 11) (λ_ _=>rfl)))))))) (@ao _ _ _ (@aB _ _ _ _ aT)) aP))))))
    (@ao _ _ _ (@aB _ _ _ _ aT))))))),?_⟩
  walk_at"";refine bN (ag.of hl) ?_;refine dn (xs:=xs) (λi ys H'=>H'=H/\ys=((ts.take i).map sI).map V.int) (dy (by omega)) ⟨rfl,rfl⟩ (λi ys H' _ h=>⟨by rw[h.1];exact ag.of hl,by rw[h.2,Fs,Fs,Gi];omega⟩) ?_ ?_
  ·rintro i v ys H1 N ⟨rfl,rfl⟩;obtain⟨t,O,⟨⟨p,_,_,rfl,h1,_,_⟩,_⟩⟩:=cg hS N;walk_at"";refine av ?_;walk_at"";refine az (aj.of h1) (v:=.int (t.s:Nat)) rfl ?_;refine⟨rfl,?_⟩;rw[List.take_add_one,O,FJ,FJ];rfl
  ·rintro ys H1 p ⟨hH,rfl⟩ hp;subst hH;rw[hlen,FW];have e1:Ext H1 (upd H1 p (.lst ((ts.map sI).map V.int))):=aV hp;have ak:(upd H1 p (.lst ((ts.map sI).map V.int))) p=_:=aI;generalize upd H1 p (.lst ((ts.map sI).map V.int))=H2 at e1 ak ⊢;walk_at"";refine⟨p,_,rfl,ak,by rw[Fs];omega,λsl D b8 ba hD=>?_⟩;have bb:=Eb ba hD;rw[Fs]at bb;have e3:=e1.trans (aV (o:=Ti.setIO P w sl D) b8);have U:(upd H2 sl (Ti.setIO P w sl D)) sl=Vo (Ti.setIO P w sl D):=aI;walk_at"";show Ti.rSortJ P w [.ref sl] (upd H2 sl (Ti.setIO P w sl D)) _;generalize upd H2 sl (Ti.setIO P w sl D)=H3 at e3 U ⊢;refine⟨sl,D,rfl,U,by omega,λst S hst am _=>?_⟩;have e4:=e3.trans (aV (o:=.lst (List.map V.int S)) hst);have G:(upd H3 st (.lst (List.map V.int S))) st=Vo (.lst (List.map V.int S)):=aI;generalize upd H3 st (.lst (List.map V.int S))=H4 at e4 G ⊢;clear e3 U b8 e1 ak;have cr:S.length<=12:=by rw[am.length_eq];omega
   have hmem:∀z,z∈S↔∃t∈ts,(t.s:Int)=z:=λz=>by rw[am.mem_iff,hD,List.mem_map]
   have c6:0<S.length:=by obtain⟨t0,W⟩:∃t,ts[0]?=Vo t:=⟨_,Ft (show 0<ts.length by omega)⟩;exact List.length_pos_of_mem ((hmem _).mpr ⟨t0,FC W,rfl⟩)
   clear am ba hD bb;walk_at"";refine bN (ag.of G) ?_;refine dn (xs:=List.map V.int S) (λi ys H'=>Ext H4 H'/\∃ns:List Int,ys=ns.map V.int/\ns.length=i/\(∀n∈ns,n<=840)/\∀z∈S.take i,∃n∈ns,∀k∈ts,(k.s:Int)=z->∀u∈ts,((cm k.s u.s:Nat):Int)<=n) (dy (by rw[Fs];omega)) ⟨Ext.rfl' _,[],rfl,rfl,λn h=>(nomatch h),λz h=>by simp at h⟩ (λi ys H' _ h=>⟨ag.of (h.1 _ _ G),by obtain⟨_,ns,rfl,h,_⟩:=h;rw[Fs,h];exact FN _⟩) ?_ ?_
   ·rintro i v ys H5 N ⟨e5,ns,rfl,a7,a8,R⟩;obtain⟨z1,rfl,bc⟩:=fb N;obtain⟨k,F,rfl⟩:=(hmem z1).mp (FC bc);have b1:=hall k F;walk_at"";refine av ?_;walk_at"";refine bN (ag.of (e5 _ _ G)) ?_;refine dn (xs:=List.map V.int S) (λi ys H'=>H'=H5/\ys=((S.take i).map λz=>((cm k.s z.toNat:Nat):Int)).map V.int) (dy (by rw[Fs];omega)) ⟨rfl,rfl⟩ (λi ys H' _ h=>⟨by rw[h.1];exact ag.of (e5 _ _ G),by rw[h.2,Fs,Fs,Gi];omega⟩) ?_ ?_
    ·rintro i' v ys H6 N ⟨rfl,rfl⟩;obtain⟨z2,rfl,a9⟩:=fb N;obtain⟨u,c,rfl⟩:=(hmem z2).mp (FC a9);have b2:=hall u c;walk_at"";refine av ?_;walk_at"";refine⟨k.s,u.s,rfl,b1.1,b2.1,by omega,by omega,rfl,?_⟩;rw[List.take_add_one,a9,FJ,FJ];rfl
    ·rintro ys H6 p6 ⟨hH,rfl⟩ Y;subst hH;rw[Fs,FW];have e6:Ext H6 (upd H6 p6 (.lst ((S.map λz=>((cm k.s z.toNat:Nat):Int)).map V.int))):=aV Y;walk_at"";refine⟨p6,_,rfl,ag.of aI,by rw[Fs];exact c6,λM hM hMx=>?_⟩;refine⟨e5.trans e6,ns++[M],by rw[FJ];rfl,by rw[FK,a7];rfl,λn Z=>?_,λz hz=>?_⟩
     ·rcases FQ.mp Z with Z|Z
      ·exact a8 n Z
      ·rw[FD.mp Z];obtain⟨z2,a9,rfl⟩:=List.mem_map.mp hM;obtain⟨u,c,rfl⟩:=(hmem z2).mp a9;have:=b4 k F u c;rw[FF];omega
     ·rw[List.take_add_one,bc]at hz;rcases FQ.mp hz with hz|hz
      ·obtain⟨n,Z,h⟩:=R z hz;exact⟨n,FQ.mpr (.inl Z),h⟩
      ·have c7:z=(k.s:Int):=by simpa using hz
       subst c7;refine⟨M,FQ.mpr (.inr (FD.mpr rfl)),λc8 _ he u c=>?_⟩;have c9:c8.s=k.s:=by omega
       rw[c9];have:=hMx _ (List.mem_map.mpr ⟨(u.s:Int),(hmem _).mpr ⟨u,c,rfl⟩,rfl⟩);rw[FF]at this;exact this
   ·rintro ys H5 p5 ⟨e5,ns,rfl,a7,a8,R⟩ be;rw[Fs]at a7 R;rw[FW]at R;have e6:=(e4.trans e5).trans (aV (o:=.lst (ns.map V.int)) be);have Y:(upd H5 p5 (.lst (ns.map V.int))) p5=Vo (.lst (ns.map V.int)):=aI;generalize upd H5 p5 (.lst (ns.map V.int))=H6 at e6 Y ⊢;walk_at"";refine⟨p5,ns,rfl,ag.of Y,by omega,λM hM hMx=>?_⟩;have cs:=a8 M hM;have bg:∀k∈ts,∀u∈ts,((cm k.s u.s:Nat):Int)<=M:=λk h1 u h2=>by obtain⟨n,Z,h⟩:=R _ ((hmem _).mpr ⟨k,h1,rfl⟩);exact Int.le_trans (h k h1 rfl u h2) (hMx n Z)
    clear hM hMx R a8 a7 hmem e4 e5 be Y G hst;walk_at"";refine bN (ag.of (e6 _ _ hl)) ?_;refine dn (xs:=xs) (λi ys H'=>H'=H6/\ys=((ts.take i).map bI).map V.int) (dy (by omega)) ⟨rfl,rfl⟩ (λi ys H' _ h=>⟨by rw[h.1];exact ag.of (e6 _ _ hl),by rw[h.2,Fs,Fs,Gi];omega⟩) ?_ ?_
    ·rintro i v ys H7 N ⟨rfl,rfl⟩;obtain⟨t,O,an⟩:=cg hS N;obtain⟨⟨p,_,_,rfl,h1,_,_⟩,_⟩:=id (an.ext e6);walk_at"";refine av ?_;walk_at"";refine az (aj.of h1) (v:=.int (t.b:Nat)) rfl ?_;refine⟨rfl,?_⟩;rw[List.take_add_one,O,FJ,FJ];rfl
    ·rintro ys H7 p7 ⟨hH,rfl⟩ bi;subst hH;rw[hlen,FW];have e8:=e6.trans (aV (o:=.lst ((ts.map bI).map V.int)) bi);have ap:(upd H7 p7 (.lst ((ts.map bI).map V.int))) p7=_:=aI;generalize upd H7 p7 (.lst ((ts.map bI).map V.int))=H8 at e8 ap ⊢;walk_at"";refine⟨p7,_,rfl,ag.of ap,by rw[Fs];omega,λB hB bl=>?_⟩;obtain⟨b,rfl,ct⟩:∃b:Nat,B=(b:Int)/\b<=3000:=by obtain⟨t,O,rfl⟩:=List.mem_map.mp hB;exact⟨t.b,rfl,(hall t O).2.2⟩
     have hbx:∀t∈ts,t.b<=b:=λt O=>by have:=bl _ (List.mem_map.mpr ⟨t,O,rfl⟩);exact Int.ofNat_le.mp this
     obtain⟨t0,W⟩:∃t,ts[0]?=Vo t:=⟨_,Ft (show 0<ts.length by omega)⟩;have ca:=bg t0 (FC W) t0 (FC W);obtain⟨s',rfl⟩:∃s':Nat,M=(s':Int):=⟨M.toNat,by omega⟩;clear hB bl ca W e6 bi ap;walk_at"";refine bN (ag.of (e8 _ _ hl)) ?_;refine dn (xs:=xs) (λi ys H'=>Ext H8 H'/\∃rs:List Vb,ys=rs.map V.ref/\rs.length=i/\∀(j:Nat) (r:Vb) (t:StT),rs[j]?=Vo r->ts[j]?=Vo t->H' r=Vo (.lst (aL (b+s'+3) t.f))) (dy (by omega)) ⟨Ext.rfl' _,[],rfl,rfl,λj r t h=>by simp at h⟩ ?_ ?_ ?_
     ·rintro i ys H' _ ⟨e,rs,rfl,hr,_⟩;exact⟨ag.of ((e8.trans e) _ _ hl),by rw[Fs,hr];exact FN _⟩
     ·rintro i v ys H9 N ⟨e9,rs,rfl,bm,hrs⟩;obtain⟨t,O,an⟩:=cg hS N;have hb:=hall t (FC O);have cu:=hbx t (FC O);walk_at"";refine av ?_;walk_at"";refine⟨v,t,b+s'+3,rfl,an.ext (e8.trans e9),by omega,by omega,λq' bn J _ cd=>?_⟩;refine⟨e9.trans J,rs++[q'],?_,by rw[FK,bm];rfl,λj r t' hj ar=>?_⟩
      ·rw[FJ];rfl
      ·by_cases ce:j<rs.length
       ·rw[FT ce]at hj;exact J _ _ (hrs j r t' hj ar)
       ·rw[FR (by omega)]at hj;have cf:j-rs.length=0:=by have:=(FA.mp hj).1;simp at this;omega
        rw[cf]at hj;cases hj;have:j=i:=by omega
        subst this;rw[O]at ar;cases ar;exact cd
     ·rintro ys H9 p9 ⟨e9,rs,rfl,bm,hrs⟩ bt;have J:=aV (o:=.lst (rs.map V.ref)) bt;have a0:(upd H9 p9 (.lst (rs.map V.ref))) p9=_:=aI;have eH:=(e8.trans e9).trans J;have L:∀(j:Nat) (r:Vb) (t:StT),rs[j]?=Vo r->ts[j]?=Vo t->(upd H9 p9 (.lst (rs.map V.ref))) r=Vo (.lst (aL (b+s'+3) t.f)):=λj r t h1 h2=>J _ _ (hrs j r t h1 h2);generalize upd H9 p9 (.lst (rs.map V.ref))=bn at J a0 eH L ⊢;clear hrs J e9 bt e8;walk_at"";refine az (aj.of (eH _ _ hh)) (v:=.ref c5) rfl ?_;walk_at"";refine eT (aj.of (eH _ _ ab)) ?_;refine gK (xs:=bs.map V.ref) (λi σ H'=>H'=bn/\cls (ws.take i) ts/\∃k1 k2 k3 k4 k5 k6,σ=[Vo (.ref b5),Vo (.ref l),Vo (.ref st),Vo (.int (s':Int)),Vo (.int ((b:Int)+(s':Int)+3)),Vo (.ref p9),k1,k2,k3,k4,k5,k6]) ⟨rfl,by simp[cls],_,_,_,_,_,_,rfl⟩ (λi σ H' _ h=>by rw[h.1];exact aj.of (eH _ _ ab)) ?_ ?_
      ·rintro i v σ bu N ⟨rfl,hc,k1,k2,k3,k4,k5,k6,rfl⟩;rw[Fu]at N;obtain⟨b',bv,rfl⟩:=FE.mp N;have hi:i<ws.length:=by rw[←b7];exact(FA.mp bv).1
       have a3:ws[i]?=Vo ws[i]:=Ft hi;have bx:=eH _ _ (b6.2 i b' _ bv a3);generalize ws[i]=w0 at a3 bx;have a4:=ok.ok w0 (FC a3);have o1:=a4.r0;have o2:=a4.r1;have o3:=a4.o0;have o4:=a4.o1;have g1:w0.room.toNat<ts.length:=by omega
       have g2:w0.other.toNat<ts.length:=by omega
       have F:ts[w0.room.toNat]?=Vo ts[w0.room.toNat]:=Ft g1;have c:ts[w0.other.toNat]?=Vo ts[w0.other.toNat]:=Ft g2;obtain⟨v1,_,a5⟩:=eo hS F;obtain⟨v2,_,a6⟩:=eo hS c;generalize ts[w0.room.toNat]=k at F a5;generalize ts[w0.other.toNat]=u at c a6;have as:rs[w0.room.toNat]?=Vo (rs[w0.room.toNat]'(by omega)):=Ft (by omega);have au:rs[w0.other.toNat]?=Vo (rs[w0.other.toNat]'(by omega)):=Ft (by omega);have c0:=L _ _ _ as F;have c1:=L _ _ _ au c;generalize rs[w0.room.toNat]'(by omega)=r1 at as c0;generalize rs[w0.other.toNat]'(by omega)=r2 at au c1;have p1:=rJ (t:=u.s) a5.per (hbx k (FC F));have p2:=mj (s:=k.s) a6.per (hbx u (FC c));have cv:=bg k (FC F) u (FC c);have key:=BN (n:=b+s'+2) (f:=k.f) (g:=u.f) a4.dd (jJ a5.s1 a6.s1) p1 p2 (by omega);have a1:bF (rs.map V.ref) w0.room=Vo (.ref r1):=eD o1 (by rw[Fu,as];rfl);have a2:bF (rs.map V.ref) w0.other=Vo (.ref r2):=eD o3 (by rw[Fu,au];rfl);walk_at"";refine dH (aj.of bx) rfl ?_;walk_at"";refine cj (by omega) ?_;refine forR (λx σ H'=>H'=bu/\(∀y:Nat,y<x->¬(k.f y=true/\0<=de w0.deed y/\u.f (de w0.deed y).toNat=false))/\∃k5 k6,σ=[Vo (.ref b5),Vo (.ref l),Vo (.ref st),Vo (.int (s':Int)),Vo (.int ((b:Int)+(s':Int)+3)),Vo (.ref p9),Vo (.int w0.room),Vo (.str w0.deed),Vo (.int w0.other),Vo (.str w0.sign),k5,k6]) ⟨rfl,λy hy=>by omega,_,_,rfl⟩ ?_ ?_
       ·rintro x σ ch N ⟨rfl,b0,k5,k6,rfl⟩;rw[show (0:Int)+(x:Int)=((x:Nat):Int) by omega];have ci:x<b+s'+2:=by omega
        walk_at"";refine⟨_,_,rfl,?_⟩;walk_at"";refine aE (ag.of a0) a1 ?_;walk_at"";refine aE (ag.of c0) (cR (by omega) (by omega)) ?_;rw[FF];walk_at"";have stay:(¬(k.f x=true/\0<=de w0.deed x/\u.f (de w0.deed x).toNat=false))->∀y:Nat,y<x+1->¬(k.f y=true/\0<=de w0.deed y/\u.f (de w0.deed y).toNat=false):=λZ y hy=>by
         by_cases cl:y<x
         ·exact b0 y cl
         ·have:y=x:=by omega
          subst this;exact Z
        cases hf:k.f x with
        | false=>
         refine aw ?_;walk_at"";exact⟨rfl,stay (λh=>by rw[hf]at h;cases h.1),_,_,rfl⟩
        | true=>
         refine av ?_;walk_at"";cases c2:decide (de w0.deed (x:Int) ≥ 0)with
         | false=>
          refine aw ?_;walk_at"";exact⟨rfl,stay (λh=>absurd h.2.1 (of_decide_eq_false c2)),_,_,rfl⟩
         | true=>
          have ac:0<=de w0.deed (x:Int):=of_decide_eq_true c2;have hle:=Ek (d:=w0.deed) (x:=(x:Int));refine av ?_;walk_at"";refine aE (ag.of a0) a2 ?_;walk_at"";refine aE (ag.of c1) (cR ac (by omega)) ?_;walk_at"";cases hg:u.f (de w0.deed (x:Int)).toNat with
          | true=>
           refine aw ?_;walk_at"";exact⟨rfl,stay (λh=>by rw[hg]at h;cases h.2.2),_,_,rfl⟩
          | false=>
           refine av ?_;walk_at"";refine q true _ eH ⟨λ_ hcl=>?_,λ_=>rfl⟩;exact hcl w0 (FC a3) k u F c (key.mp ⟨x,ci,hf,ac,hg⟩)
       ·rintro σ ch ⟨rfl,b0,k5,k6,rfl⟩;refine⟨rfl,Cp a3 hc λu1 u2 c3 c4 co=>?_,_,_,_,_,_,_,rfl⟩;rw[F]at c3;rw[c]at c4;cases c3;cases c4;obtain⟨x,N,h1,h2,h3⟩:=key.mpr co;exact b0 x (by omega) ⟨h1,h2,h3⟩
      ·rintro σ bu ⟨rfl,hc,k1,k2,k3,k4,k5,k6,rfl⟩;rw[Fs,b7,FW]at hc;walk_at"";exact q false _ eH ⟨λh=>(nomatch h),λh=>absurd hc h⟩
def gj(a c:StT):StT:=⟨max a.b c.b,cm a.s c.s,row (λx=>a.f x || c.f x) 0 (max a.b c.b),row (λx=>a.f x || c.f x) (max a.b c.b) (cm a.s c.s)⟩
def uc{H:Hp}{v1 v2:V}{a c:StT}(h1:dg H v1 a)(h2:dg H v2 c)(x:Nat):(gj a c).f x=(a.f x || c.f x):=by have e:=rJ (t:=c.s) h1.per (Nat.le_max_left a.b c.b);have p2:=mj (s:=a.s) h2.per (Nat.le_max_right a.b c.b);exact mH (f:=λx=>a.f x || c.f x) (b:=max a.b c.b) (jJ h1.s1 h2.s1) (λy d=>congr (congrArg or (e y d)) (p2 y d)) x
def Ex{F:Nat->Bool}{b s:Nat}:(row F 0 (b+s)).filter (λx=>decide (x<(b:Int)))=row F 0 b:=by
 rw[xF,List.filter_append,List.filter_eq_self.mpr,List.filter_eq_nil_iff.mpr,List.append_nil]
 ·intro x a;have:=(il.mp a).1;rw[decide_eq_true_eq];omega
 ·intro x a;have:=(il.mp a).2.1;rw[decide_eq_true_eq];omega
def B9{F:Nat->Bool}{b s:Nat}:(row F 0 (b+s)).filter (λx=>decide ((b:Int)<=x))=row F b s:=by
 rw[xF,List.filter_append,List.filter_eq_nil_iff.mpr,List.nil_append,Nat.zero_add,List.filter_eq_self.mpr]
 ·intro x a;have:=(il.mp a).1;rw[decide_eq_true_eq];omega
 ·intro x a;have:=(il.mp a).2.1;rw[decide_eq_true_eq];omega
def xk{p:Int->Bool}{L:List Int}{i:Nat}{z:Int}(h:L[i]?=Vo z)(a:p z=true):((L.take i).filter p).map V.int++[V.int z]=((L.take (i+1)).filter p).map V.int:=by rw[List.take_add_one,h,List.filter_append,FJ];congr 1;simp[a]
def vM{p:Int->Bool}{L:List Int}{i:Nat}{z:Int}(h:L[i]?=Vo z)(a:p z=false):((L.take i).filter p).map V.int=((L.take (i+1)).filter p).map V.int:=by rw[List.take_add_one,h,List.filter_append];simp[a]
inductive mL(K:Fn)(vs:List V)(H:Hp)(Q:VK)(E:XK):Prop|mk:∀v1 v2 a b,vs=[v1,v2]->dg H v1 a->dg H v2 b->cm a.s b.s<=840->(∀v H',Ext H H'->dg H' v (gj a b)->Q v H')->mL K vs H Q E
abbrev pQ:Vl:=stq 84
def tO:FnScope ["_law_one","_law_two","_law_base","_law_step","_law_some"] ["_law_one","_law_two"] (aH pQ):=⟨rfl,rfl,rfl,by decide +kernel,rfl,by decide +kernel,by decide +kernel⟩
def Bz{P:Vd}{w:Ve}{mg:Vn->Option Va}{base:Vh}(D:Dfn K mg "_law_either" pQ ["_law_one","_law_two"])(T:Blt mg)(c:Cal P w K mg base "_law_holds" 1 ["_law_stair","_law_x"] (ju K))(k:Cal P w K mg base "_law_multiple" 1 ["_law_one","_law_two"] (jM K)):Cal P w K mg base "_law_either" 2 ["_law_one","_law_two"] (mL K):=by
 have nd:=(tO).nd;refine D.ok tO (λvs H Q E h=>?_) (λX hX H vs Q E h=>?_)
 ·obtain⟨v1,v2,d,g,rfl,_⟩:=h;rfl
 ·obtain⟨f,cdv,A,outer,s,H0,E0,rfl,J⟩:=hX;obtain⟨v1,v2,d,g,rfl,h1,h2,hc,q⟩:=h;have x1:=h1.b3;have x2:=h2.b3;have c1:=jJ h1.s1 h2.s1;have s1:=h1.s8;have s2:=h2.s8;obtain⟨p1,_,_,rfl,k1,_,_⟩:=id h1.1;obtain⟨p2,_,_,rfl,k2,_,_⟩:=id h2.1;refine⟨_,(@ai _ _ _ _ _ (@aC _ _ 2 _ _ _ _ nd rfl (Or.inr rfl) (aU (kG rfl) rfl T.max_ PyProof.Rows.boot_max (@aa _ _ _ _ _ (@ah _ _ _ _ _ _ _ (ay K) (pv 0) af (λ_ _=>rfl)) (@aa _ _ _ _ _ (@ah _ _ _ _ _ _ _ (ay K) (pv 1) af (λ_ _=>rfl)) ae rfl) rfl)) rfl (Or.inl rfl))
    (@ai _ _ _ _ _ (@aC _ _ 3 _ _ _ _ nd rfl (Or.inl rfl) (ax k J (@aa _ _ _ _ _ (@ah _ _ _ _ _ _ _ (ay K) (pv 0) af (λ_ _=>rfl)) (@aa _ _ _ _ _ (@ah _ _ _ _ _ _ _ (ay K) (pv 1) af (λ_ _=>rfl)) ae rfl) rfl)) rfl (Or.inl rfl))
    (@ai _ _ _ _ _ (gD (i:=4) ["_law_x"] [0,1] nd rfl (Or.inl rfl) (cb rfl T.range_ (@aa _ _ _ _ _ (aq aN (pv 2) (pv 3)) ae rfl)) (λ_=>(aA (i:=0) (show(["_law_x","_law_one","_law_two"]:List Vn).Nodup from by decide +kernel) rfl (Or.inl rfl) (Or.inr rfl))) (λ_=>(dw (PW.pt (cC (aX (ax c J (@aa _ _ _ _ _ (pv 1) (@aa _ _ _ _ _ (pv 0) ae rfl) rfl))) (cW (aX (ax c J (@aa _ _ _ _ _ (pv 2) (@aa _ _ _ _ _ (pv 0) ae rfl) rfl)))))))) (λ_=>(pv 0)))
    (@ao _ _ _ (@aB _ _ _ _ (@bf _ _ _ _ _ (@aa _ _ _ _ _ (pv 2) (@aa _ _ _ _ _ (pv 3) (@aa _ _ _ _ _ (dQ (fA K) rfl T.tuple_ PyProof.Rows.boot_tuple (@aa _ _ _ _ _ (bK ["_law_x"] [2] (bP K (pv 4)) (λ_=>(aA (i:=0) (show(["_law_x","_law_base"]:List Vn).Nodup from by decide +kernel) rfl (Or.inl rfl) (Or.inr rfl))) (λ_=>(dw (aM dP (pv 0) (pv 1) (aJ _)))) (λ_=>(pv 0))) ae rfl)) (@aa _ _ _ _ _ (dQ (fA K) rfl T.tuple_ PyProof.Rows.boot_tuple (@aa _ _ _ _ _ (bK ["_law_x"] [2] (bP K (pv 4)) (λ_=>(aA (i:=0) (show(["_law_x","_law_base"]:List Vn).Nodup from by decide +kernel) rfl (Or.inl rfl) (Or.inr rfl))) (λ_=>(dw (aM iG (pv 0) (pv 1) (aJ _)))) (λ_=>(pv 0))) ae rfl)) ae rfl) rfl) rfl) rfl))))))),?_⟩
  walk_at"";refine az (aj.of k1) (v:=.int (d.b:Nat)) rfl ?_;walk_at"";refine az (aj.of k2) (v:=.int (g.b:Nat)) rfl ?_;walk_at"";have em:(if(g.b:Int)>(d.b:Int)then(g.b:Int)else(d.b:Int))=((max d.b g.b:Nat):Int):=by split<;>omega
  rw[em];refine az (aj.of k1) (v:=.int (d.s:Nat)) rfl ?_;walk_at"";refine az (aj.of k2) (v:=.int (g.s:Nat)) rfl ?_;walk_at"";refine⟨d.s,g.s,rfl,h1.s1,h2.s1,by omega,by omega,?_⟩;generalize hb:max d.b g.b=b at em ⊢;generalize hs:cm d.s g.s=l at hc c1 ⊢;have b3:b<=3000:=by omega
  have M:∀v H',Ext H H'->dg H' v ⟨b,l,row (λx=>d.f x || g.f x) 0 b,row (λx=>d.f x || g.f x) b l⟩->Q v H':=λv H' e h=>q v H' e (by unfold gj;rw[hb,hs];exact h);clear q em hb hs x1 x2 s1 s2;walk_at"";refine cj (by omega) ?_;refine dD (λj ys H'=>H'=H/\ys=(row (λx=>d.f x || g.f x) 0 j).map V.int) (bw (by omega)) ⟨rfl,rfl⟩ ?_ ?_ ?_
  ·rintro j ys H' _ ⟨_,rfl⟩;rw[Fs];exact gn _ 0 j
  ·rintro j ys H' hj ⟨rfl,N⟩;rw[show (0:Int)+(j:Int)=((0+j:Nat):Int) by omega];walk_at"";refine⟨_,_,_,_,_,_,rfl,h1.1,h1.2,?_⟩;have m1:mem d.b d.s d.o d.a ((0+j:Nat):Int)=d.f (0+j):=rfl;have m2:mem g.b g.s g.o g.a ((0+j:Nat):Int)=g.f (0+j):=rfl;rw[m1];refine rd_exb ?_;cases r:d.f (0+j)with
   | true=>
    refine av (av ?_);walk_at"";exact⟨rfl,gw N (by rw[r];rfl)⟩
   | false=>
    refine aw ?_;walk_at"";refine⟨_,_,_,_,_,_,rfl,h2.1,h2.2,?_⟩;rw[m2];cases B:g.f (0+j)with
    | true=>
     refine rd_exb (av ?_);walk_at"";exact⟨rfl,gw N (by rw[r,B];rfl)⟩
    | false=>exact rd_exb (aw ⟨rfl,gW N (by rw[r,B];rfl)⟩)
  ·rintro ys H' p ⟨C,rfl⟩ hp;subst C;rw[show ((b:Int)+(l:Int)).toNat=b+l by omega];have e3:=aV (o:=.lst ((row (λx=>d.f x || g.f x) 0 (b+l)).map V.int)) hp;have m:(upd H' p (.lst ((row (λx=>d.f x || g.f x) 0 (b+l)).map V.int))) p=_:=aI;generalize upd H' p (.lst ((row (λx=>d.f x || g.f x) 0 (b+l)).map V.int))=H3 at e3 m ⊢;have O:=gn (λx=>d.f x || g.f x) 0 (b+l);have hok:Gd (b:Nat) (l:Nat) (row (λx=>d.f x || g.f x) 0 b) (row (λx=>d.f x || g.f x) b l):=⟨jh _ _ _ c1,by omega,by omega⟩;have R:=Ex (F:=λx=>d.f x || g.f x) (b:=b) (s:=l);have u:=B9 (F:=λx=>d.f x || g.f x) (b:=b) (s:=l);generalize row (λx=>d.f x || g.f x) 0 b=o1 at M R hok;generalize row (λx=>d.f x || g.f x) b l=a1 at M u hok;generalize row (λx=>d.f x || g.f x) 0 (b+l)=L at m O R u;clear h1 h2 k1 k2;walk_at"";refine bN (ag.of m) ?_;refine dn (xs:=L.map V.int) (λj ys H'=>H'=H3/\ys=((L.take j).filter λx=>decide (x<(b:Int))).map V.int) (bw (by rw[Fs];omega)) ⟨rfl,rfl⟩ (λj ys H' hj h=>⟨by rw[h.1];exact ag.of m,by rw[h.2,Fs];exact FY (List.length_filter_le _ _) (by rw[Gi];omega)⟩) ?_ ?_
   ·rintro j v ys H4 S ⟨rfl,rfl⟩;obtain⟨z,rfl,G⟩:=fb S;walk_at"";cases hd:decide (z<(b:Int))with
    | true=>
     refine av ?_;walk_at"";exact⟨rfl,xk G hd⟩
    | false=>exact aw ⟨rfl,vM G hd⟩
   ·rintro ys H4 p4 ⟨C,rfl⟩ U;subst C;rw[Fs,FW,R];walk_at"";refine fG (ag.of aI) ?_;have e4:=aV (o:=.lst (o1.map V.int)) U;generalize upd H4 p4 (.lst (o1.map V.int))=H5 at e4;refine bL λu1 H6 e6 W _=>?_;have y:=e4.trans e6;walk_at"";refine bN (ag.of (y _ _ m)) ?_;refine dn (xs:=L.map V.int) (λj ys H'=>H'=H6/\ys=((L.take j).filter λx=>decide ((b:Int)<=x)).map V.int) (bw (by rw[Fs];omega)) ⟨rfl,rfl⟩ (λj ys H' hj h=>⟨by rw[h.1];exact ag.of (y _ _ m),by rw[h.2,Fs];exact FY (List.length_filter_le _ _) (by rw[Gi];omega)⟩) ?_ ?_
    ·rintro j v ys H7 S ⟨rfl,rfl⟩;obtain⟨z,rfl,G⟩:=fb S;walk_at"";cases hd:decide ((b:Int)<=z)with
     | true=>
      refine av ?_;walk_at"";exact⟨rfl,xk G hd⟩
     | false=>exact aw ⟨rfl,vM G hd⟩
    ·rintro ys H7 p7 ⟨C,rfl⟩ Y;subst C;rw[Fs,FW,u];walk_at"";refine fG (ag.of aI) ?_;have e7:=aV (o:=.lst (a1.map V.int)) Y;generalize upd H7 p7 (.lst (a1.map V.int))=H8 at e7;refine bL λu2 H9 e9 Z _=>?_;walk_at"";refine aK λu3 a2 I a0 _=>?_;have n:=e7.trans (e9.trans I);exact M _ _ (e3.trans (y.trans n)) ⟨⟨u3,u1,u2,rfl,a0,n _ _ W,I _ _ Z⟩,hok⟩
inductive pJ(K:Fn)(vs:List V)(H:Hp)(Q:VK)(E:XK):Prop|mk:∀v1 v2 a b,vs=[v1,v2]->dg H v1 a->dg H v2 b->(∀x,a.f x=true->b.f x=true)->Q (.bl true) H->pJ K vs H Q E
abbrev nJ:Vl:=stq 85
def xS:FnScope ["_law_one","_law_two","_law_x"] ["_law_one","_law_two"] (aH nJ):=⟨rfl,rfl,rfl,by decide +kernel,rfl,by decide +kernel,by decide +kernel⟩
def zG{P:Vd}{w:Ve}{mg:Vn->Option Va}{base:Vh}(D:Dfn K mg "_law_within" nJ ["_law_one","_law_two"])(T:Blt mg)(c:Cal P w K mg base "_law_holds" 1 ["_law_stair","_law_x"] (ju K)):Cal P w K mg base "_law_within" 2 ["_law_one","_law_two"] (pJ K):=by
 have nd:=(xS).nd;refine D.ok xS (λvs H Q E h=>?_) (λX l H vs Q E h=>?_)
 ·obtain⟨v1,v2,d,e,rfl,_⟩:=h;rfl
 ·obtain⟨f,cdv,A,outer,s,H0,E0,rfl,j⟩:=l;obtain⟨v1,v2,d,e,rfl,h1,h2,m,q⟩:=h;have x1:=h1.b3;have r:=h2.b3;have y1:=h1.s8;have u:=h2.s8;obtain⟨n,_,_,rfl,k1,_,_⟩:=id h1.1;obtain⟨p2,_,_,rfl,k2,_,_⟩:=id h2.1;refine⟨_,(@ai _ _ _ _ _ (bq PassesOwn.never rfl (cb rfl T.range_ (@aa _ _ _ _ _ (aq eE af (aq aN (aq aN (aq aN (@ah _ _ _ _ _ _ _ (ay K) (pv 0) af (λ_ _=>rfl)) (@ah _ _ _ _ _ _ _ (ay K) (pv 1) af (λ_ _=>rfl))) (@ah _ _ _ _ _ _ _ (ay K) (pv 0) af (λ_ _=>rfl))) (@ah _ _ _ _ _ _ _ (ay K) (pv 1) af (λ_ _=>rfl)))) ae rfl)) (aA (i:=2) nd rfl (Or.inl rfl)) (@ao _ _ _ (@aZ _ _ _ _ _ _ _ _ (PW.pt (eS (aX (ax c j (@aa _ _ _ _ _ (pv 0) (@aa _ _ _ _ _ (pv 2) ae rfl) rfl))) (fH (bM (aX (ax c j (@aa _ _ _ _ _ (pv 1) (@aa _ _ _ _ _ (pv 2) ae rfl) rfl))))))) (@ao _ _ _ (@aB _ _ _ _ aT)) aP)))
    (@ao _ _ _ (@aB _ _ _ _ aT))),?_⟩
  walk_at"";refine az (aj.of k1) (v:=.int (d.b:Nat)) rfl ?_;walk_at"";refine az (aj.of k2) (v:=.int (e.b:Nat)) rfl ?_;walk_at"";refine az (aj.of k1) (v:=.int (d.s:Nat)) rfl ?_;walk_at"";refine az (aj.of k2) (v:=.int (e.s:Nat)) rfl ?_
  try refine rd_I (show iF _ _ from .inr (by omega)) ?_
  walk_at"";refine cj (by omega) ?_;refine forR (λx σ H'=>H'=H/\∃k,σ=[Vo (.ref n),Vo (.ref p2),k]) ⟨rfl,_,rfl⟩ ?_ ?_
  ·rintro x σ H' y ⟨rfl,k,rfl⟩;rw[show (0:Int)+(x:Int)=((x:Nat):Int) by omega];walk_at"";refine⟨_,_,_,_,_,_,rfl,h1.1,h1.2,?_⟩;have m1:mem d.b d.s d.o d.a (x:Int)=d.f x:=rfl;have p:mem e.b e.s e.o e.a (x:Int)=e.f x:=rfl;rw[m1];refine rd_exb ?_;cases g:d.f x with
   | false=>
    refine aw ?_;walk_at"";exact⟨rfl,_,rfl⟩
   | true=>
    refine av ?_;walk_at"";refine⟨_,_,_,_,_,_,rfl,h2.1,h2.2,?_⟩;walk_at"";rw[p,m x g];refine aw ?_;walk_at"";exact⟨rfl,_,rfl⟩
  ·rintro σ H' ⟨rfl,k,rfl⟩;walk_at"";exact q
theorem se:∀n:Nat,hG n=(row (λ_=>true) 0 n).map V.int
 | 0=>rfl
 | n+1=>by show(Gm (n+1)).map _=_;rw[List.range_succ,FJ,gN,FJ,←se n,Nat.zero_add];rfl
def zO{e:Int}(a:0<=e)(h1:e<4):∃z,bF ([.str "up",.str "down",.str "stay",.str "zero"]:List V) e=Vo (.str z)/\cx z:=by
 have:e=0\/e=1\/e=2\/e=3:=by omega
 rcases this with rfl|rfl|rfl|rfl
 ·exact⟨_,rfl,jw⟩
 ·exact⟨_,rfl,ly⟩
 ·exact⟨_,rfl,gZ⟩
 ·exact⟨_,rfl,j3⟩
def uZ{b s:Nat}{f g:Nat->Bool}(hb:b<=3000)(h1:1<=s)(h2:s<=840):Gd (b:Nat) (s:Nat) (row f 0 b) (row g b s):=
 ⟨⟨by omega,by omega,(jh f b s h1).ho,(jh g b s h1).ha⟩,by omega,by omega⟩
def Ey(n:Nat):row (λ_=>false) 0 n=[]:=by unfold row;rw[List.map_eq_nil_iff,List.filter_eq_nil_iff];simp
def fS(o c:Nat)(y:Nat):Bool:=decide ((y:Int) % (o:Int)=(c:Int) % (o:Int))
inductive qB(K:Fn)(vs:List V)(H:Hp)(Q:VK)(E:XK):Prop|mk:∀c p,vs=[.int c,.int p]->0<p->(∀H',Ext H H'->Q (.bl true) H')->qB K vs H Q E
abbrev qo:Vl:=stq 86
def tJ:FnScope ["_law_cell_here","_law_prime","_law_draws_here","_law_one","_law_two","_law_low","_law_high","_law_some","_law_most","_law_stairs","_law_house_here","_law_found"] ["_law_cell_here","_law_prime"] (aH qo):=⟨rfl,rfl,rfl,by decide +kernel,rfl,by decide +kernel,by decide +kernel⟩
def EN{P:Vd}{w:Ve}{mg:Vn->Option Va}{base:Vh}(D:Dfn K mg "_law_far_seen" qo ["_law_cell_here","_law_prime"])(T:Blt mg)(e:Cal P w K mg base "_law_leaves" 2 ["_law_house_here","_law_stairs"] (qj K))(g:Cal P w K mg base "sees_closed" 9 ["house","stairs"] (iX K))(l:Cal P w K mg base "_law_draws" 2 ["_law_cell_here","_law_widths","_law_prime"] (fQ K)):Cal P w K mg base "_law_far_seen" 10 ["_law_cell_here","_law_prime"] (qB K):=by
 have nd:=(tJ).nd;refine D.ok tJ (λvs H Q E h=>?_) (λX hX H vs Q E h=>?_)
 ·obtain⟨c,p,rfl,_⟩:=h;rfl
 ·obtain⟨f,cdv,A,outer,s,H0,E0,rfl,hr⟩:=hX;obtain⟨c,p,rfl,hp,q⟩:=h;refine⟨_,(@ai _ _ _ _ _ (@aC _ _ 2 _ _ _ _ nd rfl (Or.inr rfl) (ax l hr (@aa _ _ _ _ _ (pv 0) (@aa _ _ _ _ _ (@bo _ _ _ _ (gR (.c (.c (.c (.c (.c (.c (.c .n))))))))) (@aa _ _ _ _ _ (pv 1) ae rfl) rfl) rfl)) rfl (Or.inl rfl))
    (@ai _ _ _ _ _ (@dE _ _ _ _ _ _ (@bf _ _ _ _ _ (@aa _ _ _ _ _ (aq aN af (@ah _ _ _ _ _ _ _ (aF K) (pv 2) af (λ_ _=>rfl))) (@aa _ _ _ _ _ (aq aN af (@ah _ _ _ _ _ _ _ (aF K) (pv 2) af (λ_ _=>rfl))) ae rfl) rfl)) (dS (n:=2) K rfl (bp (aA (i:=3) nd rfl (Or.inr rfl)) (bp (aA (i:=4) nd rfl (Or.inr rfl)) dC))) rfl rfl rfl)
    (@ai _ _ _ _ _ (mG (i:=5) (j:=6) rfl nd rfl rfl (by decide) rfl rfl (@aa _ _ _ _ _ (@ah _ _ _ _ _ _ _ (aF K) (pv 2) af (λ_ _=>rfl)) (@aa _ _ _ _ _ (@ah _ _ _ _ _ _ _ (aF K) (pv 2) af (λ_ _=>rfl)) ae rfl) rfl) rfl)
    (@ai _ _ _ _ _ (@aC _ _ 7 _ _ _ _ nd rfl (Or.inl rfl) (dQ (fA K) rfl T.tuple_ PyProof.Rows.boot_tuple (@aa _ _ _ _ _ (bK ["_law_x"] [3,2] (lC rfl T.range_ (@aa _ _ _ _ _ (pv 5) (@aa _ _ _ _ _ (aq aN (pv 5) (pv 3)) ae rfl) rfl)) (λ_=>(aA (i:=0) (show(["_law_x","_law_one","_law_draws_here"]:List Vn).Nodup from by decide +kernel) rfl (Or.inl rfl) (Or.inr rfl))) (λ_=>(dw (aM bH (aq bW (pv 0) (pv 1)) (aq bW (@ah _ _ _ _ _ _ _ (aF K) (pv 2) af (λ_ _=>rfl)) (pv 1)) (aJ _)))) (λ_=>(pv 0))) ae rfl)) rfl (Or.inl rfl))
    (@ai _ _ _ _ _ (@aC _ _ 8 _ _ _ _ nd rfl (Or.inl rfl) (dQ (fA K) rfl T.tuple_ PyProof.Rows.boot_tuple (@aa _ _ _ _ _ (bK ["_law_x"] [4,2] (lC rfl T.range_ (@aa _ _ _ _ _ (pv 6) (@aa _ _ _ _ _ (aq aN (pv 6) (pv 4)) ae rfl) rfl)) (λ_=>(aA (i:=0) (show(["_law_x","_law_two","_law_draws_here"]:List Vn).Nodup from by decide +kernel) rfl (Or.inl rfl) (Or.inr rfl))) (λ_=>(dw (aM eO (aq bW (pv 0) (pv 1)) (aq bW (@ah _ _ _ _ _ _ _ (aF K) (pv 2) af (λ_ _=>rfl)) (pv 1)) (aJ _)))) (λ_=>(pv 0))) ae rfl)) rfl (Or.inl rfl))
    (@ai _ _ _ _ _ (@aC _ _ 9 _ _ _ _ nd rfl (Or.inl rfl) (@bo _ _ _ _ (@aa _ _ _ _ _ (@bf _ _ _ _ _ (@aa _ _ _ _ _ (pv 5) (@aa _ _ _ _ _ (pv 3) (@aa _ _ _ _ _ (@bf _ _ _ _ _ ae) (@aa _ _ _ _ _ (pv 7) ae rfl) rfl) rfl) rfl)) (@aa _ _ _ _ _ (@bf _ _ _ _ _ (@aa _ _ _ _ _ (pv 6) (@aa _ _ _ _ _ (pv 4) (@aa _ _ _ _ _ (En rfl rfl T.tuple_ rfl T.range_ (pv 6)) (@aa _ _ _ _ _ (pv 8) ae rfl) rfl) rfl) rfl)) ae rfl) rfl)) rfl (Or.inl rfl))
    (@ai _ _ _ _ _ (@aC _ _ 10 _ _ _ _ nd rfl (Or.inl rfl) (@bf _ _ _ _ _ (@aa _ _ _ _ _ af (@aa _ _ _ _ _ (@bf _ _ _ _ _ (@aa _ _ _ _ _ (@bf _ _ _ _ _ (@aa _ _ _ _ _ af (@aa _ _ _ _ _ (@ah _ _ _ _ _ _ _ (aF K) (@bo _ _ _ _ (@aa _ _ _ _ _ aR (@aa _ _ _ _ _ aR (@aa _ _ _ _ _ aR (@aa _ _ _ _ _ aR ae rfl) rfl) rfl) rfl)) (@ah _ _ _ _ _ _ _ (aF K) (pv 2) af (λ_ _=>rfl)) (λ_ _=>rfl)) (@aa _ _ _ _ _ af (@aa _ _ _ _ _ aR ae rfl) rfl) rfl) rfl)) ae rfl)) ae rfl) rfl)) rfl (Or.inl rfl))
    (@ai _ _ _ _ _ (@aC _ _ 11 _ _ _ _ nd rfl (Or.inl rfl) (ax g hr (@aa _ _ _ _ _ (pv 10) (@aa _ _ _ _ _ (pv 9) ae rfl) rfl)) rfl (Or.inl rfl))
    (@ao _ _ _ (@aB _ _ _ _ (cK (aU eF rfl T.isinstance_ PyProof.Rows.boot_isinstance (@aa _ _ _ _ _ (pv 11) (@aa _ _ _ _ _ (dZ (v:=.ty "bool") rfl T.bool_ PyProof.Rows.boot_bool rfl) ae rfl) rfl)) (cS (dz eO (pv 11) (ax e hr (@aa _ _ _ _ _ (pv 10) (@aa _ _ _ _ _ (pv 9) ae rfl) rfl)) (aJ _)))))))))))))),?_⟩
  walk_at"";refine aK λw0 G1 f1 a0 _=>?_;walk_at"";refine⟨c,w0,[20,20,40,40,10,10,4],_,rfl,a0,by decide,by decide,hp,λdq ds H1 e1 hd bi F hb=>?_⟩;have eH:Ext H H1:=f1.trans e1;obtain⟨d0,g0,b0⟩:=bO F hb 0 rfl;obtain⟨d1,g1,b1⟩:=bO F hb 1 rfl;obtain⟨m,g2,b2⟩:=bO F hb 2 rfl;obtain⟨u,g3,b3⟩:=bO F hb 3 rfl;obtain⟨d4,g4,b4⟩:=bO F hb 4 rfl;obtain⟨d5,g5,b5⟩:=bO F hb 5 rfl;obtain⟨d6,g6,b6⟩:=bO F hb 6 rfl;obtain⟨m,rfl⟩:=Int.eq_ofNat_of_zero_le b2.1;obtain⟨u,rfl⟩:=Int.eq_ofNat_of_zero_le b3.1;obtain⟨lo,rfl⟩:=Int.eq_ofNat_of_zero_le b4.1;obtain⟨hi,rfl⟩:=Int.eq_ofNat_of_zero_le b5.1;obtain⟨z4,bl,bm⟩:=zO b6.1 b6.2;have bu:lo<=9:=by omega
  have bv:hi<=9:=by omega
  clear hb F f1 a0 b2 b3 b4 b5;walk_at"";refine aE (ag.of hd) g0 ?_;walk_at"";refine aE (ag.of hd) g1 ?_;walk_at"";refine aK λtp G2 f2 a5 _=>?_;refine dH (aj.of a5) rfl ?_;have eH:=eH.trans f2;have hd:=f2 _ _ hd;clear a5 f2 bi e1;walk_at"";refine aE (ag.of hd) g4 ?_;walk_at"";refine aE (ag.of hd) g5 ?_;walk_at"";obtain⟨o1,a6,a1,a2⟩:∃U:Nat,2+d0=(U:Int)/\1<=U/\U<=21:=⟨(2+d0).toNat,by omega,by omega,by omega⟩;obtain⟨d,a7,a3,a4⟩:∃U:Nat,2+d1=(U:Int)/\1<=U/\U<=21:=⟨(2+d1).toNat,by omega,by omega,by omega⟩;rw[a6,a7];clear b0 b1 b6 a6 a7;refine jX (by omega) ?_;rw[show (lo:Int)+(o1:Int)-(lo:Int)=(o1:Int) by omega];refine dD (λj ys H'=>H'=G2/\ys=(row (fS o1 m) lo j).map V.int) (bw (by omega)) ⟨rfl,rfl⟩ ?_ ?_ ?_
  ·rintro j ys H' _ ⟨_,rfl⟩;rw[Fs];exact gn _ _ j
  ·rintro j ys H' hj ⟨rfl,G⟩;rw[show (lo:Int)+(j:Int)=((lo+j:Nat):Int) by omega];walk_at""
   try refine rd_I (show(0:Int)<(o1:Int)/\(o1:Int)<2 ^ 64 by omega) ?_
   walk_at"";refine aE (ag.of hd) g2 ?_
   try refine rd_I (show(0:Int)<(o1:Int)/\(o1:Int)<2 ^ 64 by omega) ?_
   walk_at"";cases B:fS o1 m (lo+j)with
   | true=>
    rw[show decide (((lo+j:Nat):Int) % (o1:Int)=(m:Int) % (o1:Int))=true from B];refine av ?_;walk_at"";exact⟨rfl,gw G B⟩
   | false=>
    rw[show decide (((lo+j:Nat):Int) % (o1:Int)=(m:Int) % (o1:Int))=false from B];exact aw ⟨rfl,gW G B⟩
  ·rintro ys H' p1 ⟨hH,rfl⟩ a8;subst hH;rw[FF];walk_at"";refine fG (ag.of aI) ?_;have e2:=aV (o:=.lst ((row (fS o1 m) lo o1).map V.int)) a8;generalize upd H' p1 (.lst ((row (fS o1 m) lo o1).map V.int))=H2 at e2;refine bL λu1 H3 e3 a9 _=>?_;have N:=(e2.trans e3) _ _ hd;have ab:=eH.trans (e2.trans e3);clear hd a8 eH e2 e3;walk_at"";refine jX (by omega) ?_;rw[show (hi:Int)+(d:Int)-(hi:Int)=(d:Int) by omega];refine dD (λj ys H'=>H'=H3/\ys=(row (λy=>!fS d u y) hi j).map V.int) (bw (by omega)) ⟨rfl,rfl⟩ ?_ ?_ ?_
   ·rintro j ys H' _ ⟨_,rfl⟩;rw[Fs];exact gn _ _ j
   ·rintro j ys H' hj ⟨rfl,G⟩;rw[show (hi:Int)+(j:Int)=((hi+j:Nat):Int) by omega];walk_at""
    try refine rd_I (show(0:Int)<(d:Int)/\(d:Int)<2 ^ 64 by omega) ?_
    walk_at"";refine aE (ag.of N) g3 ?_
    try refine rd_I (show(0:Int)<(d:Int)/\(d:Int)<2 ^ 64 by omega) ?_
    walk_at"";cases B:fS d u (hi+j)with
    | true=>
     rw[show decide (((hi+j:Nat):Int) % (d:Int)=(u:Int) % (d:Int))=true from B];exact aw ⟨rfl,gW G (by rw[B];rfl)⟩
    | false=>
     rw[show decide (((hi+j:Nat):Int) % (d:Int)=(u:Int) % (d:Int))=false from B];refine av ?_;walk_at"";exact⟨rfl,gw G (by rw[B];rfl)⟩
   ·rintro ys H' p2 ⟨hH,rfl⟩ ac;subst hH;rw[FF];walk_at"";refine fG (ag.of aI) ?_;have e4:=aV (o:=.lst ((row (λy=>!fS d u y) hi d).map V.int)) ac;generalize upd H' p2 (.lst ((row (λy=>!fS d u y) hi d).map V.int))=H4 at e4;refine bL λu2 H5 e5 ad _=>?_;have I:=(e4.trans e5) _ _ a9;have ak:=(e4.trans e5) _ _ N;have am:=ab.trans (e4.trans e5);clear N a9 ac ab e4 e5;walk_at"";refine aK λz1 H6 e6 an _=>?_;walk_at"";refine aK λz2 H7 e7 ap _=>?_;walk_at"";refine zi ?_;walk_at"";refine Ak (by omega) (bL λz3 H8 e8 O _=>?_);walk_at"";refine aK λR H9 e9 J _=>?_;walk_at"";refine aK λsl ar S as _=>?_;rw[FF,se]at O;have x9:=e9.trans S;have x8:=e8.trans x9;have x7:=e7.trans x8;have x6:=e6.trans x7;have t1:dg ar (.ref z2) ⟨lo,o1,row (λ_=>false) 0 lo,row (fS o1 m) lo o1⟩:=⟨⟨z2,z1,u1,rfl,x8 _ _ ap,by rw[Ey];exact x7 _ _ an,x6 _ _ I⟩,@uZ lo o1 (λ_=>false) (fS o1 m) (by omega) a1 (by omega)⟩;have t2:dg ar (.ref R) ⟨hi,d,row (λ_=>true) 0 hi,row (λy=>!fS d u y) hi d⟩:=⟨⟨R,z3,u2,rfl,S _ _ J,x9 _ _ O,x6 _ _ ad⟩,@uZ hi d (λ_=>true) (λy=>!fS d u y) (by omega) a3 (by omega)⟩;have L:=x6 _ _ ak;have M:=am.trans x6;clear x6 x7 x8 x9 e6 e7 e8 e9 S an ap O J I ad ak am;walk_at"";refine aK λy1 bx W au _=>?_;walk_at"";refine aE (ag.of (W _ _ L)) g6 ?_;refine aE (ag.of au) bl ?_;walk_at"";refine aK λy2 c0 b7 b8 _=>?_;walk_at"";refine aK λy3 c1 ba bb _=>?_;walk_at"";refine aK λy4 Y Z bc _=>?_;have eW:=ba.trans Z;have hv:bC Y (.ref y4) 2 [⟨0,z4,1,"a"⟩]:=bC.mk bc (((aQ.nil Y).snoc (w:=⟨0,z4,1,"a"⟩) (eW _ _ b8)).ways (Z _ _ bb));have ok:HOuse 2 [⟨0,z4,1,"a"⟩]:=⟨by decide,by decide,by simp,λw hw=>by rw[FD.mp hw];exact⟨(by decide:(0:Int)<=0),(by decide:(0:Int)<2),(by decide:(0:Int)<=1),(by decide:(1:Int)<2),bm,97,by decide,by decide,rfl⟩,by simp⟩
    have k:=W.trans (b7.trans eW);have hS:cE Y [.ref z2,.ref R] [⟨lo,o1,row (λ_=>false) 0 lo,row (fS o1 m) lo o1⟩,⟨hi,d,row (λ_=>true) 0 hi,row (λy=>!fS d u y) hi d⟩]:=.cons (t1.ext k) (.cons (t2.ext k) .nil);have z:=k _ _ as;have hst:steps [⟨lo,o1,row (λ_=>false) 0 lo,row (fS o1 m) lo o1⟩,⟨hi,d,row (λ_=>true) 0 hi,row (λy=>!fS d u y) hi d⟩]:=by have hcl:∀a b:Nat,a<=21->b<=21->cm a b<=840:=λa b ha hb=>FY pZ (FY (Nat.mul_le_mul ha hb) (by decide));intro x hx y G;simp only[FH,FZ,or_false]at hx G;rcases hx with rfl|rfl<;>rcases G with rfl|rfl<;>exact hcl _ _ (by assumption) (by assumption)
    generalize [StT.mk lo o1 (row (λ_=>false) 0 lo) (row (fS o1 m) lo o1),StT.mk hi d (row (λ_=>true) 0 hi) (row (λy=>!fS d u y) hi d)]=ts at hS hst;have be:=M.trans k;clear t1 t2 L as M k eW W b7 ba Z au b8 bb bc;walk_at"";refine⟨.ref y4,.ref sl,2,_,ts,rfl,hv,ok,⟨sl,_,rfl,z,by simp,rfl,hS,hst⟩,λr c2 C hr=>?_⟩;walk_at"";refine eI (n:="bool") rfl (b:=true) rfl ?_;refine rd_exb (av ?_);walk_at"";refine⟨.ref y4,2,_,sl,_,ts,rfl,hv.ext C,ok,C _ _ z,hS.ext C,rfl,hst,λr' bn bt bg=>?_⟩;have hne:r' = !r:=by
     cases r with
     | true=>cases r' with
      | true=>exact absurd (hr.mp rfl) (bg.mp rfl)
      | false=>rfl
     | false=>cases r' with
      | true=>rfl
      | false=>
       have:cls [⟨0,z4,1,"a"⟩] ts:=Classical.byContradiction λh=>by have:=bg.mpr h;cases this
       have:=hr.mpr this;cases this
    subst hne;walk_at"";have hq:=q bn (be.trans (C.trans bt));cases r<;>exact hq
def ck.et{H H':Hp}(e:Et H H'){v:V}{b s:Int}{o a:List Int}(h:ck H v b s o a):ck H' v b s o a:=by obtain⟨p,q,r,rfl,h1,h2,c⟩:=h;exact⟨p,q,r,rfl,e _ _ h1 (λ_ z=>by cases z),e _ _ h2 (λ_ z=>by cases z),e _ _ c (λ_ z=>by cases z)⟩
theorem gh.et{H H':Hp}(e:Et H H'){vs:List V}{m:Int}{ws:List Way}{x:Bfs.Pl}(h:gh H vs m ws x):gh H' vs m ws x:=⟨h.1,λr v a=>by obtain⟨F,l,d,h1,h2⟩:=h.2 r v a;exact⟨F,l,d,h1.et e,h2⟩⟩
def vq{H H':Hp}(e:Et H H'){l:Vb}{xs:List V}(h:H l=Vo (.lst xs)):H' l=Vo (.lst xs):=e _ _ h (λ_ z=>by cases z)
def ji{w:Way}(hd:cx w.deed){f g:Nat->Bool}:eX w.deed f g↔∃n:Nat,cU w w.room (n:Int)=true/\f n=true/\g ((n:Int)+rz w.deed).toNat=false:=by
 constructor
 ·intro h;unfold eX at h;rcases id hd with a|a|a|a
  ·rw[a,Gq (by decide +kernel),Gr rfl]at h;obtain⟨x,h1,h2⟩:=h;exact⟨x,gE rfl (.inl a),h1,by rw[a,jO,show ((x:Int)+1).toNat=x+1 by omega];exact h2⟩
  ·rw[a,Gq (by decide +kernel),Gq (by decide +kernel),Gr rfl]at h;obtain⟨x,h1,h2⟩:=h;exact⟨x+1,gE rfl (.inr (.inr (.inl ⟨a,by omega⟩))),h1,by rw[a,j2,show (((x+1:Nat):Int) + -1).toNat=x by omega];exact h2⟩
  ·rw[a,Gq (by decide +kernel),Gq (by decide +kernel),Gq (by decide +kernel)]at h;obtain⟨x,h1,h2⟩:=h;exact⟨x,gE rfl (.inr (.inl a)),h1,by rw[a,kJ,show ((x:Int)+0).toNat=x by omega];exact h2⟩
  ·rw[a,Gr rfl]at h;exact⟨0,gE rfl (.inr (.inr (.inr ⟨a,rfl⟩))),h.1,by rw[a,mK];exact h.2⟩
 ·rintro⟨n,ho,h1,h2⟩;unfold eX;rcases hV hd ho with⟨a,b⟩|⟨a,b⟩|⟨a,c,b⟩|⟨a,c,b⟩
  ·rw[a,Gq (by decide +kernel),Gr rfl];rw[b,show ((n:Int)+1).toNat=n+1 by omega]at h2;exact⟨n,h1,h2⟩
  ·rw[a,Gq (by decide +kernel),Gq (by decide +kernel),Gq (by decide +kernel)];rw[b,show ((n:Int)+0).toNat=n by omega]at h2;exact⟨n,h1,h2⟩
  ·rw[a,Gq (by decide +kernel),Gq (by decide +kernel),Gr rfl];rw[b,show ((n:Int) + -1).toNat=n-1 by omega]at h2;exact⟨n-1,by rw[show n-1+1=n by omega];exact h1,h2⟩
  ·rw[a,Gr rfl];have:n=0:=by omega
   subst this;rw[b]at h2;exact⟨h1,h2⟩
def BE{m:Int}{ws:List Way}{ts:List StT}(ok:∀w∈ws,w.Ok m)(r:(ts.length:Int)=m)(k:cls ws ts){x y:Bfs.Pl}(h:bV ws x y)(e:0<=x.2)(g:∃t,ts[x.1.toNat]?=Vo t/\t.f x.2.toNat=true):0<=y.2/\∃t,ts[y.1.toNat]?=Vo t/\t.f y.2.toNat=true:=by
 obtain⟨n,h⟩:=h;induction h with
 | nil=>exact⟨e,g⟩
 | snoc _ s l=>
  obtain⟨d,t,i,o⟩:=l e g;have hin:=eQ ok s d;obtain⟨w,j,ho,rfl⟩:=s;have a:=ok w j;have o0:=a.o0;have o1:=a.o1;have p:=gX ho;obtain⟨c,b⟩:∃c,ts[w.other.toNat]?=some c:=⟨_,Ft (by omega)⟩;refine⟨hin.2.2.1,c,b,Classical.byContradiction λq=>?_⟩;rw[←p]at i ho;exact k w j t c i b ((ji a.dd).mpr ⟨_,by rw[FG d];exact ho,o,by rw[FG d];exact Bool.eq_false_iff.mpr q⟩)
def w8{m:Int}{ws:List Way}{ts:List StT}{x:Bfs.Pl}(ok:∀w∈ws,w.Ok m)(h:∀(r:Nat) (t:StT),ts[r]?=Vo t->∀i:Nat,t.f i=true↔bV ws x ((r:Int),(i:Int))):cls ws ts:=by intro w b g j h1 h2 c;have a:=ok w b;have r0:=a.r0;have o0:=a.o0;obtain⟨n,ho,d,e⟩:=(ji a.dd).mp c;have k1:=(h _ _ h1 n).mp d;rw[FG r0]at k1;have st:dY ws (w.room,(n:Int)) (w.other,(n:Int)+rz w.deed):=⟨w,b,ho,rfl⟩;have nn:0<=(n:Int)+rz w.deed:=(eQ ok st (Int.natCast_nonneg n)).2.2.1;have k2:=(h _ _ h2 ((n:Int)+rz w.deed).toNat).mpr (by rw[FG o0,FG nn];exact k1.trans (.one st));rw[e]at k2;cases k2
theorem tE{α β:Type}{R:α->β->Prop}:∀{xs:List α} {S:Nat->β->Prop},(∀(i:Nat) v,xs[i]?=Vo v->∃t,R v t/\S i t)->∃ts,Paired R xs ts/\∀(i:Nat) t,ts[i]?=Vo t->S i t
 | [],_,_=>⟨[],.nil,λi t h=>by simp at h⟩
 | x::xs,S,h=>by
  obtain⟨t,h1,h2⟩:=h 0 x rfl;obtain⟨ts,b,c⟩:=tE (xs:=xs) (S:=λi=>S (i+1)) λi v hi=>h (i+1) v (by simpa using hi);refine⟨t::ts,.cons h1 b,λi u a=>?_⟩;cases i with
  | zero=>cases a;exact h2
  | succ i=>exact c i u (by simpa using a)
def gh.sts{H:Hp}{xs:List V}{m:Int}{ws:List Way}{x:Bfs.Pl}(h:gh H xs m ws x)(ok:HOuse m ws)(n:dU m x):∃ts,cE H xs ts/\steps ts/\(∀t∈ts,t.s<=81)/\∀(r:Nat) (t:StT),ts[r]?=Vo t->∀i:Nat,t.f i=true↔bV ws x ((r:Int),(i:Int)):=by
 obtain⟨P,h1,c,o⟩:=h.near ok n;obtain⟨ts,p,j⟩:=tE (R:=dg H) (S:=λr t=>t.s ∣ P/\∀i:Nat,t.f i=true↔bV ws x ((r:Int),(i:Int))) (xs:=xs) λr v q=>by obtain⟨F,l,d,hst,u,hd,e,y,w⟩:=o r v q;have k:d<=81:=FY (Nat.le_of_dvd h1 e) c;refine⟨⟨l,d,row F 0 l,row F l d⟩,⟨hst,jh F l d hd,(show(l:Int)<=3000 by omega),(show(d:Int)<=840 by omega)⟩,e,λi=>?_⟩;rw[show (StT.mk l d (row F 0 l) (row F l d)).f i=F i from mH hd u.per i];exact w i
 have hd:∀t∈ts,t.s ∣ P:=λt g=>by obtain⟨i,hi⟩:=Gg g;exact(j i t hi).1
 refine⟨ts,p,λa ha b hb=>?_,λt g=>FY (Nat.le_of_dvd h1 (hd t g)) c,λr t g=>(j r t g).2⟩;rw[kU];exact FY (FY (Nat.le_of_dvd h1 (Nat.lcm_dvd (hd a ha) (hd b hb))) c) (by decide)
def lM{α β d:Type}{f:α->β->d}{xs:List α}{ys:List β}{i:Nat}{c:d}(h:(List.zipWith f xs ys)[i]?=Vo c):∃a b,xs[i]?=Vo a/\ys[i]?=Vo b/\c=f a b:=by
 rw[List.getElem?_zipWith]at h;split at h
 ·exact⟨_,_,by assumption,by assumption,(F8 h).symm⟩
 ·cases h
def yY{m:Int}{ws:List Way}{e g:List StT}{H:Hp}{v1 v2:List V}(ok:∀w∈ws,w.Ok m)(s1:cE H v1 e)(s2:cE H v2 g)(c1:cls ws e)(c2:cls ws g):cls ws (List.zipWith gj e g):=by
 intro w h a b ha hb j;obtain⟨a1,a2,k1,k2,rfl⟩:=lM ha;obtain⟨k,l,k3,k4,rfl⟩:=lM hb;obtain⟨_,_,o⟩:=eo s1 k1;obtain⟨_,_,p2⟩:=eo s2 k2;obtain⟨_,_,p⟩:=eo s1 k3;obtain⟨_,_,q⟩:=eo s2 k4;have c:=ok w h;obtain⟨n,ho,d,i⟩:=(ji c.dd).mp j;rw[uc o p2,F6]at d;rw[uc p q,Bool.or_eq_false_iff]at i;rcases d with d|d
 ·exact c1 w h a1 k k1 k3 ((ji c.dd).mpr ⟨n,ho,d,i.1⟩)
 ·exact c2 w h a2 l k2 k4 ((ji c.dd).mpr ⟨n,ho,d,i.2⟩)
def yA{c d:List StT}{i:Nat}{a b:StT}(h1:c[i]?=Vo a)(h2:d[i]?=Vo b):List.zipWith gj (c.take (i+1)) (d.take (i+1))=List.zipWith gj (c.take i) (d.take i)++[gj a b]:=by have l1:=(FA.mp h1).1;have l2:=(FA.mp h2).1;rw[List.take_add_one,List.take_add_one,h1,h2,List.zipWith_append (by rw[Gi,Gi];omega)];rfl
def oi{K:Fn}{H:Hp}{a tv:V}{m:Int}{ws:List Way}{ts:List StT}{Q:VK}{E:XK}(b:bC H a m ws)(ok:HOuse m ws)(c:ie H m tv ts)(d:cls ws ts)(q:∀H',Ext H H'->Q (.bl true) H'):iX K [a,tv] H Q E:=
 ⟨a,tv,m,ws,ts,rfl,b,ok,c,λr H' e g=>by rw[g.mpr d];exact q H' e⟩
inductive jK(K:Fn)(vs:List V)(H:Hp)(Q:VK)(E:XK):Prop|mk:∀(a:Vb) (ns:List Int),vs=[.ref a]->ag K H a (ns.map V.int)->ns.length<=63->(∀y∈(["kept","low_levels","risen"]:List Vn),∀c T,PySem.W.tabIn K y=Vo (c,T)->H T=Vo (.tbl #[]))->gH K->(∀H',Q (.bl true) H')->jK K vs H Q E
abbrev fX:Vl:=stq 87
def xU:FnScope ["_law_script","_law_k","_law_house_here","_law_draws_here","_law_place","_law_other","_law_one","_law_two","_law_steps","_law_far","_law_base","_law_step","_law_built","_law_room","_law_x","_law_told"] ["_law_script"] (aH fX):=⟨rfl,rfl,rfl,by decide +kernel,rfl,by decide +kernel,by decide +kernel⟩
def Ei{P:Vd}{w:Ve}{mg:Vn->Option Va}{base:Vh}{f:Vb}{fd:Vm}(F:Fun K "law" "law" fX f fd)(T:Blt mg)(p:Cal P w K mg base "_law_holds" 1 ["_law_stair","_law_x"] (ju K))(C:Cal P w K mg base "sees_never" 10 ["house","place","goal","stairs"] (qW K))(S:Cal P w K mg base "_law_within" 2 ["_law_one","_law_two"] (pJ K))(G:Cal P w K mg base "_law_stairs_of" 1 ["_law_marks_here","_law_base","_law_step"] (oo K))(a3:Cal P w K mg base "_law_marks" 1 ["_law_house_here","_law_base","_law_step","_law_starts"] (qQ K))(d:Cal P w K mg base "sees_closed" 9 ["house","stairs"] (iX K))(U:Cal P w K mg base "_law_either" 2 ["_law_one","_law_two"] (mL K))(g:Cal P w K mg base "_law_multiple" 1 ["_law_one","_law_two"] (jM K))(W:Cal P w K mg base "forward" 10 ["house","place"] (mT K))(a4:Cal P w K mg base "_law_draws" 2 ["_law_cell_here","_law_widths","_law_prime"] (fQ K))(l:Cal P w K mg base "_law_cell" 1 ["_law_script","_law_k"] (qU K))(a5:Cal P w K mg base "_law_house" 4 ["_law_cell_here","_law_prime"] (mz K))(J:Cal P w K mg base "_law_far_seen" 10 ["_law_cell_here","_law_prime"] (qB K)):FnOk P w K mg base dI 11 f fd ["_law_script"] (jK K):=by
 have nd:=(xU).nd;refine F.ok xU (λvs H Q E h=>?_) (λcdv A outer s H vs Q E O h=>?_)
 ·obtain⟨a,ns,rfl,_⟩:=h;rfl
 ·obtain⟨a,ns,rfl,ha,hl,hT,ct,q⟩:=h;have ce:Tbs K H:=⟨λc T e=>.inl (hT _ (by simp) c T e),λc T e=>.inl (hT _ (by simp) c T e),λc T e=>.inl (hT _ (by simp) c T e)⟩;clear hT;refine⟨_,(@ai _ _ _ _ _ (bq PassesOwn.never rfl (cb rfl T.range_ (@aa _ _ _ _ _ af ae rfl)) (aA (i:=1) nd rfl (Or.inl rfl)) (@ao _ _ _ (@aZ _ _ _ _ _ _ _ _ (bM (aX (ax J O (@aa _ _ _ _ _ (ax l O (@aa _ _ _ _ _ (pv 0) (@aa _ _ _ _ _ (aq aN af (pv 1)) ae rfl) rfl)) (@aa _ _ _ _ _ af ae rfl) rfl)))) (@ao _ _ _ (@aB _ _ _ _ aT)) aP)))
    (@ai _ _ _ _ _ (@aC _ _ 2 _ _ _ _ nd rfl (Or.inl rfl) (ax a5 O (@aa _ _ _ _ _ (ax l O (@aa _ _ _ _ _ (pv 0) (@aa _ _ _ _ _ af ae rfl) rfl)) (@aa _ _ _ _ _ af ae rfl) rfl)) rfl (Or.inl rfl))
    (@ai _ _ _ _ _ (@aC _ _ 3 _ _ _ _ nd rfl (Or.inl rfl) (ax a4 O (@aa _ _ _ _ _ (ax l O (@aa _ _ _ _ _ (pv 0) (@aa _ _ _ _ _ af ae rfl) rfl)) (@aa _ _ _ _ _ (@bo _ _ _ _ (gR (.c (.c (.c (.c (.c (.c .n)))))))) (@aa _ _ _ _ _ af ae rfl) rfl) rfl)) rfl (Or.inl rfl))
    (@ai _ _ _ _ _ (@aC _ _ 4 _ _ _ _ nd rfl (Or.inl rfl) (@bf _ _ _ _ _ (@aa _ _ _ _ _ (aq bW (@ah _ _ _ _ _ _ _ (aF K) (pv 3) af (λ_ _=>rfl)) (@ah _ _ _ _ _ _ _ (ay K) (pv 2) af (λ_ _=>rfl))) (@aa _ _ _ _ _ (@ah _ _ _ _ _ _ _ (aF K) (pv 3) af (λ_ _=>rfl)) ae rfl) rfl)) rfl (Or.inl rfl))
    (@ai _ _ _ _ _ (@aC _ _ 5 _ _ _ _ nd rfl (Or.inl rfl) (@bf _ _ _ _ _ (@aa _ _ _ _ _ (aq bW (@ah _ _ _ _ _ _ _ (aF K) (pv 3) af (λ_ _=>rfl)) (@ah _ _ _ _ _ _ _ (ay K) (pv 2) af (λ_ _=>rfl))) (@aa _ _ _ _ _ (@ah _ _ _ _ _ _ _ (aF K) (pv 3) af (λ_ _=>rfl)) ae rfl) rfl)) rfl (Or.inl rfl))
    (@ai _ _ _ _ _ (@aC _ _ 6 _ _ _ _ nd rfl (Or.inl rfl) (ax W O (@aa _ _ _ _ _ (pv 2) (@aa _ _ _ _ _ (pv 4) ae rfl) rfl)) rfl (Or.inl rfl))
    (@ai _ _ _ _ _ (@aC _ _ 7 _ _ _ _ nd rfl (Or.inl rfl) (ax W O (@aa _ _ _ _ _ (pv 2) (@aa _ _ _ _ _ (pv 5) ae rfl) rfl)) rfl (Or.inl rfl))
    (@ai _ _ _ _ _ (@aZ _ _ _ _ _ _ _ _ (PW.pt (cC (aM rj (ax d O (@aa _ _ _ _ _ (pv 2) (@aa _ _ _ _ _ (pv 6) ae rfl) rfl)) aT (aJ _)) (cW (aM rj (ax d O (@aa _ _ _ _ _ (pv 2) (@aa _ _ _ _ _ (pv 7) ae rfl) rfl)) aT (aJ _))))) (@ao _ _ _ (@aB _ _ _ _ aT)) aP)
    (@ai _ _ _ _ _ (@aC _ _ 8 _ _ _ _ nd rfl (Or.inr rfl) (bK ["_law_a","_law_b"] [] (kr K rfl T.zip_ (@aa _ _ _ _ _ (pv 6) (@aa _ _ _ _ _ (pv 7) ae rfl) rfl)) (λ_=>(dS (n:=2) K rfl (bp (aA (i:=0) (show(["_law_a","_law_b"]:List Vn).Nodup from by decide +kernel) rfl (Or.inl rfl) (Or.inr rfl)) (bp (aA (i:=1) (show(["_law_a","_law_b"]:List Vn).Nodup from by decide +kernel) rfl (Or.inl rfl) (Or.inr rfl)) dC)))) (λ_=>cn) (λ_=>(ax g O (@aa _ _ _ _ _ (@ah _ _ _ _ _ _ _ (ay K) (pv 0) af (λ_ _=>rfl)) (@aa _ _ _ _ _ (@ah _ _ _ _ _ _ _ (ay K) (pv 1) af (λ_ _=>rfl)) ae rfl) rfl)))) rfl (Or.inl rfl))
    (@ai _ _ _ _ _ (@aC _ _ 9 _ _ _ _ nd rfl (Or.inl rfl) (aU (jj K rfl) rfl T.max_ PyProof.Rows.boot_max (@aa _ _ _ _ _ (bK ["_law_a"] [8] (bP K (pv 8)) (λ_=>(aA (i:=0) (show(["_law_a","_law_steps"]:List Vn).Nodup from by decide +kernel) rfl (Or.inr rfl) (Or.inl rfl))) (λ_=>cn) (λ_=>(aU (jj K rfl) rfl T.max_ PyProof.Rows.boot_max (@aa _ _ _ _ _ (bK ["_law_b"] [0] (bP K (pv 1)) (λ_=>(aA (i:=0) (show(["_law_b","_law_a"]:List Vn).Nodup from by decide +kernel) rfl (Or.inl rfl) (Or.inr rfl))) (λ_=>cn) (λ_=>(ax g O (@aa _ _ _ _ _ (pv 1) (@aa _ _ _ _ _ (pv 0) ae rfl) rfl)))) ae rfl)))) ae rfl)) rfl (Or.inl rfl))
    (@ai _ _ _ _ _ (cF (aM fN (pv 9) af (aJ _)) (@ao _ _ _ (@aZ _ _ _ _ _ _ _ _ (aM rj (ax d O (@aa _ _ _ _ _ (pv 2) (@aa _ _ _ _ _ (bK ["_law_a","_law_b"] [] (kr K rfl T.zip_ (@aa _ _ _ _ _ (pv 6) (@aa _ _ _ _ _ (pv 7) ae rfl) rfl)) (λ_=>(dS (n:=2) K rfl (bp (aA (i:=0) (show(["_law_a","_law_b"]:List Vn).Nodup from by decide +kernel) rfl (Or.inl rfl) (Or.inr rfl)) (bp (aA (i:=1) (show(["_law_a","_law_b"]:List Vn).Nodup from by decide +kernel) rfl (Or.inl rfl) (Or.inr rfl)) dC)))) (λ_=>cn) (λ_=>(ax U O (@aa _ _ _ _ _ (pv 0) (@aa _ _ _ _ _ (pv 1) ae rfl) rfl)))) ae rfl) rfl)) aT (aJ _)) (@ao _ _ _ (@aB _ _ _ _ aT)) aP)) aP)
    (@ai _ _ _ _ _ (@aC _ _ 10 _ _ _ _ nd rfl (Or.inl rfl) (aq aN af (@ah _ _ _ _ _ _ _ (aF K) (pv 3) af (λ_ _=>rfl))) rfl (Or.inl rfl))
    (@ai _ _ _ _ _ (@aC _ _ 11 _ _ _ _ nd rfl (Or.inl rfl) (aq aN af (@ah _ _ _ _ _ _ _ (aF K) (pv 3) af (λ_ _=>rfl))) rfl (Or.inl rfl))
    (@ai _ _ _ _ _ (@aC _ _ 12 _ _ _ _ nd rfl (Or.inl rfl) (ax G O (@aa _ _ _ _ _ (ax a3 O (@aa _ _ _ _ _ (pv 2) (@aa _ _ _ _ _ (pv 10) (@aa _ _ _ _ _ (pv 11) (@aa _ _ _ _ _ (@bo _ _ _ _ (@aa _ _ _ _ _ (pv 4) ae rfl)) ae rfl) rfl) rfl) rfl)) (@aa _ _ _ _ _ (pv 10) (@aa _ _ _ _ _ (pv 11) ae rfl) rfl) rfl)) rfl (Or.inl rfl))
    (@ai _ _ _ _ _ (@aZ _ _ _ _ _ _ _ _ (bM (aX (aU (og K rfl) rfl T.all_ PyProof.Rows.boot_all (@aa _ _ _ _ _ (bK ["_law_a","_law_b"] [] (kr K rfl T.zip_ (@aa _ _ _ _ _ (pv 6) (@aa _ _ _ _ _ (pv 12) ae rfl) rfl)) (λ_=>(dS (n:=2) K rfl (bp (aA (i:=0) (show(["_law_a","_law_b"]:List Vn).Nodup from by decide +kernel) rfl (Or.inl rfl) (Or.inr rfl)) (bp (aA (i:=1) (show(["_law_a","_law_b"]:List Vn).Nodup from by decide +kernel) rfl (Or.inl rfl) (Or.inr rfl)) dC)))) (λ_=>cn) (λ_=>(ax S O (@aa _ _ _ _ _ (pv 0) (@aa _ _ _ _ _ (pv 1) ae rfl) rfl)))) ae rfl)))) (@ao _ _ _ (@aB _ _ _ _ aT)) aP)
    (@ai _ _ _ _ _ (bq PassesOwn.never rfl (cb rfl T.range_ (@aa _ _ _ _ _ (@ah _ _ _ _ _ _ _ (ay K) (pv 2) af (λ_ _=>rfl)) ae rfl)) (aA (i:=13) nd rfl (Or.inl rfl)) (@ao _ _ _ (bq PassesOwn.never rfl (vp rfl T.range_ (@aa _ _ _ _ _ af (@aa _ _ _ _ _ (aq aN (pv 10) (pv 11)) (@aa _ _ _ _ _ af ae rfl) rfl) rfl)) (aA (i:=14) nd rfl (Or.inl rfl)) (@ao _ _ _ (cF (PW.pt (eS (bM (aX (ax p O (@aa _ _ _ _ _ (@ah _ _ _ _ _ _ _ (aF K) (pv 6) (pv 13) (λ_ _=>rfl)) (@aa _ _ _ _ _ (pv 14) ae rfl) rfl)))) (fH (bM (aX (ax p O (@aa _ _ _ _ _ (@ah _ _ _ _ _ _ _ (aF K) (pv 12) (pv 13) (λ_ _=>rfl)) (@aa _ _ _ _ _ (pv 14) ae rfl) rfl))))))) (@ai _ _ _ _ _ (@aC _ _ 15 _ _ _ _ nd rfl (Or.inl rfl) (@bo _ _ _ _ (@aa _ _ _ _ _ (ax C O (@aa _ _ _ _ _ (pv 2) (@aa _ _ _ _ _ (pv 4) (@aa _ _ _ _ _ (@bf _ _ _ _ _ (@aa _ _ _ _ _ (pv 13) (@aa _ _ _ _ _ (pv 14) ae rfl) rfl)) (@aa _ _ _ _ _ (pv 12) ae rfl) rfl) rfl) rfl)) (@aa _ _ _ _ _ (ax C O (@aa _ _ _ _ _ (pv 2) (@aa _ _ _ _ _ (pv 4) (@aa _ _ _ _ _ (@bf _ _ _ _ _ (@aa _ _ _ _ _ (pv 13) (@aa _ _ _ _ _ (pv 14) ae rfl) rfl)) (@aa _ _ _ _ _ (pv 6) ae rfl) rfl) rfl) rfl)) ae rfl) rfl)) rfl (Or.inl rfl))
    (@ao _ _ _ (@aZ _ _ _ _ _ _ _ _ (aM (xP O) (pv 15) (@bo _ _ _ _ (@aa _ _ _ _ _ aT (@aa _ _ _ _ _ aT ae rfl) rfl)) (aJ _)) (@ao _ _ _ (@aB _ _ _ _ aT)) aP))) aP)))))
    (@ao _ _ _ (@aB _ _ _ _ aT)))))))))))))))))),?_⟩
  walk_at"";refine cj (by omega) ?_;refine forR (λk σ H'=>Ext H H'/\∃k1,σ=[Vo (.ref a),k1,Vp,Vp,Vp,Vp,Vp,Vp,Vp,Vp,Vp,Vp,Vp,Vp,Vp,Vp]) ⟨Ext.rfl' _,_,rfl⟩ ?_ ?_
  ·rintro k σ H1 hk ⟨e1,k1,rfl⟩;walk_at"";refine⟨a,ns,_,rfl,ha.ext e1,hl,by omega,λz=>?_⟩;walk_at"";refine⟨z,_,rfl,by decide,λH2 e2=>?_⟩;walk_at"";refine aw ?_;walk_at"";exact⟨e1.trans e2,_,rfl⟩
  rintro σ H0 ⟨e0,k1,rfl⟩;have cf:=ce.ext e0;have cu:=ha.ext e0;clear ce ha e0;walk_at"";refine⟨a,ns,0,rfl,cu,hl,by decide,λz=>?_⟩;walk_at"";refine⟨z,_,rfl,by decide,λv m ws H1 e1 hv ok3=>?_⟩;have ok:=ok3.house;clear ok3;have m1:=ok.m1;have m2:=ok.m12;walk_at"";refine⟨a,ns,1,rfl,cu.ext e1,hl,by decide,λz2=>?_⟩;walk_at"";refine aK λw0 H2 e2 di _=>?_;walk_at"";refine⟨z2,w0,[12,13,12,41,40,12],_,rfl,di,by decide,by decide,by decide,λdq ds H3 e3 hd _ ap hb=>?_⟩;obtain⟨d0,g0,gk,gl⟩:=bO ap hb 0 rfl;obtain⟨d1,g1,dl,go⟩:=bO ap hb 1 rfl;obtain⟨d2,g2,gp,gs⟩:=bO ap hb 2 rfl;obtain⟨d3,g3,dp,gt⟩:=bO ap hb 3 rfl;obtain⟨d4,g4,dt,gu⟩:=bO ap hb 4 rfl;obtain⟨d5,g5,gv,gx⟩:=bO ap hb 5 rfl;obtain⟨d4,rfl⟩:=Int.eq_ofNat_of_zero_le dt;obtain⟨d5,rfl⟩:=Int.eq_ofNat_of_zero_le gv;have cv:=hv.ext (e2.trans e3);have du:=cf.ext (e1.trans (e2.trans e3));obtain⟨b6,k9,rfl,hh,_⟩:=id cv;have r0:=Int.emod_nonneg d0 (show m≠0 by omega);have r1:=Int.emod_lt_of_pos d0 (show 0<m by omega);have o0:=Int.emod_nonneg d2 (show m≠0 by omega);have o1:=Int.emod_lt_of_pos d2 (show 0<m by omega);clear hv cf cu e1 e2 e3 di ap hb;walk_at"";refine aE (ag.of hd) g0 ?_;walk_at"";refine az (aj.of hh) (v:=.int m) rfl ?_
  try refine rd_I (show(0:Int)<m by omega) ?_
  walk_at"";refine aE (ag.of hd) g1 ?_;walk_at"";refine aK λpa H4 e4 dx _=>?_;walk_at"";refine aE (ag.of (e4 _ _ hd)) g2 ?_;walk_at"";refine az (aj.of (e4 _ _ hh)) (v:=.int m) rfl ?_
  try refine rd_I (show(0:Int)<m by omega) ?_
  walk_at"";refine aE (ag.of (e4 _ _ hd)) g3 ?_;walk_at"";refine aK λpb H5 e5 ea _=>?_;obtain⟨x,hx⟩:∃x:Bfs.Pl,x=(d0 % m,d1):=⟨_,rfl⟩;obtain⟨y,hy⟩:∃y:Bfs.Pl,y=(d2 % m,d3):=⟨_,rfl⟩;have d6:aO H5 pa x:=by rw[hx];exact e5 _ _ dx
  have eb:aO H5 pb y:=by rw[hy];exact ea
  have ix:dU m x:=by rw[hx];exact⟨r0,r1,dl,by show d1<=1000;omega⟩
  have iy:dU m y:=by rw[hy];exact⟨o0,o1,dp,by show d3<=1000;omega⟩
  have c0:=e4.trans e5;have c3:=cv.ext c0;have ec:=c0 _ _ hd;have ed:=du.ext c0;clear hx hy r0 r1 o0 o1 gk gl dl go gp gs dp gt dx ea e4 e5 cv hd hh du c0 g0 g1 g2 g3;walk_at"";refine⟨_,m,ws,pa,x,rfl,c3,ok,d6,ix,ct,ed,λsl xs H6 e6 eg _ ei fw=>?_⟩;walk_at"";refine⟨_,m,ws,pb,y,rfl,c3.et e6,ok,eb.et e6,iy,ct,eg,λsm ys H7 e7 _ _ d7 d8=>?_⟩;have c4:=e6.trans e7;have b7:=c3.et c4;have ej:=d6.et c4;have ek:=vq c4 ec;have b8:=vq e7 ei;have gz:=fw.1;have h0:=d8.1;obtain⟨ts,S1,el,h1,F1⟩:=(fw.et e7).sts ok ix;obtain⟨us,S2,em,en,F2⟩:=d8.sts ok iy;have c1:=w8 ok.ok F1;have c2:=w8 ok.ok F2;have l1:=S1.len;have l2:=S2.len;obtain⟨_,_,h2,hh,_⟩:=id b7;cases h2;clear fw d8 c4 e6 e7 c3 d6 eb ec ei ed eg ct F2 iy;walk_at"";refine oi b7 ok ⟨sl,xs,rfl,b8,by omega,gz,S1,el⟩ c1 λH8 e8=>?_;walk_at"";refine⟨_,_,rfl,rfl,_,rfl,aw ?_⟩;walk_at"";refine oi (b7.ext e8) ok ⟨sm,ys,rfl,e8 _ _ d7,by omega,h0,S2.ext e8,em⟩ c2 λH9 e9=>?_;walk_at"";refine⟨_,_,rfl,rfl,_,rfl,aw ?_⟩;have ab:=e8.trans e9;have d9:=b7.ext ab;have ep:=ab _ _ ej;have eq:=ab _ _ ek;have a8:=ab _ _ b8;have ak:=ab _ _ d7;have S1:=S1.ext ab;have S2:=S2.ext ab;have er:=ab _ _ hh;clear e8 e9 ab b7 ej ek b8 d7 hh;walk_at"";refine kn (ag.of a8) (ag.of ak) ?_;refine lA (λi zs H'=>Ext H9 H'/\∃ns:List Nat,zs=(ns.map Int.ofNat).map V.int/\ns.length=i/\∀(j:Nat) n,ns[j]?=Vo n->∃t u,ts[j]?=Vo t/\us[j]?=Vo u/\n=cm t.s u.s) (bw (by omega)) ⟨Ext.rfl' _,[],rfl,rfl,λj n h=>by simp at h⟩ (λi zs H' h=>⟨ag.of (h.1 _ _ a8),ag.of (h.1 _ _ ak),by obtain⟨_,ns,rfl,h,_⟩:=h;rw[Fs,Fs,h];exact FN _⟩) ?_ ?_
  ·rintro i u v zs da p4 es hu hv ⟨e,R,rfl,b0,hn⟩ h3 h4 _;obtain⟨t1,am,a6⟩:=cg S1 hu;obtain⟨t2,an,a7⟩:=cg S2 hv;have ee:=e.trans h3;obtain⟨p1,_,_,rfl,k1,_,_⟩:=id (a6.ext ee).1;obtain⟨p2,_,_,rfl,k2,_,_⟩:=id (a7.ext ee).1;have y1:=a6.s8;have y2:=a7.s8;refine dH (aj.of h4) rfl ?_;walk_at"";refine av ?_;walk_at"";refine az (aj.of k1) (v:=.int (t1.s:Nat)) rfl ?_;walk_at"";refine az (aj.of k2) (v:=.int (t2.s:Nat)) rfl ?_;walk_at"";refine⟨t1.s,t2.s,rfl,a6.s1,a7.s1,by omega,by omega,ee,R++[cm t1.s t2.s],by rw[FJ,FJ];rfl,by rw[FK,b0];rfl,λj n hj=>?_⟩;by_cases h5:j<R.length
   ·rw[FT h5]at hj;exact hn j n hj
   ·rw[FR (by omega)]at hj;have h6:j-R.length=0:=by have:=(FA.mp hj).1;simp at this;omega
    rw[h6]at hj;cases hj;have:j=i:=by omega
    subst this;exact⟨t1,t2,am,an,rfl⟩
  rintro zs da ar ⟨ev,Z,rfl,h7,hZ⟩ ch;have hZb:∀n∈Z,1<=n/\n<=6561:=λn hn=>by obtain⟨j,hj⟩:=Gg hn;obtain⟨t,u,ht,hu,rfl⟩:=hZ j n hj;obtain⟨_,_,q1⟩:=eo S1 ht;obtain⟨_,_,q2⟩:=eo S2 hu;exact⟨jJ q1.s1 q2.s1,FY pZ (Nat.mul_le_mul (h1 t (FC ht)) (en u (FC hu)))⟩
  have ba:=ev.trans (aV (o:=.lst ((Z.map Int.ofNat).map V.int)) ch);have a9:(upd da ar (.lst ((Z.map Int.ofNat).map V.int))) ar=Vo (.lst ((Z.map Int.ofNat).map V.int)):=aI;generalize upd da ar (.lst ((Z.map Int.ofNat).map V.int))=es at ba a9 ⊢;have ew:Z.length<=12:=by omega
  have ex:0<Z.length:=by omega
  clear ev ch;walk_at"";refine bN (ag.of a9) ?_;refine dn (xs:=(Z.map Int.ofNat).map V.int) (λi ys H'=>Ext es H'/\∃ns:List Int,ys=ns.map V.int/\ns.length=i/\∀a∈Z.take i,∃n∈ns,∀b∈Z,((cm a b:Nat):Int)<=n) (dy (by rw[Fs,Fs];omega)) ⟨Ext.rfl' _,[],rfl,rfl,λz h=>by simp at h⟩ (λi ys H' _ h=>⟨ag.of (h.1 _ _ a9),by obtain⟨_,ns,rfl,h,_⟩:=h;rw[Fs,h];exact FN _⟩) ?_ ?_
  ·rintro i v ys c5 hx ⟨b4,R,rfl,b0,b5⟩;obtain⟨z1,rfl,ey⟩:=fb hx;rw[Fu]at ey;obtain⟨A,hA,rfl⟩:=FE.mp ey;have bA:=hZb A (FC hA);walk_at"";refine av ?_;walk_at"";refine bN (ag.of (b4 _ _ a9)) ?_;refine dn (xs:=(Z.map Int.ofNat).map V.int) (λi ys H'=>H'=c5/\ys=((Z.take i).map λz=>((cm A z:Nat):Int)).map V.int) (dy (by rw[Fs,Fs];omega)) ⟨rfl,rfl⟩ (λi ys H' _ h=>⟨by rw[h.1];exact ag.of (b4 _ _ a9),by rw[h.2,Fs,Fs,Gi];omega⟩) ?_ ?_
   ·rintro i' v ys c6 hx ⟨rfl,rfl⟩;obtain⟨z2,rfl,ez⟩:=fb hx;rw[Fu]at ez;obtain⟨B,hB,rfl⟩:=FE.mp ez;have bB:=hZb B (FC hB);walk_at"";refine av ?_;walk_at"";refine⟨A,B,rfl,bA.1,bB.1,by omega,by omega,rfl,?_⟩;rw[List.take_add_one,hB,FJ,FJ];rfl
   ·rintro ys c6 h8 ⟨hH,rfl⟩ f0;subst hH;rw[Fs,Fs,FW];have h9:=aV (o:=.lst ((Z.map λz=>((cm A z:Nat):Int)).map V.int)) f0;walk_at"";refine⟨h8,_,rfl,ag.of aI,by rw[Fs];exact ex,λM hM hMx=>?_⟩;refine⟨b4.trans h9,R++[M],by rw[FJ];rfl,by rw[FK,b0];rfl,λz hz=>?_⟩;rw[List.take_add_one,hA]at hz;rcases FQ.mp hz with hz|hz
    ·obtain⟨n,hn,h⟩:=b5 z hz;exact⟨n,FQ.mpr (.inl hn),h⟩
    ·have hc:z=A:=by simpa using hz
     subst hc;exact⟨M,FQ.mpr (.inr (FD.mpr rfl)),λB hB=>hMx _ (List.mem_map.mpr ⟨B,hB,rfl⟩)⟩
  rintro kb c5 c7 ⟨b4,R,rfl,b0,b5⟩ ci;rw[Fs,Fs]at b0 b5;rw[FW]at b5;have I:=ba.trans (b4.trans (aV (o:=.lst (R.map V.int)) ci));have bb:(upd c5 c7 (.lst (R.map V.int))) c7=Vo (.lst (R.map V.int)):=aI;generalize upd c5 c7 (.lst (R.map V.int))=c6 at I bb ⊢;walk_at"";refine⟨c7,R,rfl,ag.of bb,by omega,λM hM hMx=>?_⟩;have db:∀a∈Z,∀b∈Z,((cm a b:Nat):Int)<=M:=λa ha b hb=>by obtain⟨n,hn,h⟩:=b5 a ha;exact Int.le_trans (h b hb) (hMx n hn)
  clear hM hMx b5 b0 bb a9 b4 ci ba R;walk_at"";refine eZ (λσ H'=>Ext c6 H'/\σ=[Vo (.ref a),k1,Vo (.ref b6),Vo (.ref dq),Vo (.ref pa),Vo (.ref pb),Vo (.ref sl),Vo (.ref sm),Vo (.ref ar),Vo (.int M),Vp,Vp,Vp,Vp,Vp,Vp]) ?_ ?_
  ·walk_at"";by_cases f1:M<=840
   ·rw[Gp f1];refine av ?_;walk_at"";refine kn (ag.of (I _ _ a8)) (ag.of (I _ _ ak)) ?_;refine lA (λi zs H'=>Ext c6 H'/\cE H' zs (List.zipWith gj (ts.take i) (us.take i))/\zs.length=i) (bw (by omega)) ⟨Ext.rfl' _,.nil,rfl⟩ (λi zs H' h=>⟨ag.of ((I.trans h.1) _ _ a8),ag.of ((I.trans h.1) _ _ ak),Nat.le_of_eq h.2.2⟩) ?_ ?_
    ·rintro i u v zs c8 p4 f2 hu hv ⟨e,hS,f3⟩ L he _;obtain⟨t1,am,a6⟩:=cg S1 hu;obtain⟨t2,an,a7⟩:=cg S2 hv;have ee:=I.trans (e.trans L);have kd:=(FA.mp hu).1;obtain⟨n,hn⟩:∃n,Z[i]?=Vo n:=⟨_,Ft (by omega)⟩;obtain⟨t',u',bc,as,hg⟩:=hZ i n hn;rw[am]at bc;rw[an]at as;cases bc;cases as;have hm:=db n (FC hn) n (FC hn);rw[tY (hZb n (FC hn)).1,hg]at hm;refine dH (aj.of he) rfl ?_;walk_at"";refine av ?_;walk_at"";refine⟨u,v,t1,t2,rfl,a6.ext ee,a7.ext ee,by omega,λr f4 au O=>?_⟩;refine⟨e.trans (L.trans au),?_,by rw[FK,f3];rfl⟩;rw[yA am an];exact kc (hS.ext (L.trans au)) O
    ·rintro zs c8 c9 ⟨be,hS,f3⟩ f5;rw[List.take_of_length_le (by omega),List.take_of_length_le (by omega)]at hS;have L:=aV (o:=.lst zs) f5;have cl:(upd c8 c9 (.lst zs)) c9=Vo (.lst zs):=aI;generalize upd c8 c9 (.lst zs)=f2 at L cl ⊢;walk_at"";refine oi (d9.ext (I.trans (be.trans L))) ok ⟨c9,zs,rfl,cl,by omega,by omega,hS.ext L,λA hA B hB=>?_⟩ (yY ok.ok S1 S2 c1 c2) λf4 au=>?_
     ·obtain⟨i,hi⟩:=Gg hA;obtain⟨j,hj⟩:=Gg hB;obtain⟨a1,a2,k1,k2,rfl⟩:=lM hi;obtain⟨b1,b2,k3,k4,rfl⟩:=lM hj;have li:=(FA.mp k1).1;have lj:=(FA.mp k3).1;obtain⟨n,hn⟩:∃n,Z[i]?=Vo n:=⟨_,Ft (by omega)⟩;obtain⟨n',f8⟩:∃n,Z[j]?=Vo n:=⟨_,Ft (by omega)⟩;obtain⟨t,u,ht,hu,rfl⟩:=hZ i n hn;obtain⟨t',u',bc,as,rfl⟩:=hZ j n' f8;rw[k1]at ht;rw[k2]at hu;rw[k3]at bc;rw[k4]at as;cases ht;cases hu;cases bc;cases as;have:=db _ (FC hn) _ (FC f8);show cm (cm a1.s a2.s) (cm b1.s b2.s)<=840;omega
     walk_at"";refine⟨_,_,rfl,rfl,_,rfl,aw ?_⟩;walk_at"";exact⟨be.trans (L.trans au),rfl⟩
   ·rw[Gn f1];refine aw ?_;walk_at"";exact⟨Ext.rfl' _,rfl⟩
  rintro σ c8 ⟨be,rfl⟩;have X:=I.trans be;have bg:=d9.ext X;have bi:=X _ _ ep;have bm:=X _ _ eq;have bn:=X _ _ a8;have co:=X _ _ er;have S1:=S1.ext X;clear hZ hZb db ew ex h7 d9 ep eq a8 ak er I be X S2 em en c2;walk_at"";refine aE (ag.of bm) g4 ?_;walk_at"";refine aE (ag.of bm) g5 ?_;walk_at"";obtain⟨b,hb,b1,dt⟩:∃b:Nat,1+(d4:Int)=(b:Int)/\1<=b/\b<=40:=⟨1+d4,by omega,by omega,by omega⟩;obtain⟨s',hs,s1,kj⟩:∃s:Nat,1+(d5:Int)=(s:Int)/\1<=s/\s<=12:=⟨1+d5,by omega,by omega,by omega⟩;rw[hb,hs];clear hb hs gu gx g4 g5 bm;refine aK λpl f2 L fa _=>?_;walk_at"";refine⟨.ref b6,m,ws,b,s',pl,[pa],[x],rfl,bg.ext L,ok,s1,by omega,fa,.cons (L _ _ bi) .nil,by simp,λz hz=>by rw[FD.mp hz];exact ix,λmq rs Mk f4 au _ hrs hR hC fc=>?_⟩;walk_at"";refine⟨mq,rs,Mk,b,s',rfl,s1,by omega,hR,by omega,λfq vs ca ff _ cd bu=>?_⟩;have N:=L.trans (au.trans ff);have cp:=bg.ext N;have cr:=N _ _ bi;have ac:=N _ _ bn;have fl:=N _ _ co;have S1:=S1.ext N;have fp:=fc x Fy;have ho:=ix.1;have kk:=ix.2.1;have fr:=ix.2.2.1;have hcl:cls ws (dN b s' Mk rs.length):=Ew ok.ok (by omega) s1 hC;have hlen:=bu.len;rw[oD]at hlen;have hst:steps (dN b s' Mk rs.length):=λA hA B hB=>by obtain⟨i,_,rfl⟩:=List.mem_map.mp hA;obtain⟨j,_,rfl⟩:=List.mem_map.mp hB;show cm s' s'<=840;rw[tY s1];omega
  have dc:∃t,(dN b s' Mk rs.length)[x.1.toNat]?=Vo t/\t.f x.2.toNat=true:=⟨_,wM (by omega),by rw[jr s1];exact fp⟩;have fv:((dN b s' Mk rs.length).length:Int)=m:=by rw[oD];exact hrs
  generalize dN b s' Mk rs.length=bt at bu hcl hst dc fv;clear hC fc hR fp bg bi bn co N L au ff fa;have hp:∀(i:Nat) (t u:StT),ts[i]?=Vo t->bt[i]?=Vo u->∀n,t.f n=true->u.f n=true:=λi t u ht hu n hn=>by obtain⟨_,u',as,hf⟩:=BE ok.ok fv hcl ((F1 i t ht n).mp hn) fr dc;have cs:bt[i]?=Vo u':=as;rw[hu]at cs;cases cs;exact hf
  walk_at"";refine kn (ag.of ac) (ag.of cd) ?_;refine lA (λi zs H'=>Ext ca H'/\zs=(Gb i true).map V.bl) (bw (by omega)) ⟨Ext.rfl' _,rfl⟩ (λi zs H' h=>⟨ag.of (h.1 _ _ ac),ag.of (h.1 _ _ cd),by rw[h.2,Fs,List.length_replicate];exact FN _⟩) ?_ ?_
  ·rintro i u v zs fx p4 hq hu hv ⟨e,rfl⟩ bv hw _;obtain⟨t1,am,a6⟩:=cg S1 hu;obtain⟨t2,an,a7⟩:=cg bu hv;have ee:=e.trans bv;refine dH (aj.of hw) rfl ?_;walk_at"";refine av ?_;walk_at"";exact⟨u,v,t1,t2,rfl,a6.ext ee,a7.ext ee,hp i t1 t2 am an,ee,ny i true⟩
  rintro zs fx fy ⟨i0,rfl⟩ fz;have bv:=i0.trans (aV (o:=.lst ((Gb (min xs.length vs.length) true).map V.bl)) fz);walk_at"";refine⟨fy,_,rfl,ag.of aI,?_⟩;rw[xo];generalize upd fx fy _=hq at bv ⊢;walk_at"";refine aw ?_;walk_at"";refine az (aj.of (bv _ _ fl)) (v:=.int m) rfl ?_;walk_at"";refine cj (by omega) ?_;refine forR (λr σ H'=>Ext ca H'/\∃k13 k14 k15,σ=[Vo (.ref a),k1,Vo (.ref b6),Vo (.ref dq),Vo (.ref pa),Vo (.ref pb),Vo (.ref sl),Vo (.ref sm),Vo (.ref ar),Vo (.int M),Vo (.int (b:Nat)),Vo (.int (s':Nat)),Vo (.ref fq),k13,k14,k15]) ⟨bv,_,_,_,rfl⟩ ?_ ?_
  ·rintro r σ i1 O ⟨g6,k13,k14,k15,rfl⟩;rw[show (0:Int)+(r:Int)=((r:Nat):Int) by omega];obtain⟨v1,g8⟩:∃v1,xs[r]?=Vo v1:=⟨_,Ft (by omega)⟩;obtain⟨v2,gc⟩:∃v2,vs[r]?=Vo v2:=⟨_,Ft (by omega)⟩;obtain⟨t1,am,a6⟩:=cg S1 g8;obtain⟨t2,an,a7⟩:=cg bu gc;walk_at"";refine vF (by unfold g9;omega) ?_;refine sX (λj σ H'=>Ext ca H'/\∃k14 k15,σ=[Vo (.ref a),k1,Vo (.ref b6),Vo (.ref dq),Vo (.ref pa),Vo (.ref pb),Vo (.ref sl),Vo (.ref sm),Vo (.ref ar),Vo (.int M),Vo (.int (b:Nat)),Vo (.int (s':Nat)),Vo (.ref fq),Vo (.int (r:Nat)),k14,k15]) ⟨g6,_,_,rfl⟩ ?_ ?_
   ·rintro j σ i2 hj ⟨ad,k14,k15,rfl⟩;have hlt:=uI (by decide) hj;obtain⟨n,hn,k8⟩:∃n:Nat,(0:Int)+(j:Int)*3=(n:Int)/\n<=52:=⟨((0:Int)+(j:Int)*3).toNat,by omega,by omega⟩;rw[hn];have i3:mem t1.b t1.s t1.o t1.a (n:Int)=t1.f n:=rfl;have i4:mem t2.b t2.s t2.o t2.a (n:Int)=t2.f n:=rfl;walk_at"";refine eZ (λσ H'=>Ext ca H'/\∃k15,σ=[Vo (.ref a),k1,Vo (.ref b6),Vo (.ref dq),Vo (.ref pa),Vo (.ref pb),Vo (.ref sl),Vo (.ref sm),Vo (.ref ar),Vo (.int M),Vo (.int (b:Nat)),Vo (.int (s':Nat)),Vo (.ref fq),Vo (.int (r:Nat)),Vo (.int (n:Nat)),k15]) ?_ ?_
    ·walk_at"";refine aE (ag.of (ad _ _ ac)) (iS (i:=(r:Int)) (by omega) (by rw[FF];exact g8)) ?_;walk_at"";refine⟨_,_,_,_,_,_,rfl,(a6.ext ad).1,a6.2,?_⟩;rw[i3];walk_at"";cases ih:t1.f n with
     | true=>
      refine aw ?_;walk_at"";exact⟨ad,_,rfl⟩
     | false=>
      refine av ?_;walk_at"";refine aE (ag.of (ad _ _ cd)) (iS (i:=(r:Int)) (by omega) (by rw[FF];exact gc)) ?_;walk_at"";refine⟨_,_,_,_,_,_,rfl,(a7.ext ad).1,a7.2,?_⟩;rw[i4];walk_at"";cases ii:t2.f n with
      | true=>
       refine aw ?_;walk_at"";exact⟨ad,_,rfl⟩
      | false=>
       refine av ?_;walk_at"";refine aK λga im dd io _=>?_;have Y:=ad.trans dd;obtain⟨bx,hbx,is⟩:=dc;have iz:dU m ((r:Int),(n:Int)):=⟨by show(0:Int)<=(r:Int);omega,by show(r:Int)<m;omega,by show(0:Int)<=(n:Int);omega,by show(n:Int)<=1000;omega⟩;walk_at"";refine⟨_,pa,ga,.ref fq,m,ws,bt,x,((r:Int),(n:Int)),bx,t2,rfl,cp.ext Y,ok,⟨fq,vs,rfl,Y _ _ cd,by omega,by omega,bu.ext Y,hst⟩,Y _ _ cr,io,ix,iz,hcl,hbx,an,is,ii,λkl iv=>?_⟩;walk_at"";refine aK λgb km j0 jd _=>?_;have a0:=Y.trans (iv.trans j0);obtain⟨tx,gd⟩:∃tx,ts[x.1.toNat]?=Vo tx:=⟨_,Ft (by omega)⟩;have jp:tx.f x.2.toNat=true:=(F1 _ _ gd _).mpr (by rw[FG ho,FG fr];exact .refl);walk_at"";refine⟨_,pa,gb,.ref sl,m,ws,ts,x,((r:Int),(n:Int)),tx,t1,rfl,cp.ext a0,ok,⟨sl,xs,rfl,a0 _ _ ac,by omega,by omega,S1.ext a0,el⟩,a0 _ _ cr,jd,ix,iz,c1,gd,am,jp,ih,λks js=>?_⟩;walk_at"";refine aK λta kt k0 k5 _=>?_;walk_at"";refine aK λtb ge gf k6 _=>?_;have gi:=iq (n:=2) (f:=λ_=>true) (show ge ta=Vo (.lst (aL 2 λ_=>true))from gf _ _ k5);have k7:=iq (n:=2) (f:=λ_=>true) (show ge tb=Vo (.lst (aL 2 λ_=>true))from k6);refine⟨1,1,_,_,gi,k7,by decide,?_⟩;rw[SeqAt.eqv_refl _ (aW.lay 1 gi).1];refine rd_exb (aw ?_);walk_at"";exact⟨a0.trans (js.trans (k0.trans gf)),_,rfl⟩
    ·rintro σ im ⟨dd,k15,rfl⟩;exact⟨dd,_,_,rfl⟩
   ·rintro σ i2 ⟨ad,k14,k15,rfl⟩;exact⟨ad,_,_,_,rfl⟩
  ·rintro σ i1 ⟨g6,k13,k14,k15,rfl⟩;walk_at"";exact q _
abbrev Dq(K:Fn)(mg:Vn->Option Va)(x:Vn)(st:Vl):Prop:=∃(f:Vb) (fd:Vm),mg x=Vo (.ref f)/\Fun K x x st f fd
def dq{K:Fn}{h:Vh}{mg:Vn->Option Va}(X:K.In h)(G:h.Ns Vj mg){x:Vn}{st:Vl}{f:Vb}{od an:Option Vb}{sl:Array (Option Va)}{oc kV b pm cd ct:Va}(a:PySem.W.nsIn K Vj x=Vo (Vo (.ref f)))(l:K.lookup f=Vo ⟨oc,od,.func (PySem.W.fnOf x x (gq st) (eR st) (aH st) .none kV b pm an cd ct),sl⟩)(c:PySem.W.codeIn K cd x=true)(k:PySem.W.keepIn K (.ref f)=true):Dq K mg x st:=⟨f,_,PySem.W.mg_of X G a,vY (st:=st) l c k⟩
abbrev bd(x:Vn)(st:Vl)(us:List Va)(r:List (Vn×Va)):Prop:=∀(kV doc pm:Va) (an:Option Vb) (cdv ct:Va),bindArgs (PySem.W.fnOf x x (gq st) (eR st) (aH st) .none kV doc pm an cdv ct) ⟨us,[]⟩=pure r
def cD{K:Fn}{mg:Vn->Option Va}{x:Vn}{st:Vl}(b:Vn)(d:Dq K mg x st)(h:∀c,bd x st [c] [(b,c)]):Dfn K mg x st [b]:=let ⟨f,fd,a,F⟩:=d;⟨f,fd,a,F,F.binds (ps:=[b]) λ_ _ _ _ _ _ us e=>match us,e with|[_],_=>h _ _ _ _ _ _ _⟩
def br{K:Fn}{mg:Vn->Option Va}{x:Vn}{st:Vl}(b c:Vn)(d:Dq K mg x st)(h:∀e g,bd x st [e,g] [(b,e),(c,g)]):Dfn K mg x st [b,c]:=let ⟨f,fd,a,F⟩:=d;⟨f,fd,a,F,F.binds (ps:=[b,c]) λ_ _ _ _ _ _ us i=>match us,i with|[_,_],_=>h _ _ _ _ _ _ _ _⟩
def ip{K:Fn}{mg:Vn->Option Va}{x:Vn}{st:Vl}(b c p2:Vn)(d:Dq K mg x st)(h:∀e g i,bd x st [e,g,i] [(b,e),(c,g),(p2,i)]):Dfn K mg x st [b,c,p2]:=let ⟨f,fd,a,F⟩:=d;⟨f,fd,a,F,F.binds (ps:=[b,c,p2]) λ_ _ _ _ _ _ us j=>match us,j with|[_,_,_],_=>h _ _ _ _ _ _ _ _ _⟩
def lH{K:Fn}{mg:Vn->Option Va}{x:Vn}{st:Vl}(b c p2 e:Vn)(d:Dq K mg x st)(h:∀g i j k,bd x st [g,i,j,k] [(b,g),(c,i),(p2,j),(e,k)]):Dfn K mg x st [b,c,p2,e]:=let ⟨f,fd,a,F⟩:=d;⟨f,fd,a,F,F.binds (ps:=[b,c,p2,e]) λ_ _ _ _ _ _ us l=>match us,l with|[_,_,_,_],_=>h _ _ _ _ _ _ _ _ _ _⟩
def all_mk{l:PySem.W.OpenLaw}{w:Ve}{K:Fn}{h:Vh}{mg:Vn->Option Va}{fa:Vb}(eK:K=_root_.My.K)(X:K.In h)(G:h.Ns Vj mg)(a3:mg "law" = Vo (.ref fa))
  (d0:Dq K mg "_law_holds" nQ)
  (d1:Dq K mg "refuse_great_stair" qe)
  (d2:Dq K mg "is_whole" rE)
  (d3:Dq K mg "is_rising_row" rH)
  (d4:Dq K mg "are_stair_places" lS)
  (d5:Dq K mg "is_stair" qL)
  (d6:Dq K mg "refuse_no_stair" nY)
  (d7:Dq K mg "refuse_bad_stair" mW)
  (d8:Dq K mg "holds" qS)
  (d9:Dq K mg "is_room" qk)
  (a4:Dq K mg "is_near_place" m5)
  (a5:Dq K mg "marks_below" qZ)
  (a6:Dq K mg "greatest_divisor" m8)
  (a7:Dq K mg "common_step" q9)
  (a8:Dq K mg "raised_by" mX)
  (a9:Dq K mg "is_left_by" pU)
  (ab:Dq K mg "are_near_steps" mZ)
  (ac:Dq K mg "is_near_stair" oP)
  (ad:Dq K mg "are_stairs_for" qA)
  (ak:Dq K mg "is_sign" oY)
  (am:Dq K mg "is_deed" nL)
  (an:Dq K mg "is_way" rG)
  (ap:Dq K mg "are_ways" rN)
  (ar:Dq K mg "is_house" pB)
  (as:Dq K mg "sees_closed" rD)
  (au:Dq K mg "sees_never" mV)
  (b0:Dq K mg "_law_within" nJ)
  (b1:Dq K mg "_law_stairs_of" me)
  (b2:Dq K mg "_law_marks" qv)
  (b4:Dq K mg "_law_multiple" oQ)
  (b5:Dq K mg "_law_either" pQ)
  (b6:Dq K mg "least_step" rK)
  (b7:Dq K mg "stair_of_marks" ph)
  (b8:Dq K mg "stair_of_room" rm)
  (ba:Dq K mg "next_level" mQ)
  (bb:Dq K mg "reached" qI)
  (bc:Dq K mg "told_pairs" rf)
  (be:Dq K mg "add_arches" oV)
  (bg:Dq K mg "join_walks" nE)
  (bi:Dq K mg "ways_of_deed" pI)
  (bl:Dq K mg "beginning_table" oK)
  (bm:Dq K mg "kept_table" mr)
  (bn:Dq K mg "refuse_no_house" pz)
  (bt:Dq K mg "kept" rC)
  (bu:Dq K mg "ways_by_room" pC)
  (bv:Dq K mg "is_open" om)
  (bx:Dq K mg "led_to" pK)
  (c0:Dq K mg "led_to_from" lV)
  (c1:Dq K mg "low_beside" pM)
  (c2:Dq K mg "low_levels" mM)
  (c3:Dq K mg "risen" nO)
  (c4:Dq K mg "all_levels" pO)
  (c5:Dq K mg "refuse_bad_places" qF)
  (c6:Dq K mg "forward" pA)
  (c7:Dq K mg "_law_mixed" rF)
  (c8:Dq K mg "_law_draws" pG)
  (c9:Dq K mg "_law_cell" oq)
  (ca:Dq K mg "_law_unlike" qg)
  (cd:Dq K mg "_law_drawn_house" oR)
  (ce:Dq K mg "_law_gate_house" pV)
  (cf:Dq K mg "_law_ring_house" qV)
  (ch:Dq K mg "_law_spare" mU)
  (ci:Dq K mg "_law_house" mC)
  (cl:Dq K mg "_law_there" rB)
  (co:Dq K mg "_law_bits" rM)
  (cp:Dq K mg "_law_leaves" qX)
  (cr:Dq K mg "_law_far_seen" qo)
  {m:Vb} {r d:Option Vb} {u:Array (Option Va)} {x g i j b k:Va} (a67:PySem.W.nsIn K Vj "law" = Vo (Vo (.ref m))) (l67:K.lookup m=Vo ⟨x,r,.func (PySem.W.fnOf "law" "law" (gq fX) (eR fX) (aH fX) .none g i j d b k),u⟩) (c67:PySem.W.codeIn K b "law" = true) (k67:PySem.W.keepIn K (.ref m)=true)
  (z0:PySem.W.nsIn K Vj "len" = Vo Vp)
  (z1:PySem.W.nsIn K Vj "isinstance" = Vo Vp)
  (z2:PySem.W.nsIn K Vj "tuple" = Vo Vp)
  (z3:PySem.W.nsIn K Vj "list" = Vo Vp)
  (z4:PySem.W.nsIn K Vj "int" = Vo Vp)
  (z5:PySem.W.nsIn K Vj "bool" = Vo Vp)
  (z6:PySem.W.nsIn K Vj "range" = Vo Vp)
  (z7:PySem.W.nsIn K Vj "zip" = Vo Vp)
  (z8:PySem.W.nsIn K Vj "max" = Vo Vp)
  (z9:PySem.W.nsIn K Vj "min" = Vo Vp)
  (z10:PySem.W.nsIn K Vj "abs" = Vo Vp)
  (z11:PySem.W.nsIn K Vj "all" = Vo Vp)
  (z12:PySem.W.nsIn K Vj "set" = Vo Vp)
  (z13:PySem.W.nsIn K Vj "str" = Vo Vp)
  (z14:PySem.W.nsIn K Vj "any" = Vo Vp)
  (z15:PySem.W.nsIn K Vj "sorted" = Vo Vp)
  {t0:Tok} (v0:PySem.W.nsIn K Vj "GREATEST_STEP" = Vo (Vo (.int 840 t0)))
  {t1:Tok} (v1:PySem.W.nsIn K Vj "GREATEST_BASE" = Vo (Vo (.int 3000 t1)))
  {t2:Tok} (v2:PySem.W.nsIn K Vj "GREATEST_NUMBER" = Vo (Vo (.int 1000 t2)))
  {t3:Tok} (v3:PySem.W.nsIn K Vj "GREATEST_WAYS" = Vo (Vo (.int 100 t3)))
  {t4:Tok} (v4:PySem.W.nsIn K Vj "GREATEST_MANY" = Vo (Vo (.int 12 t4)))
  {e0:Vb} {z A B C E F H I:Tok} {cs:Nat} (x0:PySem.W.nsIn K Vj "RAISED" = Vo (Vo (.ref e0))) (y0:K.lookup e0=Vo (iN w [("up",z,.int (1) A),("down",B,.int (-1) C),("stay",E,.int (0) F),("zero",H,.int (0) I)] cs)) (w0:(e0 == sysModules)=false)
  {e1:Vb} {J L M N O P Q R:Tok} {ct:Nat} (x1:PySem.W.nsIn K Vj "TURNED" = Vo (Vo (.ref e1))) (y1:K.lookup e1=Vo (iN w [("up",J,.str "down" L),("down",M,.str "up" N),("stay",O,.str "stay" P),("zero",Q,.str "zero" R)] ct)) (w1:(e1 == sysModules)=false)
  : ∃fd:Vm,(∀(s:Vc) (v:Va),BindsTo s fd ⟨[v],[]⟩ [("_law_script",v)])/\∀base:Vh,K.In base->base.Ns Vj mg->(∀y∈(["kept","low_levels","risen"]:List Vn),∃c T,Tab K mg base y c T)->FnOk l.prog w K mg base dI 11 fa fd ["_law_script"] (jK K):=by
 subst eK;have e:=a3.symm.trans (PySem.W.mg_of X G a67);cases e;have T:Blt mg:=⟨PySem.W.mg_none_of X G z0,PySem.W.mg_none_of X G z1,PySem.W.mg_none_of X G z2,PySem.W.mg_none_of X G z3,PySem.W.mg_none_of X G z4,PySem.W.mg_none_of X G z5,PySem.W.mg_none_of X G z6,PySem.W.mg_none_of X G z7,PySem.W.mg_none_of X G z8,PySem.W.mg_none_of X G z9,PySem.W.mg_none_of X G z10,PySem.W.mg_none_of X G z11,PySem.W.mg_none_of X G z12,PySem.W.mg_none_of X G z13,PySem.W.mg_none_of X G z14,PySem.W.mg_none_of X G z15⟩;have D0:=br "_law_stair" "_law_x" d0 λ_ _ _ _ _ _ _ _=>rfl;have D1:=cD "stair" d1 λ_ _ _ _ _ _ _=>rfl;have D2:=cD "thing" d2 λ_ _ _ _ _ _ _=>rfl;have D3:=ip "thing" "low" "end" d3 λ_ _ _ _ _ _ _ _ _=>rfl;have D4:=lH "base" "step" "once" "again" d4 λ_ _ _ _ _ _ _ _ _ _=>rfl;have D5:=cD "thing" d5 λ_ _ _ _ _ _ _=>rfl;have D6:=cD "thing" d6 λ_ _ _ _ _ _ _=>rfl;have D7:=cD "thing" d7 λ_ _ _ _ _ _ _=>rfl;have D8:=br "stair" "x" d8 λ_ _ _ _ _ _ _ _=>rfl;have D9:=br "thing" "many" d9 λ_ _ _ _ _ _ _ _=>rfl;have cu:=br "thing" "house" a4 λ_ _ _ _ _ _ _ _=>rfl;have cv:=br "stair" "end" a5 λ_ _ _ _ _ _ _ _=>rfl;have da:=br "one" "other" a6 λ_ _ _ _ _ _ _ _=>rfl;have db:=br "one" "other" a7 λ_ _ _ _ _ _ _ _=>rfl;have dc:=cD "way" a8 λ_ _ _ _ _ _ _=>rfl;have dd:=ip "way" "one" "other" a9 λ_ _ _ _ _ _ _ _ _=>rfl;have di:=cD "stairs" ab λ_ _ _ _ _ _ _=>rfl;have dl:=cD "thing" ac λ_ _ _ _ _ _ _=>rfl;have dp:=br "house" "thing" ad λ_ _ _ _ _ _ _ _=>rfl;have ds:=cD "thing" ak λ_ _ _ _ _ _ _=>rfl;have dt:=cD "thing" am λ_ _ _ _ _ _ _=>rfl;have du:=br "thing" "many" an λ_ _ _ _ _ _ _ _=>rfl;have dx:=br "thing" "many" ap λ_ _ _ _ _ _ _ _=>rfl;have e2:=cD "thing" ar λ_ _ _ _ _ _ _=>rfl;have e3:=br "house" "stairs" as λ_ _ _ _ _ _ _ _=>rfl;have e4:=lH "house" "place" "goal" "stairs" au λ_ _ _ _ _ _ _ _ _ _=>rfl;have e5:=br "_law_one" "_law_two" b0 λ_ _ _ _ _ _ _ _=>rfl;have e6:=ip "_law_marks_here" "_law_base" "_law_step" b1 λ_ _ _ _ _ _ _ _ _=>rfl;have e7:=lH "_law_house_here" "_law_base" "_law_step" "_law_starts" b2 λ_ _ _ _ _ _ _ _ _ _=>rfl;have e8:=br "_law_one" "_law_two" b4 λ_ _ _ _ _ _ _ _=>rfl;have e9:=br "_law_one" "_law_two" b5 λ_ _ _ _ _ _ _ _=>rfl;have ea:=cD "turn" b6 λ_ _ _ _ _ _ _=>rfl;have eb:=br "marks" "base" b7 λ_ _ _ _ _ _ _ _=>rfl;have ec:=ip "levels" "base" "room" b8 λ_ _ _ _ _ _ _ _ _=>rfl;have ed:=br "rises" "level" ba λ_ _ _ _ _ _ _ _=>rfl;have ee:=br "place" "beside" bb λ_ _ _ _ _ _ _ _=>rfl;have eg:=br "house" "choice" bc λ_ _ _ _ _ _ _ _=>rfl;have ei:=ip "table" "ups" "downs" be λ_ _ _ _ _ _ _ _ _=>rfl;have ej:=cD "table" bg λ_ _ _ _ _ _ _=>rfl;have ek:=br "house" "deed" bi λ_ _ _ _ _ _ _ _=>rfl;have el:=cD "house" bl λ_ _ _ _ _ _ _=>rfl;have em:=cD "house" bm λ_ _ _ _ _ _ _=>rfl;have en:=cD "thing" bn λ_ _ _ _ _ _ _=>rfl;have ep:=cD "house" bt λ_ _ _ _ _ _ _=>rfl;have eq:=cD "house" bu λ_ _ _ _ _ _ _=>rfl;have er:=br "way" "place" bv λ_ _ _ _ _ _ _ _=>rfl;have es:=br "way" "place" bx λ_ _ _ _ _ _ _ _=>rfl;have ev:=br "ways" "place" c0 λ_ _ _ _ _ _ _ _=>rfl;have ew:=lH "ways" "keeps" "top" "here" c1 λ_ _ _ _ _ _ _ _ _ _=>rfl;have ex:=br "house" "place" c2 λ_ _ _ _ _ _ _ _=>rfl;have ey:=cD "house" c3 λ_ _ _ _ _ _ _=>rfl;have ez:=br "house" "place" c4 λ_ _ _ _ _ _ _ _=>rfl;have f0:=br "house" "places" c5 λ_ _ _ _ _ _ _ _=>rfl;have f1:=br "house" "place" c6 λ_ _ _ _ _ _ _ _=>rfl;have f2:=ip "_law_cell_here" "_law_k" "_law_prime" c7 λ_ _ _ _ _ _ _ _ _=>rfl;have f3:=ip "_law_cell_here" "_law_widths" "_law_prime" c8 λ_ _ _ _ _ _ _ _ _=>rfl;have f4:=br "_law_script" "_law_k" c9 λ_ _ _ _ _ _ _ _=>rfl;have f5:=cD "_law_ways" ca λ_ _ _ _ _ _ _=>rfl;have f8:=br "_law_cell_here" "_law_prime" cd λ_ _ _ _ _ _ _ _=>rfl;have fc:=br "_law_cell_here" "_law_prime" ce λ_ _ _ _ _ _ _ _=>rfl;have ff:=br "_law_cell_here" "_law_prime" cf λ_ _ _ _ _ _ _ _=>rfl;have fl:=br "_law_cell_here" "_law_width" ch λ_ _ _ _ _ _ _ _=>rfl;have fp:=br "_law_cell_here" "_law_prime" ci λ_ _ _ _ _ _ _ _=>rfl;have fq:=br "_law_deed" "_law_x" cl λ_ _ _ _ _ _ _ _=>rfl;have fr:=br "_law_stair" "_law_many" co λ_ _ _ _ _ _ _ _=>rfl;have fv:=br "_law_house_here" "_law_stairs" cp λ_ _ _ _ _ _ _ _=>rfl;have fw:=br "_law_cell_here" "_law_prime" cr λ_ _ _ _ _ _ _ _=>rfl;refine⟨PySem.W.fnOf "law" "law" (gq fX) (eR fX) (aH fX) .none g i j d b k,λs v=>.of_eq rfl,λbase KB GB HB=>?_⟩;have C0:=@EL l.prog w mg base D0 T;have C1:=@Bc l.prog w mg base D1 T ⟨_,PySem.W.mg_of X G v0⟩ ⟨_,PySem.W.mg_of X G v1⟩;have S:=@AG l.prog w mg base D2 T;have C3:=@Dj l.prog w mg base D3 T S;have C4:=@zW l.prog w mg base D4 T C3 S;have C5:=@DA l.prog w mg base D5 T C4;have C6:=@Bi l.prog w mg base D6 T C5;have C7:=@EY l.prog w mg base D7 T C1 C6;have C8:=@Dv l.prog w mg base D8 T C7;have C9:=@E9 l.prog w mg base D9 T S;have fx:=@Ep l.prog w mg base cu T ⟨_,PySem.W.mg_of X G v2⟩ S C9;have fy:=@Ar l.prog w mg base cv T;have fz:=@zl l.prog w mg base da T;have U:=@y8 l.prog w mg base db T fz;have Y:=@yF l.prog w mg base dc T ⟨_,PySem.W.mg_of X G x0,EU y0 w0⟩;have g0:=@AX l.prog w mg base dd T fy U Y C8;have g1:=@AM l.prog w mg base di T ⟨_,PySem.W.mg_of X G v0⟩ U;have g2:=@EV l.prog w mg base dl T ⟨_,PySem.W.mg_of X G v0⟩ ⟨_,PySem.W.mg_of X G v1⟩ C5;have g3:=@yJ l.prog w mg base dp T g1 g2;have g4:=@Af l.prog w mg base ds T;have g5:=@Dt l.prog w mg base dt T ⟨_,PySem.W.mg_of X G x1,BZ y1 w1⟩;have g6:=@CA l.prog w mg base du T g4 g5 C9;have g8:=@DM l.prog w mg base dx T ⟨_,PySem.W.mg_of X G v3⟩ g6;have Z:=@Ap l.prog w mg base e2 T ⟨_,PySem.W.mg_of X G v4⟩ g8 S;have n:=@Dd l.prog w mg base e3 T g0 g3 Z;have ga:=@zV l.prog w mg base e4 T C8 fx n;have gb:=@zG l.prog w mg base e5 T C0;have gc:=@Cg l.prog w mg base e6 T;have gd:=@E3 l.prog w mg base e7 T;have o:=@zK l.prog w mg base e8 T;have ge:=@Bz l.prog w mg base e9 T C0 o;have gf:=@Du l.prog w mg base ea T;have gi:=@BK l.prog w mg base eb T gf;have gk:=@A3 l.prog w mg base ec T gi;have gl:=@Bm l.prog w mg base ed T;have go:=@Dl l.prog w mg base ee T;have a0:=@zq l.prog w mg base eg T;have gp:=@yk l.prog w mg base ei T;have gs:=@Dz l.prog w mg base ej T;have p:=@yz l.prog w mg base ek T;have gt:=@zD l.prog w mg base el T p;have a1:=@Ff l.prog w mg base em T gp gs p gt;have q:=@El l.prog w mg base en T Z;obtain⟨hl,hm,gu⟩:=HB "kept" (by simp);have gv:Cal l.prog w _root_.My.K mg base "kept" 7 ["house"] (kK _root_.My.K):=CO ep T gu a0 a1 q;have gx:=@zJ l.prog w mg base eq T;have gz:=@Dg l.prog w mg base er T;have h0:=@Er l.prog w mg base es T Y;have h1:=@ET l.prog w mg base ev T gz h0;have h2:=@Ee l.prog w mg base ew T h1;obtain⟨hn,ho,h3⟩:=HB "low_levels" (by simp);have h4:Cal l.prog w _root_.My.K mg base "low_levels" 8 ["house","place"] (jY _root_.My.K):=CH ex T h3 go gv gx h2;obtain⟨hp,hq,h5⟩:=HB "risen" (by simp);have h6:Cal l.prog w _root_.My.K mg base "risen" 7 ["house"] (j1 _root_.My.K):=Bu ey T h5 a0 p a1 q;have h7:=@yB l.prog w mg base ez T gl h4 h6;have h8:=@DV l.prog w mg base f0 T ⟨_,PySem.W.mg_of X G v2⟩ C9;have h9:=@Dm l.prog w mg base f1 T gk h7 h8 q;have ha:=@A5 l.prog w mg base f2 T;have a:=@Bp l.prog w mg base f3 T ha;have hb:=@Cj l.prog w mg base f4 T;have a2:=@B8 l.prog w mg base f5 T;have hc:=@DP l.prog w mg base f8 T a2 a;have hd:=@AK l.prog w mg base fc T a2 a;have he:=@Ej l.prog w mg base ff T a;have hf:=@CU l.prog w mg base fl T;have hg:=@Ce l.prog w mg base fp T hc hd he hf a;have hh:=@Bx l.prog w mg base fq T;have hi:=@zU l.prog w mg base fr T;have hj:=@BU l.prog w mg base fv T hh hi o;have hk:=@EN l.prog w mg base fw T hj n a;exact Ei (vY (st:=fX) l67 c67 k67) T C0 ga gb gc gd n ge o h9 a hb hg hk
def walk{l:PySem.W.OpenLaw}{q:Vd}{loose:List Vn}{m:(Vn->Option Va)->Vh->Prop}{g:Ve->Vh->Prop}{d:DefRec}{K:Params->Fn}(o:l.most=Vo 63)(i:d.params.defaults=[])
  (p:∀(w:Ve) (h:Vh),g w h->(K w.params).In h) (r:∀w:Ve,PySem.W.noTabs (K w.params)=true) (hrec:∀y∈(["kept","low_levels","risen"]:List Vn),((PyProof.Rows.recsOf q).find? (λe=>e.name == y)).isSome=true) (htab:∀(w:Ve),∀y∈(["kept","low_levels","risen"]:List Vn),(PySem.W.tabIn (K w.params) y).isSome=true) (b:∀w:Ve,gH (K w.params))
  (F:∀(w:Ve) (mg:Vn->Option Va) (j:Vb) (h:Vh),g w h->(K w.params).In h->h.Ns Vj mg->mg d.name=Vo (.ref j) →
   ∃fd:Vm,(∀(s:Vc) (u:Va),BindsTo s fd ⟨[u],[]⟩ [("_law_script",u)])/\∀base:Vh,(K w.params).In base->base.Ns Vj mg->(∀y∈(["kept","low_levels","risen"]:List Vn),∃c T,Tab (K w.params) mg base y c T)->FnOk l.prog w (K w.params) mg base dI 11 j fd ["_law_script"] (jK (K w.params))) :
  PySem.W.WalkO q loose m g l.row.toRowW d [] (λf vs=>PySem.call f vs):=
 L2.A2 (n:=63) (k:=11) (x:="_law_script") (sp:=λw=>jK (K w.params)) ["kept","low_levels","risen"] o (by decide) i ⟨rfl,by decide,by decide⟩ p r hrec htab F λw H a ns v z A=>⟨a,ns,rfl,A,v,z,b w,λ_=>rfl⟩
end My
end
open PySem PySem.W PyProof.Rows
set_option maxRecDepth 100000 in
set_option maxHeartbeats 0 in
theorem PySem.Challenge.cw_stairrooms_k37_closed_of_told_holds : PySem.Challenge.rw_stairrooms_k37_closed_of_told.Holds := by
 refine My.top ?_
 k_fill
 refine L2.zA My.top.heap_39 My.top ?_;refine My.walk (l := PySem.Challenge.rw_stairrooms_k37_closed_of_told) rfl rfl (λw h Y => PySem.W.km_in_of Y.1) (λw => by kernel_rfl) ?R (λw => ?Tb) (λw => My.CI (by kernel_rfl)) ?F
 case R => intro y hy; simp only [List.mem_cons, List.not_mem_nil, or_false] at hy; rcases hy with rfl|rfl|rfl <;> kernel_rfl
 case Tb => intro y hy; simp only [List.mem_cons, List.not_mem_nil, or_false] at hy; rcases hy with rfl|rfl|rfl <;> kernel_rfl
 case F =>
  intro w mg fa h Y KX G hmg;have q := @My.dq _ _ _ KX G
  refine' My.all_mk (by with_unfolding_all exact Y.2) KX G hmg (q ?a0 ?l0 ?c0 ?k0) (q ?a1 ?l1 ?c1 ?k1) (q ?a2 ?l2 ?c2 ?k2) (q ?a3 ?l3 ?c3 ?k3) (q ?a4 ?l4 ?c4 ?k4) (q ?a5 ?l5 ?c5 ?k5) (q ?a6 ?l6 ?c6 ?k6) (q ?a7 ?l7 ?c7 ?k7) (q ?a8 ?l8 ?c8 ?k8) (q ?a9 ?l9 ?c9 ?k9) (q ?a10 ?l10 ?c10 ?k10) (q ?a11 ?l11 ?c11 ?k11) (q ?a12 ?l12 ?c12 ?k12) (q ?a13 ?l13 ?c13 ?k13) (q ?a14 ?l14 ?c14 ?k14) (q ?a15 ?l15 ?c15 ?k15) (q ?a16 ?l16 ?c16 ?k16) (q ?a17 ?l17 ?c17 ?k17) (q ?a18 ?l18 ?c18 ?k18) (q ?a19 ?l19 ?c19 ?k19) (q ?a20 ?l20 ?c20 ?k20) (q ?a21 ?l21 ?c21 ?k21) (q ?a22 ?l22 ?c22 ?k22) (q ?a23 ?l23 ?c23 ?k23) (q ?a24 ?l24 ?c24 ?k24) (q ?a25 ?l25 ?c25 ?k25) (q ?a26 ?l26 ?c26 ?k26) (q ?a27 ?l27 ?c27 ?k27) (q ?a28 ?l28 ?c28 ?k28) (q ?a29 ?l29 ?c29 ?k29) (q ?a30 ?l30 ?c30 ?k30) (q ?a31 ?l31 ?c31 ?k31) (q ?a32 ?l32 ?c32 ?k32) (q ?a33 ?l33 ?c33 ?k33) (q ?a34 ?l34 ?c34 ?k34) (q ?a35 ?l35 ?c35 ?k35) (q ?a36 ?l36 ?c36 ?k36) (q ?a37 ?l37 ?c37 ?k37) (q ?a38 ?l38 ?c38 ?k38) (q ?a39 ?l39 ?c39 ?k39) (q ?a40 ?l40 ?c40 ?k40) (q ?a41 ?l41 ?c41 ?k41) (q ?a42 ?l42 ?c42 ?k42) (q ?a43 ?l43 ?c43 ?k43) (q ?a44 ?l44 ?c44 ?k44) (q ?a45 ?l45 ?c45 ?k45) (q ?a46 ?l46 ?c46 ?k46) (q ?a47 ?l47 ?c47 ?k47) (q ?a48 ?l48 ?c48 ?k48) (q ?a49 ?l49 ?c49 ?k49) (q ?a50 ?l50 ?c50 ?k50) (q ?a51 ?l51 ?c51 ?k51) (q ?a52 ?l52 ?c52 ?k52) (q ?a53 ?l53 ?c53 ?k53) (q ?a54 ?l54 ?c54 ?k54) (q ?a55 ?l55 ?c55 ?k55) (q ?a56 ?l56 ?c56 ?k56) (q ?a57 ?l57 ?c57 ?k57) (q ?a58 ?l58 ?c58 ?k58) (q ?a59 ?l59 ?c59 ?k59) (q ?a60 ?l60 ?c60 ?k60) (q ?a61 ?l61 ?c61 ?k61) (q ?a62 ?l62 ?c62 ?k62) (q ?a63 ?l63 ?c63 ?k63) (q ?a64 ?l64 ?c64 ?k64) (q ?a65 ?l65 ?c65 ?k65) (q ?a66 ?l66 ?c66 ?k66) ?a67 ?l67 ?c67 ?k67 ?z0 ?z1 ?z2 ?z3 ?z4 ?z5 ?z6 ?z7 ?z8 ?z9 ?z10 ?z11 ?z12 ?z13 ?z14 ?z15 ?v0 ?v1 ?v2 ?v3 ?v4 ?x0 ?y0 ?w0 ?x1 ?y1 ?w1
  case a0|l0|c0|k0|a1|l1|c1|k1|a2|l2|c2|k2|a3|l3|c3|k3|a4|l4|c4|k4|a5|l5|c5|k5|a6|l6|c6|k6|a7|l7|c7|k7|a8|l8|c8|k8|a9|l9|c9|k9|a10|l10|c10|k10|a11|l11|c11|k11|a12|l12|c12|k12|a13|l13|c13|k13|a14|l14|c14|k14|a15|l15|c15|k15|a16|l16|c16|k16|a17|l17|c17|k17|a18|l18|c18|k18|a19|l19|c19|k19|a20|l20|c20|k20|a21|l21|c21|k21|a22|l22|c22|k22|a23|l23|c23|k23|a24|l24|c24|k24|a25|l25|c25|k25|a26|l26|c26|k26|a27|l27|c27|k27|a28|l28|c28|k28|a29|l29|c29|k29|a30|l30|c30|k30|a31|l31|c31|k31|a32|l32|c32|k32|a33|l33|c33|k33|a34|l34|c34|k34|a35|l35|c35|k35|a36|l36|c36|k36|a37|l37|c37|k37|a38|l38|c38|k38|a39|l39|c39|k39|a40|l40|c40|k40|a41|l41|c41|k41|a42|l42|c42|k42|a43|l43|c43|k43|a44|l44|c44|k44|a45|l45|c45|k45|a46|l46|c46|k46|a47|l47|c47|k47|a48|l48|c48|k48|a49|l49|c49|k49|a50|l50|c50|k50|a51|l51|c51|k51|a52|l52|c52|k52|a53|l53|c53|k53|a54|l54|c54|k54|a55|l55|c55|k55|a56|l56|c56|k56|a57|l57|c57|k57|a58|l58|c58|k58|a59|l59|c59|k59|a60|l60|c60|k60|a61|l61|c61|k61|a62|l62|c62|k62|a63|l63|c63|k63|a64|l64|c64|k64|a65|l65|c65|k65|a66|l66|c66|k66|a67|l67|c67|k67|z0|z1|z2|z3|z4|z5|z6|z7|z8|z9|z10|z11|z12|z13|z14|z15|v0|v1|v2|v3|v4=>k_is
  (case x0 => k_is); (case y0 => k_is); (case w0 => first|rfl|k_is)
  (case x1 => k_is); (case y1 => k_is); (case w1 => first|rfl|k_is)
