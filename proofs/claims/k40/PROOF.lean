import PyProof.Rows.All
import Wide.All
import OpenK.AllK
import Wide.FinOn
import Lean
import PyProof.EqAt
import PyProof.EqKinds
import PyProof.TupleCall
import KE.KLam
import PySem.Challenge.RW_stairrooms_k40_refusals_of_papers
set_option Elab.async false
namespace PySem.W.Fast
def tw12026062689914515414:=0
def tw10146282464379850926:=0
def tw1537563950978811878:=0
def tw9589269602244382790:=0
def tw10593257215227941989:=0
def tw9478813727029378433:=0
def tw4279068729435004134:=0
def tw10752035604783777346:=0
def tw11258306804293243132:=0
def tw13585516464097686547:=0
def tw317520914050522945:=0
def tw8325147438673079581:=0
def tw16040925991244642869:=0
def tw911810538002268367:=0
def tw17179734013377141832:=0
def tw2773274263299585572:=0
def tw7260190652417234915:=0
def tw9834661911540460081:=0
def tw6492568839464336172:=0
def tw119775208399524090:=0
def tw16308946526869991761:=0
def tw4221310431163856405:=0
def tw2946381562054782127:=0
def tw6181847661251503008:=0
def tw10166892954511498249:=0
def tw7262810511953183178:=0
def tw8147721191793257292:=0
def tw2418962321214882189:=0
def tw4918694162171632466:=0
def tw11646379141798419536:=0
def tw6690677384477064843:=0
def tw13679643304169797691:=0
def tw11304072722765767021:=0
def tw9779106197386186623:=0
def tw1564093576101422265:=0
def tw3501889831259424984:=0
def tw55107133691585252:=0
def tw11296645311156999791:=0
def tw6692137819554114951:=0
def tw3015604971527890583:=0
def tw2648121624305032702:=0
def tw2122511160286549640:=0
def tw17029066052626920852:=0
def tw15829181571673270705:=0
def tw11735653163353574974:=0
def tw11029396596865941829:=0
def tw6056548384089880543:=0
def tw2801974123689400889:=0
def tw621812022307901172:=0
def tw2567624805475646970:=0
def tw2313535712752964479:=0
def tw12390782021942118942:=0
def tw17644514534155135092:=0
def tw11655376856063916228:=0
def tw8340926499216404060:=0
def tw447717403241242290:=0
def tw3773624442522805073:=0
def tw12664327836493813462:=0
def tw6130821448147606368:=0
def tw17438179399263098937:=0
def tw10846541316933110243:=0
def tw1057306937073154610:=0
def tw6787905781562076304:=0
def tw6406724726538629663:=0
def tw4256779784062091372:=0
def tw2904058922640873309:=0
def tw17584191335013195612:=0
def tw11892039915525360660:=0
def tw6034192224097964318:=0
def tw2308842233520690658:=0
def tw179189376934874584:=0
def tw1751447207448873119:=0
def tw17415715754555401154:=0
def tw16821967185522334815:=0
def tw14292392306617517729:=0
def tw10548826715568245312:=0
def tw9749810874003056045:=0
def tw847593159352496057:=0
def tw4672492687276399408:=0
def tw456031100195234908:=0
def tw3096949930750721708:=0
def tw15945904282836308387:=0
def tw14931363111589739018:=0
def tw14324394720252608761:=0
def tw13573848267779960677:=0
def tw3093781508513788219:=0
def tw3008007984704827758:=0
def tw15699315692412800413:=0
def tw119674054762100072:=0
def tw11040902395418374828:=0
def tw9591621326534694922:=0
def tw8338600121835276020:=0
def tw7176572640101177836:=0
def tw4746302684295054048:=0
def tw2800321189394573348:=0
def tw17423125552162021742:=0
def tw17405045028177135956:=0
def tw17104333970416622323:=0
def tw16176690743668362219:=0
def tw13580389790971816817:=0
def tw10276969695076772373:=0
def tw10053539800044614232:=0
def tw9578026534446552097:=0
def tw8708482821940700748:=0
def tw8576866337993464856:=0
def tw4090099033456441411:=0
def tw3268437569422444630:=0
def tw2762985067018713519:=0
def tw17258839070269863901:=0
def tw15641155157065175805:=0
def tw15170883547044141151:=0
def tw1304240117979556626:=0
def tw10602856759635532317:=0
def tw9930359092145622687:=0
def tw8047032804361144261:=0
def tw7387496920539170626:=0
def tw5350998768358884751:=0
def tw5051596291613938045:=0
def tw4977895861229493542:=0
def tw4801039527111802282:=0
def tw4797132809794432123:=0
def tw3830783680494933951:=0
def tw15786528573266890262:=0
def tw10500720501580190231:=0
def tw931510637493425866:=0
def tw8568187914498332850:=0
def tw8186763794367992775:=0
def tw7627118995241731642:=0
def tw7341270039093922885:=0
def tw7134983793405793177:=0
def tw7115244209674446852:=0
def tw6350474685870504171:=0
def tw5140171473248983199:=0
def tw4355615645706949100:=0
def tw4337561567144917162:=0
def tw3941131271490555836:=0
def tw3866599564448483793:=0
def tw3797301031838899788:=0
def tw3427924564325372817:=0
def tw3121732170634265723:=0
def tw3104486758596841148:=0
def tw18032779900021213040:=0
def tw17949153669898374660:=0
def tw17915051066750267265:=0
def tw17729564300890611173:=0
def tw17628590533929976792:=0
def tw17571631200592639834:=0
def tw1754243070517289278:=0
def tw17375602352810135561:=0
def tw17065142239566038489:=0
def tw16964212798373946863:=0
def tw16924412733494049589:=0
def tw16477329177891185698:=0
def tw16283258727396688951:=0
def tw16245695487900975421:=0
def tw16221219022901355867:=0
def tw15729792075999087868:=0
def tw15529604674929473973:=0
def tw15186367229040268510:=0
def tw1488474676173749703:=0
def tw14793259975867257014:=0
def tw14775263502782431712:=0
def tw14670137783204244808:=0
def tw14221475358252599964:=0
def tw14025392896863203041:=0
def tw13501672401922333513:=0
def tw13135487405686255751:=0
def tw12878273097781070547:=0
def tw12357872333080808881:=0
def tw11787554532782738252:=0
def tw11339562753883754242:=0
def tw11137535781475439334:=0
def tw10769681086646498438:=0
def tw10760031201136348398:=0
def tw10698238366409207256:=0
def tw1069010634818593453:=0
def tw976709547398631384:=0
def tw974001917477778970:=0
def tw9248597171148506525:=0
def tw8035931760809384120:=0
def tw762384175361060421:=0
def tw7175792842613744815:=0
def tw684117499851941213:=0
def tw5425565988235752197:=0
def tw5190860397250508396:=0
def tw3855638733940352994:=0
def tw3566807236516140644:=0
def tw18127141830633905074:=0
def tw17939888687896264705:=0
def tw17843839365795533554:=0
def tw1682181479755940848:=0
def tw1460478622569836974:=0
def tw13732165248360646341:=0
def tw9936902662144560194:=0
def tw9539095207651657643:=0
def tw9254883793231693245:=0
def tw6178244272827954729:=0
def tw4855646995411632120:=0
def tw4202673366249849491:=0
def tw3465091326942903629:=0
def tw2342838551658309370:=0
def tw18066811921283522515:=0
def tw17990003072128590093:=0
def tw17002439396945247550:=0
def tw16306601271817509428:=0
def tw16029895960380650870:=0
def tw15142431143280010732:=0
def tw1382559312744143635:=0
def tw12661369023874259431:=0
def tw12441502783428931068:=0
def tw11560677996495128784:=0
def tw10118012357411222232:=0
def tw1004593339420490729:=0
def tw8229460734390689525:=0
def tw7956301941440062040:=0
def tw512557566824241540:=0
def tw4933930183700603765:=0
def tw404968458719316295:=0
def tw18324572440802094995:=0
def tw15414259988211055499:=0
def tw15269425654929456476:=0
def tw13956058649364723422:=0
def tw12261729195969336472:=0
def tw11950575282948044451:=0
def tw9590536906216307355:=0
def tw9337504207740955038:=0
def tw9085195453500331236:=0
def tw9002392303285804385:=0
def tw8783073200307453229:=0
def tw8143298780573084396:=0
def tw8039774922555296384:=0
def tw7897135418779063302:=0
def tw7863108119856694670:=0
def tw7750769465160294860:=0
def tw7693350481814642131:=0
def tw7393957277229836691:=0
def tw720755081136891062:=0
def tw705330452703051597:=0
def tw6743822951217308217:=0
def tw6658185936689682968:=0
def tw6093179522131556990:=0
def tw6008010531490865865:=0
def tw5956051100702781606:=0
def tw590611807225418770:=0
def tw5824247625822886979:=0
def tw5766181095882713430:=0
def tw5213485622955226937:=0
def tw4817981600543833687:=0
def tw477595423994022719:=0
def tw4769826392853288355:=0
def tw439055297870408345:=0
def tw4169430970946328830:=0
def tw3924725502804413793:=0
def tw3725507860900426652:=0
def tw3711776433476670718:=0
def tw3436359320994789115:=0
def tw3415376743198261602:=0
def tw3182821167057557991:=0
def tw3161077796674850459:=0
def tw2904033067149887106:=0
def tw2651210568008831048:=0
def tw2355404199824840798:=0
def tw2187499721780371684:=0
def tw2064118905727727203:=0
def tw1980078614172103820:=0
def tw1923656493189036919:=0
def tw18438895364323578133:=0
def tw18038851775406917655:=0
def tw17994301212061070119:=0
def tw17925923492730016652:=0
def tw17704816985548508734:=0
def tw17405974757215459542:=0
def tw17259577006381911698:=0
def tw16868688195037900307:=0
def tw16843462989757039891:=0
def tw16801269517542960672:=0
def tw16761591470956491853:=0
def tw16743919102785911483:=0
def tw16702496124019576060:=0
def tw16661212229125270991:=0
def tw16622475990643145580:=0
def tw16575673167688372683:=0
def tw16288524480538194225:=0
def tw15968237232650601322:=0
def tw15860708213811878519:=0
def tw15853727897521883275:=0
def tw15831574140416324556:=0
def tw15732654264858244716:=0
def tw15565656631415577005:=0
def tw15438610589593914328:=0
def tw15291515778787918541:=0
def tw1488503510874697304:=0
def tw14650229311272632197:=0
def tw14560837491469231475:=0
def tw14397947794671477899:=0
def tw14318957944991924802:=0
def tw13817142068744991791:=0
def tw13769731409856085057:=0
def tw13752025206567590305:=0
def tw13298203722689827917:=0
def tw13185835248587936794:=0
def tw12996499756298277263:=0
def tw12340981958623863397:=0
def tw12323772569751236006:=0
def tw12249993202121903794:=0
def tw12170451868844119946:=0
def tw12124443520851957044:=0
def tw11846370373574997029:=0
def tw11801650391622900179:=0
def tw11646202046503260017:=0
def tw11644868132232139897:=0
def tw11383850339681254435:=0
def tw11198388801270196117:=0
def tw11166862733661299840:=0
def tw10785498421680218836:=0
def tw1073818698688927204:=0
def tw10121643642846045468:=0
def tw10017577030591726147:=0
def tw9602979466950630956:=0
def tw912290570786946579:=0
def tw8777541643666118068:=0
def tw8722415481117505015:=0
def tw8572175281459272771:=0
def tw8444893750286939596:=0
def tw8377945894465552080:=0
def tw8125407811402774585:=0
def tw7875707854763748492:=0
def tw7552210041123771490:=0
def tw684210181549580303:=0
def tw6744984778823417519:=0
def tw6340304130596135008:=0
def tw6169767553621521813:=0
def tw6158425238486604569:=0
def tw5920227957080817638:=0
def tw5861546300858528307:=0
def tw5096499008420852698:=0
def tw4138905410403352593:=0
def tw397431815971221653:=0
def tw3612554134655720397:=0
def tw343839832772155065:=0
def tw3410111710019587186:=0
def tw2780415966309772251:=0
def tw2217001567337907910:=0
def tw2093290091728733057:=0
def tw1921160878016633958:=0
def tw18334927389422029420:=0
def tw18159918767601648018:=0
def tw17795394019121955329:=0
def tw17716863462265859512:=0
def tw17694846207451314135:=0
def tw17581992280946622230:=0
def tw1703860651114587486:=0
def tw16219145617115034907:=0
def tw15659586693977764946:=0
def tw14867130098325134529:=0
def tw14415884991196681418:=0
def tw14109453767193502313:=0
def tw13921919005729749812:=0
def tw13809386149585982481:=0
def tw13746588304753895505:=0
def tw12993445975515111361:=0
def tw1218770742548784908:=0
def tw11282886037220131173:=0
def tw10143209758796899180:=0
def tw10063842601507977493:=0
def tw9878173891806150429:=0
def tw9802983821206752271:=0
def tw9642658117253805749:=0
def tw9456409991113330330:=0
def tw9281662355237421915:=0
def tw9119751986894142981:=0
def tw8938549127931359579:=0
def tw8863156965792605256:=0
def tw8770029601138628478:=0
def tw8755266905418455375:=0
def tw8604979696160575008:=0
def tw8562296191053873827:=0
def tw8521597775319928436:=0
def tw8487562230406468105:=0
def tw8089249423132065445:=0
def tw8037652997034423971:=0
def tw800831887125934919:=0
def tw7980446502605500991:=0
def tw7904445426397662059:=0
def tw7848866751621661257:=0
def tw7574902415414485744:=0
def tw7539763571100840771:=0
def tw7259079589770855615:=0
def tw7258929849126983957:=0
def tw7240639191980452486:=0
def tw6942357351460751399:=0
def tw6429728187070590260:=0
def tw6329672369177362234:=0
def tw5994711959094706394:=0
def tw5821001088122574322:=0
def tw5819105399919881484:=0
def tw5717963241065829162:=0
def tw5708804837514111757:=0
def tw5581349078452510653:=0
def tw5442971307982108685:=0
def tw5430882940802126740:=0
def tw5295854211047901153:=0
def tw5019332986140449700:=0
def tw5010354932100547165:=0
def tw4992925186480290751:=0
def tw4869967250276580588:=0
def tw4566636315000093172:=0
def tw450187942056410602:=0
def tw4264358708234735246:=0
def tw3975676623463710300:=0
def tw3855077825024126993:=0
def tw3823650005643028596:=0
def tw3760063030202703356:=0
def tw3299272117925849540:=0
def tw3258786278723069861:=0
def tw3017139974649574989:=0
def tw2696157109874119690:=0
def tw2520694231678862498:=0
def tw2448602276733661166:=0
def tw2248526150547823735:=0
def tw2045930578084102194:=0
def tw18406689318668271181:=0
def tw1818218476948158209:=0
def tw18027755133952139252:=0
def tw17928405464846012575:=0
def tw17908656721387608039:=0
def tw17843169823834903998:=0
def tw17831088686795452451:=0
def tw17744632191838401134:=0
def tw17645572048654386869:=0
def tw17389396115470475288:=0
def tw17357414001117552268:=0
def tw1735571389945239771:=0
def tw17234483976792478675:=0
def tw17218974888202052536:=0
def tw16980547499210933930:=0
def tw1691102865124860179:=0
def tw16840622159041910090:=0
def tw16826725409987885975:=0
def tw16669810761675009345:=0
def tw16632375998614247822:=0
def tw16618134895088991800:=0
def tw16507177298177948937:=0
def tw16503717402094505217:=0
def tw16469943266984779137:=0
def tw16408023001231065620:=0
def tw1629198167979442983:=0
def tw16291882091215157828:=0
def tw1599608497217551579:=0
def tw15856698116174445793:=0
def tw15834326765199268030:=0
def tw15660991250957307376:=0
def tw156604256827902990:=0
def tw15415030129712708594:=0
def tw15319796435752655959:=0
def tw15266785391687444539:=0
def tw15159215201983465910:=0
def tw15104015179872336855:=0
def tw15003257448840769609:=0
def tw1492062709326496596:=0
def tw14905269560852764671:=0
def tw14849095896601040367:=0
def tw14836224472968703893:=0
def tw14832175709080873599:=0
def tw14774234679712429206:=0
def tw1465564398378206461:=0
def tw14635225500592789833:=0
def tw14550693921475344484:=0
def tw14322595565739780087:=0
def tw14321144422957734134:=0
def tw13841191037290658594:=0
def tw13820470126673855253:=0
def tw13814131451427507189:=0
def tw13788262537284159298:=0
def tw13647187277582396961:=0
def tw13611136168108132581:=0
def tw13587954947775276195:=0
def tw13587432420489492189:=0
def tw13385619842731796546:=0
def tw13140385074510843379:=0
def tw13021086612755893400:=0
def tw12679859039530741841:=0
def tw12678953225602555564:=0
def tw12632963454795662708:=0
def tw12585790354688115527:=0
def tw12296552071639831032:=0
def tw11860059332995364445:=0
def tw11858878876565515630:=0
def tw11701492411309977178:=0
def tw11687504721054253588:=0
def tw11665305186481523908:=0
def tw11612187849094769778:=0
def tw11605670760853518920:=0
def tw11506949944486722818:=0
def tw11365700717142005424:=0
def tw11362101791794971524:=0
def tw11083616581157620123:=0
def tw11030641428109492703:=0
def tw10424792985553544811:=0
def tw10275949009854564666:=0
def tw10263077061500514125:=0
def tw10154314827766144001:=0
def tw10095913671755900038:=0
def tw10044013261082468525:=0
end PySem.W.Fast
section
open PySem PySem.W PyProof.Rows
set_option maxRecDepth 100000 in
set_option maxHeartbeats 0 in
open_top My.top for PySem.Challenge.rw_stairrooms_k40_refusals_of_papers
end
set_option linter.all false
set_option maxRecDepth 100000
set_option maxHeartbeats 4000000
open PySem renaming wpAny_bind→F4,wpAny_pure→F5,wpAny_setState_of→G0,wpAny_callSpecial?_slot→Ha
open PySem.W renaming Frag→F6
open PySem.Heap renaming get?_push_of_some→F7,get?_push_size→F8,lt_size→F9
open List renaming length_map→Ga,getElem?_eq_getElem→Gb,getElem?_map→Gd,mem_cons_of_mem→Ge,size_toArray→Gg,mem_cons_self→Gh,getElem?_eq_some_iff→Gj,mem_of_getElem?→Gk,mem_singleton→Gm,mem_cons→Gq,map_append→Gs,length_append→Gu,mem_append→Gz,getElem?_append_right→GA,getElem?_append_left→GC,getElem_mem→GD,length_cons→GF,take_length→GG,not_mem_nil→GJ,all_eq_true→GK,any_eq_true→GL,mem_append_right→GR,mem_append_left→GS,replicate→GU,getElem?_of_mem→GX,lookup_cons→GY,length_take→GZ,range→Hb
open Array renaming length_toList→Gf
open PySem.F renaming plainAttrs_list→Gi,slot_list_append→Gx,type_list_append→Gy
open Option renaming map_eq_some_iff→Gn
open Int renaming toNat_natCast→Gp
open Bool renaming false_ne_true→Gr,eq_iff_iff→GN,and_eq_true→GO,false_eq_true→GV
open Nat renaming ne_of_lt→Gv,le_refl→Gw,lt_of_lt_of_le→GH,le_trans→GI,lt_or_ge→GW
open PySem.Str renaming ofString→GP
open Option.some renaming inj→GQ
abbrev Hc:=@decide_eq_false
abbrev Hd:=@decide_eq_true
abbrev He:=@if_neg
abbrev Hf:=@if_pos
noncomputable section
namespace L2
open PySem PySem.Spec PyProof.Rows
abbrev Key:=Sum Int Str
def gC:Key->Value->Bool
 | .inl k,v=>Value.isInt k v
 | .inr x,v=>Value.isStrOf x v
def ze(w:World):Key->Int
 | .inl k=>hashInt k
 | .inr x=>hashStr w x
def eY:∀{k:Key} {v:Value},gC k v=true->(∃i t,k=Sum.inl i/\v=Value.int i t)\/(∃x t,k=Sum.inr x/\v=Value.str x t)
 | .inl i,v,h=>by obtain⟨t,e⟩:=Value.isInt_shape (k:=i) (v:=v) h;exact .inl ⟨i,t,rfl,e⟩
 | .inr x,v,h=>by obtain⟨t,e⟩:=Value.isStrOf_shape (x:=x) (v:=v) h;exact .inr ⟨x,t,rfl,e⟩
def FH(i:Int)(t:Tok):gC (.inl i) (.int i t)=true:=by simp[gC,Value.isInt]
def Aw(x:Str)(t:Tok):gC (.inr x) (.str x t)=true:=by simp[gC,Value.isStrOf]
def FI(a b:Int):decide ((Sum.inl a:Key)=Sum.inl b)=(a == b):=by
 by_cases e:a=b
 ·subst e;simp
 ·have h:¬(Sum.inl a:Key)=Sum.inl b:=λq=>e (Sum.inl.inj q);rw[Hc h];exact(beq_eq_false_iff_ne.mpr e).symm
def Am(a b:Str):decide ((Sum.inr a:Key)=Sum.inr b)=decide (a=b):=by
 by_cases e:a=b
 ·subst e;simp
 ·have h:¬(Sum.inr a:Key)=Sum.inr b:=λq=>e (Sum.inr.inj q);rw[Hc h,Hc e]
def Bn(a:Int)(b:Str):decide ((Sum.inl a:Key)=Sum.inr b)=false:=Hc (λq=>nomatch q)
def EE(a:Str)(b:Int):decide ((Sum.inr a:Key)=Sum.inl b)=false:=Hc (λq=>nomatch q)
def aN(prog:Program)(w:World):PySem.KeyKind prog w Key where
 is:=gC
 hash:=ze w
 inj:=λv a b ha hb=>by
  rcases eY ha with⟨i,t,rfl,rfl⟩|⟨x,t,rfl,rfl⟩
  ·rcases eY hb with⟨j,u,rfl,e⟩|⟨y,u,rfl,e⟩
   ·injection e with e1 _;rw[e1]
   ·exact nomatch e
  ·rcases eY hb with⟨j,u,rfl,e⟩|⟨y,u,rfl,e⟩
   ·exact nomatch e
   ·injection e with e1 _;rw[e1]
 byValue:=λk v h=>by rcases eY h with⟨i,t,rfl,rfl⟩|⟨x,t,rfl,rfl⟩<;>rfl
 pyHash:=λhv h=>by
  rcases eY hv with⟨i,t,rfl,rfl⟩|⟨x,t,rfl,rfl⟩
  ·exact wpAny_pyHash_int h
  ·exact wpAny_pyHash_str h
 eqBool:=λhu hv h=>by
  rcases eY hu with⟨i,t,rfl,rfl⟩|⟨x,t,rfl,rfl⟩
  ·rcases eY hv with⟨j,u,rfl,rfl⟩|⟨y,u,rfl,rfl⟩
   ·rw[FI]at h;exact wpAny_eqBool_int h
   ·rw[Bn]at h;exact SeqAt.EqAt.int_str i t y u _ _ _ _ h
  ·rcases eY hv with⟨j,u,rfl,rfl⟩|⟨y,u,rfl,rfl⟩
   ·rw[EE]at h;exact SeqAt.EqAt.str_int x t j u _ _ _ _ h
   ·rw[Am]at h;exact wpAny_eqBool_str h
 «strs»:=λk x t v h=>by
  rcases eY h with⟨i,u,rfl,e⟩|⟨y,u,rfl,e⟩
  ·exact nomatch e
  ·injection e with e1 _
   subst e1;cases v<;>rfl
def FL(prog:Program)(w:World)(i:Int)(t:Tok):(aN prog w).is (.inl i) (.int i t)=true:=FH i t
def pX(prog:Program)(w:World)(x:Str)(t:Tok):(aN prog w).is (.inr x) (.str x t)=true:=Aw x t
inductive V where
 | non|bl (b:Bool)|int (i:Int)|str (x:Str)|byt (b:Array UInt8)|flt (b:UInt64)|ref (a:Addr)|ty (n:String)
 deriving DecidableEq
def RelV:V->Value->Prop
 | .non,u=>u=Value.none
 | .bl b,u=>u=Value.bool b
 | .int i,u=>∃t,u=Value.int i t
 | .str x,u=>∃t,u=Value.str x t
 | .byt b,u=>∃t,u=Value.bytes b t
 | .flt b,u=>∃t,u=Value.float b t
 | .ref a,u=>u=Value.ref a
 | .ty n,u=>u=Value.type n
abbrev Vals:List V->List Value->Prop:=Paired RelV
def Vals.length{xs:List V}{us:List Value}(r:Vals xs us):xs.length=us.length:=Paired.length r
def Vals.get:∀{xs:List V} {us:List Value} {i:Nat} {x:V},Vals xs us->xs[i]?=some x->∃u,us[i]?=some u/\RelV x u
 | _,_,_,_,.nil,e=>by simp at e
 | _,_,0,_,.cons r _,e=>by simp at e;subst e;exact⟨_,rfl,r⟩
 | _,_,i+1,x,.cons _ t,e=>by obtain⟨u,h1,h2⟩:=Vals.get (i:=i) (x:=x) t (by simpa using e);exact⟨u,by simpa using h1,h2⟩
def Vals.set{x:V}{u:Value}(r:RelV x u):∀{xs:List V} {us:List Value} (i:Nat),Vals xs us->Vals (xs.set i x) (us.set i u)
 | _,_,_,.nil=>.nil
 | _,_,0,.cons _ t=>.cons r t
 | _,_,i+1,.cons q t=>.cons q (Vals.set r i t)
def Vals.append:∀{xs ys:List V} {us ws:List Value},Vals xs us->Vals ys ws->Vals (xs++ys) (us++ws)
 | _,_,_,_,.nil,s=>s
 | _,_,_,_,.cons r t,s=>.cons r (Vals.append t s)
def Vals.take:∀{xs:List V} {us:List Value} (n:Nat),Vals xs us->Vals (xs.take n) (us.take n)
 | _,_,0,_=>.nil
 | _,_,_+1,.nil=>.nil
 | _,_,n+1,.cons r t=>.cons r (Vals.take n t)
def Vals.drop:∀{xs:List V} {us:List Value} (n:Nat),Vals xs us->Vals (xs.drop n) (us.drop n)
 | _,_,0,r=>r
 | _,_,_+1,.nil=>.nil
 | _,_,n+1,.cons _ t=>Vals.drop n t
def dN:Option V->Option Value->Prop
 | some v,some u=>RelV v u
 | none,none=>True
 | _,_=>False
def KV{κ:Type}:List (κ×V)->List (κ×Value)->Prop:=Paired λ(p:κ×V) (q:κ×Value)=>p.1=q.1/\RelV p.2 q.2
def kV:Key->V
 | .inl i=>.int i
 | .inr x=>.str x
inductive HO where
 | lst (xs:List V)
 | tup (xs:List V)
 | dK (kvs:List (Key×V))|dT (kvs:List (List Key×V))
 | set (S:Int->Bool) (n:Nat)
 | ins (C dx:Addr) (fs:List (Str×V))
 | own (x:Addr)
 | xd (fs:List (Str×V))
 | met (f x:Addr)
 | rng (lo hi:Int)
 | frz (o:Obj) (u:HO)
 | tbl (ps:Array Value)
 | ext (φ:Heap->Prop)
abbrev Hp:=Addr->Option HO
def upd(H:Hp)(a:Addr)(o:HO):Hp:=λb=>if b=a then some o else H b
def aO{H:Hp}{a:Addr}{o:HO}:upd H a o a=some o:=by unfold upd;rw[Hf rfl]
def az{H:Hp}{a b:Addr}{o:HO}(h:b≠a):upd H a o b=H b:=by unfold upd;rw[He h]
def cK{H:Hp}{a b:Addr}{o u:HO}(h:H a=some o)(h':H b=some u)(d:o≠u):a≠b:=by intro e;subst e;rw[h]at h';exact d (GQ h')
def bW{H:Hp}{a b:Addr}{o:HO}(h:H a=some o)(h':H b=none):a≠b:=by intro e;subst e;rw[h]at h';cases h'
section
variable (P:Program) (w:World)
def bp(H:Hp)(h:Heap)(a:Addr):HO->Prop
 | .lst xs=>xs.length<=sizeLine/\∃(its:List Value) (n:Nat),Vals xs its/\h.get? a=some { cls:=.type "list",data:=.seq its.toArray n }
 | .tup xs=>xs.length<=sizeLine/\∃its:List Value,Vals xs its/\IsTup h a its.toArray
 | .dK kvs=>kvs.length<=sizeLine/\(a == sysModules)=false/\∃vs,KV kvs vs/\h.DictOf (aN P w) a vs
 | .dT kvs=>kvs.length<=sizeLine/\(a == sysModules)=false/\∃xs:List (List Key×Addr×Value),
   Paired (λ(p:List Key×V) (q:List Key×Addr×Value)=>p.1=q.1/\H q.2.1=some (.tup (p.1.map kV))/\RelV p.2 q.2.2) kvs xs ∧
   ∃o es ep,h.get? a=some o/\o.ExactDict/\o.data=.dict es ep/\es.toList=xs.map (entryOfKey (tupleKind (aN P w)))/\(xs.map (·.1)).Nodup
 | .set S n=>h.SetOf (intKind P w) a S n
 | .ins C dx fs=>H dx=some (.own a)/\fs.length<=1000/\dx≠a/\h.get? a=some (PySem.W.instObj C dx) ∧
   ∃mA,h.Ns1 dx mA/\(∀f,dN (fs.lookup f) (mA f))/\PySem.Within mA (fs.map (·.1))
 | .own _=>∃o,h.get? a=some o
 | .xd fs=>∃mA,h.Ns1 a mA/\∀f,dN (fs.lookup f) (mA f)
 | .rng lo hi=>∃t u v,h.get? a=some { cls:=.type "range",data:=.fields #[.int lo t,.int hi u,.int 1 v] }
 | .frz o u=>h.get? a=some o/\bp H h a u
 | .tbl ps=>h.get? a=some { cls:=.none,data:=.fields ps }
 | .met f x=>h.get? a=some (PySem.W.methodObj (.ref f) (.ref x))
 | .ext φ=>φ h/\(∃o,h.get? a=some o)/\∀h1 h2:Heap,φ h1->(∀o,h1.get? a=some o->h2.get? a=some o)->φ h2
def bh(H:Hp)(h:Heap):Prop:=∀a o,H a=some o->bp P w H h a o
end
section
variable {P:Program} {w:World} {H H':Hp} {h h':Heap} {a:Addr} {o:HO}
def bp.lt(x:bp P w H h a o):a<h.objs.size:=by
 cases o with
 | lst xs=>obtain⟨_,_,_,_,e⟩:=x;exact F9 e
 | tup xs=>obtain⟨_,_,_,p⟩:=x;exact p.lt
 | dK kvs=>obtain⟨_,_,_,_,o,_,_,e,_⟩:=x;exact F9 e
 | dT kvs=>obtain⟨_,_,_,_,o,_,_,e,_⟩:=x;exact F9 e
 | set S n=>obtain⟨o,_,_,_,e,_⟩:=x;exact F9 e
 | ins C dx fs=>obtain⟨_,_,_,e,_⟩:=x;exact F9 e
 | own y=>obtain⟨_,e⟩:=x;exact F9 e
 | xd fs=>obtain⟨_,⟨_,_,_,e,_⟩,_⟩:=x;exact F9 e
 | rng lo hi=>obtain⟨_,_,_,e⟩:=x;exact F9 e
 | frz ob u=>obtain⟨e,_⟩:=x;exact F9 e
 | tbl ps=>exact F9 (show h.get? a=some _ from x)
 | met f y=>exact F9 (show h.get? a=some _ from x)
 | ext φ=>obtain⟨_,⟨_,e⟩,_⟩:=x;exact F9 e
def Paired.mapP{α β:Type}{F G:α->β->Prop}:∀{l₁:List α} {l₂:List β},Paired F l₁ l₂->(∀a b,F a b->G a b)->Paired G l₁ l₂
 | _,_,.nil,_=>.nil
 | _,_,.cons r t,f=>.cons (f _ _ r) (Paired.mapP t f)
def bp.stay(x:bp P w H h a o)(k:∀b u,(b=a\/H b=some (.own a))->h.get? b=some u->h'.get? b=some u)
  (ho:∀b,H b=some (.own a)->H' b=some (.own a)) (ht:∀b xs,H b=some (.tup xs)->H' b=some (.tup xs)):bp P w H' h' a o:=by
 induction o with
 | lst xs=>obtain⟨z,its,n,r,e⟩:=x;exact⟨z,its,n,r,k _ _ (.inl rfl) e⟩
 | tup xs=>obtain⟨z,its,r,ob,e,c⟩:=x;exact⟨z,its,r,ob,k _ _ (.inl rfl) e,c⟩
 | dK kvs=>obtain⟨z,y,vs,r,ob,es,ep,e,c⟩:=x;exact⟨z,y,vs,r,ob,es,ep,k _ _ (.inl rfl) e,c⟩
 | dT kvs=>
  obtain⟨z,y,xs,r,ob,es,ep,e,c⟩:=x;exact⟨z,y,xs,Paired.mapP r λp q z=>⟨z.1,ht _ _ z.2.1,z.2.2⟩,ob,es,ep,k _ _ (.inl rfl) e,c⟩
 | set S n=>obtain⟨ob,es,ep,t,e,c⟩:=x;exact⟨ob,es,ep,t,k _ _ (.inl rfl) e,c⟩
 | ins C dx fs=>
  obtain⟨d,z,ne,e,mA,⟨od,es,ep,e2,c⟩,r⟩:=x;exact⟨ho _ d,z,ne,k _ _ (.inl rfl) e,mA,⟨od,es,ep,k _ _ (.inr d) e2,c⟩,r⟩
 | own y=>obtain⟨ob,e⟩:=x;exact⟨ob,k _ _ (.inl rfl) e⟩
 | xd fs=>obtain⟨mA,⟨od,es,ep,e,c⟩,r⟩:=x;exact⟨mA,⟨od,es,ep,k _ _ (.inl rfl) e,c⟩,r⟩
 | rng lo hi=>obtain⟨t,u,v,e⟩:=x;exact⟨t,u,v,k _ _ (.inl rfl) e⟩
 | frz ob u ih=>obtain⟨e,q⟩:=x;exact⟨k _ _ (.inl rfl) e,ih q⟩
 | tbl ps=>
  have e:h.get? a=some { cls:=.none,data:=.fields ps }:=x;show h'.get? a=some { cls:=.none,data:=.fields ps };exact k a _ (.inl rfl) e
 | met f y=>
  have e:h.get? a=some (PySem.W.methodObj (.ref f) (.ref y)):=x;show h'.get? a=some (PySem.W.methodObj (.ref f) (.ref y));exact k a _ (.inl rfl) e
 | ext φ=>obtain⟨p,⟨o,e⟩,st⟩:=x;exact⟨st _ _ p λo q=>k _ _ (.inl rfl) q,⟨o,k _ _ (.inl rfl) e⟩,st⟩
def bh.lt(x:bh P w H h)(e:H a=some o):a<h.objs.size:=(x a o e).lt
def bh.fresh(x:bh P w H h)(e:h.objs.size<=a):H a=none:=by
 cases q:H a with
 | none=>rfl
 | some u=>exact absurd (GH (x.lt q) e) (Nat.lt_irrefl _)
def bh.kept(x:bh P w H h)(k:∀b u,h.get? b=some u->h'.get? b=some u):bh P w H h':=λa o e=>
 (x a o e).stay (λb u _ q=>k b u q) (λ_ q=>q) λ_ _ q=>q
def bh.laid(x:bh P w H h)(k:∀b u,h.get? b=some u->h'.get? b=some u)(hp:h.objs.size<=a)(new:bp P w (upd H a o) h' a o):bh P w (upd H a o) h':=λb u e=>by
 have hn:=x.fresh hp;by_cases hb:b=a
 ·subst hb;rw[aO]at e;cases e;exact new
 ·rw[az hb]at e;exact(x b u e).stay (λc v _ q=>k c v q) (λc q=>by rw[az (bW q hn)];exact q) λc xs q=>by rw[az (bW q hn)];exact q
end
def Rd(H:Hp)(a:Addr)(u:HO):Prop:=H a=some u\/∃o,H a=some (.frz o u)
def Rd.ok{P:Program}{w:World}{H:Hp}{h:Heap}{a:Addr}{u:HO}(r:Rd H a u)(x:bh P w H h):bp P w H h a u:=by
 rcases r with r|⟨o,r⟩
 ·exact x a u r
 ·obtain⟨_,q⟩:=x a _ r;exact q
def jF:Option HO->Prop
 | some (.lst _)=>True
 | some (.dK _)=>True
 | some (.dT _)=>True
 | some (.set _ _)=>True
 | some (.ins _ _ _)=>True
 | some (.ext _)=>True
 | _=>False
section
variable {P:Program} {w:World} {H:Hp} {h h':Heap} {x e:Addr} {o':HO}
def bh.write(ok:bh P w H h)(mu:jF (H x))(he:e=x\/H e=some (.own x))(k:∀b u,b≠e->h.get? b=some u->h'.get? b=some u)(heo:∃u,h'.get? e=some u)
  (new:bp P w (upd H x o') h' x o'):bh P w (upd H x o') h':=λb u q=>by
 have nown:∀c y,H c=some (.own y)->c≠x:=λc y r z=>by subst z;rw[r]at mu;exact mu
 have ntup:∀c xs,H c=some (.tup xs)->c≠x:=λc xs r z=>by subst z;rw[r]at mu;exact mu
 by_cases hb:b=x
 ·subst hb;rw[aO]at q;cases q;exact new
 ·rw[az hb]at q;by_cases hbe:b=e
  ·have q':H b=some (.own x):=by
    rcases he with z|z
    ·exact absurd (hbe.trans z) hb
    ·rw[hbe];exact z
   rw[q]at q';cases q';obtain⟨v,hv⟩:=heo;exact⟨v,by rw[hbe];exact hv⟩
  ·refine(ok b u q).stay (λc v hc r=>k c v ?_ r) (λc r=>by rw[az (nown c b r)];exact r) λc xs r=>by rw[az (ntup c xs r)];exact r
   rcases hc with rfl|hc
   ·exact hbe
   ·rintro rfl;rcases he with z|z
    ·exact nown c b hc z
    ·rw[hc]at z;cases z;exact hb rfl
end
structure Un(fs ex:List Addr)(H H':Hp)(h h':Heap):Prop where
 keep:∀b o,h.get? b=some o->H b=none->b∉fs->b∉ex->h'.get? b=some o
 slot:∀b o,h.get? b=some o->H b=none->b∈fs->b∉ex->∃sl,h'.get? b=some { o with slots:=sl }
 free:∀b o,h.get? b=some o->H b=none->b∉ex->H' b=none
 there:∀b o,h.get? b=some o->b∉ex->∃o',h'.get? b=some o'
 tups:∀b xs,H b=some (.tup xs)->H' b=some (.tup xs)
 frzs:∀b o u,H b=some (.frz o u)->H' b=some (.frz o u)
 tbls:∀b ps,H b=some (.tbl ps)->∃more,H' b=some (.tbl (ps++more))
section
variable {fs fs' ex ex':List Addr} {H H1 H2:Hp} {h h1 h2 h':Heap} {a x e:Addr} {o:HO}
def Un.any(u:Un fs ex H H1 h h1){b:Addr}{ob:Obj}(q:h.get? b=some ob)(n:H b=none)(hx:b∉ex):∃sl,h1.get? b=some { ob with slots:=sl }:=by
 by_cases hb:b∈fs
 ·exact u.slot b ob q n hb hx
 ·exact⟨ob.slots,u.keep b ob q n hb hx⟩
def Un.kept(k:∀b u,h.get? b=some u->h'.get? b=some u):Un fs ex H H h h':=
 ⟨λb ob q _ _ _=>k b ob q,λb ob q _ _ _=>⟨ob.slots,k b ob q⟩,λ_ _ _ n _=>n,λb ob q _=>⟨ob,k b ob q⟩,λ_ _ q=>q,λ_ _ _ q=>q,λ_ ps q=>⟨#[],by rw[q];simp⟩⟩
def Un.refl:Un fs ex H H h h:=Un.kept λ_ _ q=>q
def Un.laid(k:∀b u,h.get? b=some u->h'.get? b=some u)(hp:h.objs.size<=a)(hn:H a=none):Un fs ex H (upd H a o) h h' where
 keep:=λb u q _ _ _=>k b u q
 slot:=λb u q _ _ _=>⟨u.slots,k b u q⟩
 free:=λb u q n _=>by rw[az (Gv (GH (F9 q) hp))];exact n
 there:=λb u q _=>⟨u,k b u q⟩
 tups:=λb xs q=>by rw[az (bW q hn)];exact q
 frzs:=λb u xs q=>by rw[az (bW q hn)];exact q
 tbls:=λb ps q=>⟨#[],by rw[az (bW q hn),q];simp⟩
def Un.write(mu:jF (H x))(he:e=x\/H e=some (.own x))(k:∀b u,b≠e->h.get? b=some u->h'.get? b=some u)(heo:∃u,h'.get? e=some u):Un fs ex H (upd H x o) h h':=by
 have hx:∀b,H b=none->b≠x:=λb n z=>by subst z;rw[n]at mu;exact mu
 have hb:∀b,H b=none->b≠e:=λb n z=>by
  subst z;rcases he with r|r
  ·exact hx b n r
  ·rw[n]at r;cases r
 have hm:∀b u,H b=some u->¬jF (some u)->b≠x:=λb u q nm z=>by subst z;rw[q]at mu;exact nm mu
 refine⟨λb u q n _ _=>k b u (hb b n) q,λb u q n _ _=>⟨u.slots,k b u (hb b n) q⟩,λb u q n _=>by rw[az (hx b n)];exact n,λb u q _=>?_,
  λb xs q=>by rw[az (hm b _ q λz=>z)];exact q,λb u xs q=>by rw[az (hm b _ q λz=>z)];exact q,λb ps q=>⟨#[],by rw[az (hm b _ q λz=>z),q];simp⟩⟩
 by_cases hbe:b=e
 ·subst hbe;exact heo
 ·exact⟨u,k b u hbe q⟩
end
def fP(h:Heap)(H:Hp):List Addr:=(Hb h.objs.size).filter λa=>(H a).isSome
def fk(h:Heap)(H:Hp):Heap:=PySem.W.hideAll h (fP h H)
def yY(h:Heap)(H:Hp):(fk h H).objs.size=h.objs.size:=PySem.W.hideAll_size _ _
def kZ{h:Heap}{H:Hp}{b:Addr}{o:Obj}(e:h.get? b=some o)(n:H b=none):(fk h H).get? b=some o:=
 PySem.W.hideAll_get _ e λhm=>by have q:(H b).isSome=true:=(List.mem_filter.mp hm).2;rw[n]at q;simp at q
def zL{h:Heap}{H:Hp}{b:Addr}{o:Obj}(e:(fk h H).get? b=some o):h.get? b=some o/\H b=none:=by
 have e':h.get? b=some o:=PySem.W.of_hideAll (fP h H) e;refine⟨e',?_⟩;cases q:H b with
 | none=>rfl
 | some x=>
  have hm:b∈fP h H:=List.mem_filter.mpr ⟨List.mem_range.mpr (F9 e'),by simp[q]⟩;have z:(fk h H).get? b=none:=PySem.W.hideAll_none (fP h H) hm;rw[z]at e;cases e
structure Mod(K:F6)(mg:Str->Option Value)(base:Heap):Prop where
 kin:K.In base
 glob:base.Ns mainGlobals mg
 blt:∃mb,base.Ns builtinsNs mb/\∀x:Str,x≠"__name__"->mb x=bootBuiltins x
 nolimit:base.NoLimit
structure Cx where
 prog:Program
 w:World
 K:F6
 mg:Str->Option Value
 base:Heap
 A:Around
 N:List Str
 s₀:Shared
 H₀:Hp
 env:Env
 outer:List Env
 stack:List Env
 ex:List Addr
 fn:Str->Bool
 calm:Bool
 pn:List (Addr×Obj)
 xe:Value->Shared->Prop
def aX(l:List Env):List Addr:=l.filterMap (·.frame)
abbrev Cx.fs(X:Cx):List Addr:=aX X.outer
def lx(sc:Scope)(x:Str):Prop:=sc.names.lookup x=some .local\/sc.names.lookup x=some .cell\/sc.names.lookup x=some .free
def Loc(sc:Scope)(x:Str):Prop:=sc.names.lookup x=some .local\/sc.names.lookup x=some .cell
def Look(env:Env)(h:Heap)(m:Str->Option Value)(x:Str)(u:Value):Prop:=
 (env.kindOf x=some .local/\m x=some u)\/((env.kindOf x=some .cell\/env.kindOf x=some .free)/\∃c,env.cells.lookup x=some c/\h.IsCell c (some u))
structure Cx.Ok(X:Cx):Prop where
 mod:Mod X.K X.mg X.base
 kind:X.env.scope.kind=.function
 glob:X.env.globals=mainGlobals
 blt:X.env.builtins=builtinsNs
 above:X.s₀.heap.objs.size<=X.env.locals
 inj:∀x y c,X.env.cells.lookup x=some c->X.env.cells.lookup y=some c->x=y
 has:∀x,(X.env.kindOf x=some .cell\/X.env.kindOf x=some .free)->∃c,X.env.cells.lookup x=some c
 cab:∀x c,X.fn x=true->X.env.cells.lookup x=some c->X.s₀.heap.objs.size<=c
 hd:X.calm=true->X.A.handled=none
 frames:X.A.frames=some X.stack
 stk:X.stack=X.outer\/(X.stack=X.env::X.outer/\X.env.frame=some X.env.locals)
 exf:∀b∈X.ex,b≠X.env.locals/\∀x c,X.env.cells.lookup x=some c->c≠b
 bs:∀b o,X.base.get? b=some o->X.s₀.heap.get? b=some o/\X.H₀ b=none
 bsz:X.base.objs.size<=X.s₀.heap.objs.size
 noex:∀b o,X.base.get? b=some o->b∉X.ex
 exfs:∀b∈X.ex,b∉X.fs
 funs:X.s₀.heap.FunFrames X.base X.outer
 frf:∀b∈X.fs,X.H₀ b=none
structure Inv(X:Cx)(pins:List (Addr×Obj))(σ:List (Option V))(H:Hp)(s:Shared):Prop where
 ok:X.Ok
 os:s.os=X.s₀.os
 bare:AllBare s.gens
 base:Un X.fs X.ex X.H₀ H X.s₀.heap s.heap
 loc:∃m,s.heap.Ns X.env.locals m/\∀(i:Nat) (x:Str) (v:V),X.N[i]?=some x->σ[i]?=some (some v)->lx X.env.scope x->∃u,RelV v u/\Look X.env s.heap m x u
 cell:∀x c,X.env.cells.lookup x=some c->∃v,s.heap.IsCell c v
 free:H X.env.locals=none
 freeC:∀x c,X.env.cells.lookup x=some c->H c=none
 pin:∀p∈X.pn++pins,s.heap.get? p.1=some p.2/\H p.1=none/\p.1≠X.env.locals/\p.1∉X.fs/\∀v,p.2.data≠.cell v
 hok:bh X.prog X.w H s.heap
 len:σ.length=X.N.length
section
variable {X:Cx} {pins:List (Addr×Obj)} {σ:List (Option V)} {H H':Hp} {s:Shared} {h':Heap}
def Cx.Ok.nofr(ok:X.Ok){b:Addr}{o:Obj}(e:X.base.get? b=some o):b∉X.fs:=λhb=>by have:=(ok.funs.mem hb).1;rw[e]at this;cases this
def Inv.bs(I:Inv X pins σ H s):∀b o,X.base.get? b=some o->s.heap.get? b=some o/\H b=none:=λb o e=>
 ⟨I.base.keep b o (I.ok.bs b o e).1 (I.ok.bs b o e).2 (I.ok.nofr e) (I.ok.noex b o e),I.base.free b o (I.ok.bs b o e).1 (I.ok.bs b o e).2 (I.ok.noex b o e)⟩
def Inv.bk(I:Inv X pins σ H s):∀b o,X.base.get? b=some o->s.heap.get? b=some o:=λb o e=>(I.bs b o e).1
def Inv.mod(I:Inv X pins σ H s):Mod X.K X.mg X.base:=I.ok.mod
def Inv.kIn(I:Inv X pins σ H s):X.K.In s.heap:=I.ok.mod.kin.keeps I.bk
def Inv.lt(I:Inv X pins σ H s):X.env.locals<s.heap.objs.size:=let ⟨_,hn,_⟩:=I.loc;hn.lt
def Inv.sz(I:Inv X pins σ H s):X.s₀.heap.objs.size<=s.heap.objs.size:=GI I.ok.above (Nat.le_of_lt I.lt)
def Inv.nofs(I:Inv X pins σ H s){a:Addr}(h:s.heap.objs.size<=a):a∉X.fs:=λhb=>by obtain⟨_,o,ho,_⟩:=I.ok.funs.mem hb;exact absurd (GH (F9 ho) (GI I.sz h)) (Nat.lt_irrefl _)
def Inv.cne(I:Inv X pins σ H s):∀x c,X.env.cells.lookup x=some c->c≠X.env.locals:=λx c e z=>by obtain⟨v,o,ho,hd⟩:=I.cell x c e;obtain⟨m,⟨o',es,ep,ho',hd',_⟩,_⟩:=I.loc;rw[z,ho']at ho;cases ho;rw[hd']at hd;cases hd
def Inv.funs(I:Inv X pins σ H s):s.heap.FunFrames X.base X.outer:=by
 have all:∀(l:List Env),(∀b∈aX l,b∈X.fs)->X.s₀.heap.FunFrames X.base l->s.heap.FunFrames X.base l:=by
  intro l;induction l with
  | nil=>intro _ _;trivial
  | cons env r ih=>
   intro hs hl;obtain⟨hk,⟨L,o,hf,hn,ho,hd⟩,hr⟩:=hl;have hL:L∈X.fs:=hs L (by unfold aX;rw[List.filterMap_cons,hf];exact Gh);obtain⟨sl,e⟩:=I.base.slot L o ho (I.ok.frf L hL) hL λz=>I.ok.exfs L z hL;exact⟨hk,⟨L,_,hf,hn,e,hd⟩,ih (λb hb=>hs b (by unfold aX;rw[List.filterMap_cons,hf];exact Ge _ hb)) hr⟩
 exact all X.outer (λ_ hb=>hb) I.ok.funs
def Inv.stack(I:Inv X pins σ H s):s.heap.FunFrames X.base X.stack:=by
 rcases I.ok.stk with e|⟨e,hf⟩
 ·rw[e];exact I.funs
 ·rw[e];obtain⟨m,hn,_⟩:=I.loc;refine .cons (by rw[I.ok.kind];decide) hf hn ?_ I.funs;exact Heap.get?_none_of_le (GI I.ok.bsz I.ok.above)
def Inv.stkSub(I:Inv X pins σ H s):∀b∈aX X.stack,b∈X.env.locals::X.fs:=λb hb=>by
 rcases I.ok.stk with e|⟨e,hf⟩
 ·rw[e]at hb;exact Ge _ hb
 ·rw[e]at hb;unfold aX at hb;rw[List.filterMap_cons,hf]at hb;exact hb
def Inv.stkFree(I:Inv X pins σ H s):∀b∈aX X.stack,H b=none:=λb hb=>by
 rcases Gq.mp (I.stkSub b hb)with e|hb
 ·rw[e];exact I.free
 ·obtain⟨_,o,ho,_⟩:=I.ok.funs.mem hb;exact I.base.free b o ho (I.ok.frf b hb) λz=>I.ok.exfs b z hb
def Inv.step{g':Array GenState}{t':Nat}{d':Drawn}{ch:List Addr}(I:Inv X pins σ H s)
  (hch:∀b∈ch,(b∈X.ex\/X.s₀.heap.objs.size<=b)/\b≠X.env.locals/\(∀x c,X.env.cells.lookup x=some c->c≠b)/\∀p∈X.pn++pins,p.1≠b)
  (keep:∀b o,b≠X.env.locals->b∉X.fs->b∉ch->s.heap.get? b=some o->H b=none->h'.get? b=some o)
  (slot:∀b o,b≠X.env.locals->b∈X.fs->b∉ch->s.heap.get? b=some o->H b=none->∃sl,h'.get? b=some { o with slots:=sl }) (free:∀b o,b∉ch->s.heap.get? b=some o->H b=none->H' b=none)
  (there:∀b o,b∉ch->s.heap.get? b=some o->∃o',h'.get? b=some o')
  (tups:∀b xs,H b=some (.tup xs)->H' b=some (.tup xs)) (frzs:∀b o u,H b=some (.frz o u)->H' b=some (.frz o u)) (tbls:∀b ps,H b=some (.tbl ps)->∃more,H' b=some (.tbl (ps++more)))
  (ns:∀m,s.heap.Ns X.env.locals m->h'.Ns X.env.locals m) (hok:bh X.prog X.w H' h') (hg:AllBare g') :
  Inv X pins σ H' { s with heap:=h',gens:=g',drawn:=d',toks:=t' }:=by
 have neL:∀b o,X.s₀.heap.get? b=some o->b≠X.env.locals:=λb o e=>Gv (GH (F9 e) I.ok.above);have neC:∀b o,X.s₀.heap.get? b=some o->b∉X.ex->b∉ch:=λb o e hx hb=>by
  rcases(hch b hb).1 with z|z
  ·exact hx z
  ·exact absurd (GH (F9 e) z) (Nat.lt_irrefl _)
 have cellK:∀x c,X.env.cells.lookup x=some c->∀v,s.heap.IsCell c v->h'.IsCell c v:=λx c e v ⟨o,ho,hd⟩=>by
  have nch:c∉ch:=λz=>(hch c z).2.2.1 x c e rfl;by_cases hc:c∈X.fs
  ·obtain⟨sl,q⟩:=slot c o (I.cne x c e) hc nch ho (I.freeC x c e);exact⟨_,q,hd⟩
  ·exact⟨o,keep c o (I.cne x c e) hc nch ho (I.freeC x c e),hd⟩
 refine⟨I.ok,I.os,hg,⟨λb o e n hb hx=>?_,λb o e n hb hx=>?_,λb o e n hx=>?_,λb o e hx=>?_,λb xs e=>tups b xs (I.base.tups b xs e),λb o xs e=>frzs b o xs (I.base.frzs b o xs e),λb ps e=>?_⟩,?_,λx c e=>?_,?_,λx c e=>?_,λp hp=>?_,hok,I.len⟩
 ·exact keep b o (neL b o e) hb (neC b o e hx) (I.base.keep b o e n hb hx) (I.base.free b o e n hx)
 ·obtain⟨sl,e1⟩:=I.base.slot b o e n hb hx;obtain⟨sl',e2⟩:=slot b _ (neL b o e) hb (neC b o e hx) e1 (I.base.free b o e n hx);exact⟨sl',e2⟩
 ·obtain⟨o',e1⟩:=I.base.there b o e hx;exact free b o' (neC b o e hx) e1 (I.base.free b o e n hx)
 ·obtain⟨o',e1⟩:=I.base.there b o e hx;exact there b o' (neC b o e hx) e1
 ·obtain⟨m1,e1⟩:=I.base.tbls b ps e;obtain⟨m2,e2⟩:=tbls b _ e1;exact⟨m1++m2,by rw[e2,Array.append_assoc]⟩
 ·obtain⟨m,hn,hl⟩:=I.loc;refine⟨m,ns m hn,λi x v e1 e2 e3=>?_⟩;obtain⟨u,r,l⟩:=hl i x v e1 e2 e3;refine⟨u,r,?_⟩;rcases l with l|⟨k,c,e,z⟩
  ·exact .inl l
  ·exact .inr ⟨k,c,e,cellK x c e _ z⟩
 ·obtain⟨v,z⟩:=I.cell x c e;exact⟨v,cellK x c e v z⟩
 ·obtain⟨m,⟨o,_,_,ho,_⟩,_⟩:=I.loc;exact free _ o (λz=>(hch _ z).2.1 rfl) ho I.free
 ·obtain⟨v,o,ho,hd⟩:=I.cell x c e;exact free c o (λz=>(hch c z).2.2.1 x c e rfl) ho (I.freeC x c e)
 ·obtain⟨e,n,ne,nf,d⟩:=I.pin p hp;have nch:p.1∉ch:=λz=>(hch p.1 z).2.2.2 p hp rfl;exact⟨keep p.1 p.2 ne nf nch e n,free p.1 p.2 nch e n,ne,nf,d⟩
def Inv.un{t':Nat}(I:Inv X pins σ H s)(u:Un X.fs [] H H' s.heap h')(hok:bh X.prog X.w H' h'):Inv X pins σ H' { s with heap:=h',toks:=t' }:=by
 obtain⟨m,⟨o,es,ep,ho,r⟩,_⟩:=id I.loc;obtain⟨sl,hL⟩:=u.any ho I.free (by simp);exact I.step (g':=s.gens) (d':=s.drawn) (ch:=[]) (λ_ z=>nomatch z) (λb o _ hb _ e n=>u.keep b o e n hb (by simp)) (λb o _ hb _ e n=>u.slot b o e n hb (by simp)) (λb o _ e n=>u.free b o e n (by simp)) (λb o _ e=>u.there b o e (by simp)) u.tups u.frzs u.tbls (λm' hm=>by obtain⟨o',es',ep',ho',r'⟩:=hm;rw[ho]at ho';cases ho';exact⟨_,es',ep',hL,r'⟩) hok I.bare
def Inv.call{g':Array GenState}{t':Nat}{d':Drawn}{ch:List Addr}(I:Inv X pins σ H s)(u:Un (aX X.stack) ch H H' s.heap h')(hok:bh X.prog X.w H' h')(hg:AllBare g')
  (hch:∀b∈ch,(b∈X.ex\/X.s₀.heap.objs.size<=b)/\b≠X.env.locals/\(∀x c,X.env.cells.lookup x=some c->c≠b)/\∀p∈X.pn++pins,p.1≠b) :
  Inv X pins σ H' { s with heap:=h',gens:=g',drawn:=d',toks:=t' }:=by
 obtain⟨m,⟨o,es,ep,ho,r⟩,_⟩:=id I.loc;obtain⟨sl,hL⟩:=u.any ho I.free λz=>(hch _ z).2.1 rfl;exact I.step (ch:=ch) hch (λb o hL hb hc e n=>u.keep b o e n (λz=>(Gq.mp (I.stkSub b z)).elim hL hb) hc) (λb o _ _ hc e n=>u.any e n hc) (λb o hc e n=>u.free b o e n hc) (λb o hc e=>u.there b o e hc) u.tups u.frzs u.tbls (λm' hm=>by obtain⟨o',es',ep',ho',r'⟩:=hm;rw[ho]at ho';cases ho';exact⟨_,es',ep',hL,r'⟩) hok hg
def Inv.turned{t':Nat}{it:Addr}(I:Inv X pins σ H s)(k:∀b o,b≠it->s.heap.get? b=some o->h'.get? b=some o)(hn:H it=none)(hL:it≠X.env.locals)
  (h1:it∈X.ex\/X.s₀.heap.objs.size<=it) (h2:∀x c,X.env.cells.lookup x=some c->c≠it) (h3:∀p∈X.pn++pins,p.1≠it):Inv X pins σ H { s with heap:=h',toks:=t' }:=by
 have nit:∀b u,H b=some u->b≠it:=λb u e z=>by rw[z,hn]at e;cases e
 refine I.step (g':=s.gens) (d':=s.drawn) (ch:=[it]) (λb hb=>?_) (λb o _ _ hc e _=>k b o (λz=>hc (by simp[z])) e) (λb o _ _ hc e _=>⟨o.slots,k b o (λz=>hc (by simp[z])) e⟩) (λ_ _ _ _ n=>n)
  (λb o hc e=>⟨o,k b o (λz=>hc (by simp[z])) e⟩) (λ_ _ e=>e) (λ_ _ _ e=>e) (λb ps e=>⟨#[],by rw[e];simp⟩) (λm hm=>?_) (λb u e=>?_) I.bare
 ·have e:b=it:=by simpa using hb
  subst e;exact⟨h1,hL,h2,h3⟩
 ·obtain⟨o,es,ep,ho,r⟩:=hm;exact⟨o,es,ep,k _ o (Ne.symm hL) ho,r⟩
 ·refine(I.hok b u e).stay (λc v hc q=>k c v ?_ q) (λ_ q=>q) λ_ _ q=>q;rcases hc with z|z
  ·rw[z];exact nit b u e
  ·exact nit c _ z
def Inv.tok(I:Inv X pins σ H s)(t:Nat):Inv X pins σ H { s with toks:=t }:=I.un (h':=s.heap) (t':=t) Un.refl I.hok
def Inv.kept{t':Nat}(I:Inv X pins σ H s)(k:∀b u,s.heap.get? b=some u->h'.get? b=some u):Inv X pins σ H { s with heap:=h',toks:=t' }:=I.un (Un.kept k) (I.hok.kept k)
def Inv.laid{a:Addr}{o:HO}{t':Nat}(I:Inv X pins σ H s)(k:∀b u,s.heap.get? b=some u->h'.get? b=some u)(hp:s.heap.objs.size<=a)(new:bp X.prog X.w (upd H a o) h' a o):
  Inv X pins σ (upd H a o) { s with heap:=h',toks:=t' }:=I.un (Un.laid k hp (I.hok.fresh hp)) (I.hok.laid k hp new)
def Inv.write{x e:Addr}{o:HO}{t':Nat}(I:Inv X pins σ H s)(mu:jF (H x))(he:e=x\/H e=some (.own x))(k:∀b u,b≠e->s.heap.get? b=some u->h'.get? b=some u)(heo:∃u,h'.get? e=some u)
  (new:bp X.prog X.w (upd H x o) h' x o):Inv X pins σ (upd H x o) { s with heap:=h',toks:=t' }:=I.un (Un.write mu he k heo) (I.hok.write mu he k heo new)
def Inv.pins_of{pins':List (Addr×Obj)}(I:Inv X pins σ H s)(h:∀p∈pins',s.heap.get? p.1=some p.2/\H p.1=none/\p.1≠X.env.locals/\p.1∉X.fs/\∀v,p.2.data≠.cell v):Inv X pins' σ H s:=
 ⟨I.ok,I.os,I.bare,I.base,I.loc,I.cell,I.free,I.freeC,λp hp=>(Gz.mp hp).elim (λz=>I.pin p (GS _ z)) (h p),I.hok,I.len⟩
def pE{N:List Str}(hN:N.Nodup){i j:Nat}{x:Str}(a:N[i]?=some x)(b:N[j]?=some x):i=j:=by obtain⟨h1,e1⟩:=Gj.mp a;obtain⟨h2,e2⟩:=Gj.mp b;exact(List.getElem_inj hN).mp (e1.trans e2.symm)
def sT{M:Model}{A:Around}{E:Value->Shared->Prop}{i:Nat}{x:Str}{v:V}{u:Value}{Q:Unit->Shared->Prop}(I:Inv X pins σ H s)(hN:X.N.Nodup)(hi:X.N[i]?=some x)(hx:Loc X.env.scope x)(r:RelV v u)
  (h:∀s',Inv X pins (σ.set i (some v)) H s'->(∃a,Heap.SameBut a s.heap s'.heap/\(a=X.env.locals\/X.env.cells.lookup x=some a))->Q () s') (hf:X.fn x=true\/X.env.scope.names.lookup x=some .local:=by first|exact .inl rfl|exact .inr rfl|assumption):wpAny M A (storeName X.env x u) Q E s:=by
 obtain⟨m,hn,hl⟩:=id I.loc;have hcls:(X.env.scope.kind == .class || (X.env.scope.kind == .module && X.env.locals != X.env.globals))=false:=by rw[I.ok.kind];rfl
 have hiσ:i<σ.length:=by rw[I.len];exact(Gj.mp hi).1
 have cne:=I.cne;have tracked:∀{a:Addr} {h':Heap},(∃o,s.heap.get? a=some o/\H a=none)->Heap.SameBut a s.heap h'->bh X.prog X.w H h':=λ{a h'} ha hs b ob e=>by
  obtain⟨_,_,hfree⟩:=ha;refine(I.hok b ob e).stay (λc w' hc q=>(hs.2 c ?_).trans q) (λ_ q=>q) λ_ _ q=>q;rintro rfl;rcases hc with rfl|hc
  ·rw[hfree]at e;cases e
  ·rw[hfree]at hc;cases hc
 rcases hx with hk|hk
 ·refine wpAny_storeName_local hk hn (λh' hn' hs=>?_) hcls;obtain⟨oL,_,_,hoL,_⟩:=id hn;refine h _ ⟨I.ok,I.os,I.bare,⟨λb o e n hb hx=>?_,λb o e n hb hx=>?_,I.base.free,λb o e hx=>?_,I.base.tups,I.base.frzs,I.base.tbls⟩,⟨_,hn',λj y v' e1 e2 e3=>?_⟩,λy c e=>?_,I.free,I.freeC,λp hp=>?_,tracked ⟨oL,hoL,I.free⟩ hs,by simpa using I.len⟩ ⟨_,hs,.inl rfl⟩
  ·exact(hs.2 b (Gv (GH (F9 e) I.ok.above))).trans (I.base.keep b o e n hb hx)
  ·obtain⟨sl,e1⟩:=I.base.slot b o e n hb hx;exact⟨sl,(hs.2 b (Gv (GH (F9 e) I.ok.above))).trans e1⟩
  ·obtain⟨o',e1⟩:=I.base.there b o e hx;exact⟨o',(hs.2 b (Gv (GH (F9 e) I.ok.above))).trans e1⟩
  ·by_cases hj:j=i
   ·subst hj;rw[hi]at e1;cases e1;rw[List.getElem?_set_self hiσ]at e2;cases e2;exact⟨u,r,.inl ⟨hk,by simp⟩⟩
   ·rw[List.getElem?_set_ne (Ne.symm hj)]at e2;obtain⟨u',r',q⟩:=hl j y v' e1 e2 e3;refine⟨u',r',?_⟩;rcases q with⟨k,e⟩|⟨k,c,e,z⟩
    ·refine .inl ⟨k,?_⟩;have:y≠x:=λe=>hj (pE hN e1 (e ▸ hi));simp[this,e]
    ·exact .inr ⟨k,c,e,z.sameBut hs (cne y c e)⟩
  ·obtain⟨w',z⟩:=I.cell y c e;exact⟨w',z.sameBut hs (cne y c e)⟩
  ·obtain⟨e,n,ne,nf,d⟩:=I.pin p hp;exact⟨(hs.2 p.1 ne).trans e,n,ne,nf,d⟩
 ·have hfn:X.fn x=true:=by
   rcases hf with z|z
   ·exact z
   ·rw[z]at hk;cases hk
  obtain⟨c,hc⟩:=I.ok.has x (.inl hk);obtain⟨w',z⟩:=I.cell x c hc;refine wpAny_storeName_cell I.ok.kind hk hc z (λh' hc' hs=>?_);obtain⟨oc,hoc,hocd⟩:=id z;refine h { s with heap:=h' } ⟨I.ok,I.os,I.bare,⟨λb o e n hb hx=>?_,λb o e n hb hx=>?_,I.base.free,λb o e hx=>?_,I.base.tups,I.base.frzs,I.base.tbls⟩,⟨m,hn.sameBut hs (Ne.symm (cne x c hc)),λj y v' e1 e2 e3=>?_⟩,λy c' e=>?_,I.free,I.freeC,λp hp=>?_,tracked ⟨oc,hoc,I.freeC x c hc⟩ hs,by simpa using I.len⟩ ⟨c,hs,.inr hc⟩
  ·exact(hs.2 b (Gv (GH (F9 e) (I.ok.cab x c hfn hc)))).trans (I.base.keep b o e n hb hx)
  ·obtain⟨sl,e1⟩:=I.base.slot b o e n hb hx;exact⟨sl,(hs.2 b (Gv (GH (F9 e) (I.ok.cab x c hfn hc)))).trans e1⟩
  ·obtain⟨o',e1⟩:=I.base.there b o e hx;exact⟨o',(hs.2 b (Gv (GH (F9 e) (I.ok.cab x c hfn hc)))).trans e1⟩
  ·by_cases hj:j=i
   ·subst hj;rw[hi]at e1;cases e1;rw[List.getElem?_set_self hiσ]at e2;cases e2;exact⟨u,r,.inr ⟨.inl hk,c,hc,hc'⟩⟩
   ·rw[List.getElem?_set_ne (Ne.symm hj)]at e2;obtain⟨u',r',q⟩:=hl j y v' e1 e2 e3;refine⟨u',r',?_⟩;rcases q with q|⟨k,c',e,z'⟩
    ·exact .inl q
    ·refine .inr ⟨k,c',e,z'.sameBut hs ?_⟩;rintro rfl;exact hj (pE hN e1 (I.ok.inj _ _ _ e hc ▸ hi))
  ·by_cases hcc:c'=c
   ·subst hcc;exact⟨_,hc'⟩
   ·obtain⟨w2,z2⟩:=I.cell y c' e;exact⟨w2,z2.sameBut hs hcc⟩
  ·obtain⟨e,n,ne,nf,d⟩:=I.pin p hp;refine⟨(hs.2 p.1 ?_).trans e,n,ne,nf,d⟩;intro q;rw[q,hoc]at e;have q':oc=p.2:=GQ e;exact d w' (by rw[←q'];exact hocd)
def iz{M:Model}{A:Around}{E:Value->Shared->Prop}{i:Nat}{x:Str}{v:V}{u:Value}{Q:Unit->Shared->Prop}(I:Inv X pins σ H s)(hN:X.N.Nodup)(hi:X.N[i]?=some x)(hx:Loc X.env.scope x)(r:RelV v u)
  (h:∀s',Inv X pins (σ.set i (some v)) H s'->Q () s') (hf:X.fn x=true\/X.env.scope.names.lookup x=some .local:=by first|exact .inl rfl|exact .inr rfl|assumption):wpAny M A (storeName X.env x u) Q E s:=
 sT I hN hi hx r (λs' I' _=>h s' I') hf
def Inv.call'{s':Shared}{ch:List Addr}(I:Inv X pins σ H s)(ho:s'.os=s.os)(u:Un (aX X.stack) ch H H' s.heap s'.heap)(hok:bh X.prog X.w H' s'.heap)(hg:AllBare s'.gens)
  (hch:∀b∈ch,(b∈X.ex\/X.s₀.heap.objs.size<=b)/\b≠X.env.locals/\(∀x c,X.env.cells.lookup x=some c->c≠b)/\∀p∈X.pn++pins,p.1≠b):Inv X pins σ H' s':=by
 obtain⟨h',g',d',t',o'⟩:=s';have e:o'=s.os:=ho;subst e;exact I.call (g':=g') (t':=t') (d':=d') u hok hg hch
end
abbrev XK:=Value->Option Addr->Hp->Prop
abbrev St:=List (Option V)
abbrev VK:=V->Hp->Prop
abbrev TE:=St->Hp->VK->Prop
abbrev TT:=St->Hp->(Bool->Hp->Prop)->Prop
abbrev TA:=St->Hp->(List V->Hp->Prop)->Prop
structure Ends where
 nx:St->Hp->Prop
 rt:VK
 bk:St->Hp->Prop:=λ_ _=>False
 ct:St->Hp->Prop:=λ_ _=>False
abbrev TS:=Ends->St->Hp->Prop
def EP(X:Cx)(pins:List (Addr×Obj))(σ:St)(Q:VK)(u:Value)(s':Shared):Prop:=∃v H',Inv X pins σ H' s'/\RelV v u/\Q v H'
def TP(X:Cx)(pins:List (Addr×Obj))(σ:St)(Q:Bool->Hp->Prop)(b:Bool)(s':Shared):Prop:=∃H',Inv X pins σ H' s'/\Q b H'
def AP(X:Cx)(pins:List (Addr×Obj))(σ:St)(Q:List V->Hp->Prop)(us:List Value)(s':Shared):Prop:=∃vs H',Inv X pins σ H' s'/\Vals vs us/\Q vs H'
def SP(X:Cx)(pins:List (Addr×Obj))(D:Ends)(f:Flow)(s':Shared):Prop:=
 match f with
 | .next=>∃σ' H',Inv X pins σ' H' s'/\D.nx σ' H'
 | .brk=>∃σ' H',Inv X pins σ' H' s'/\D.bk σ' H'
 | .cont=>∃σ' H',Inv X pins σ' H' s'/\D.ct σ' H'
 | .ret u=>∃v σ' H',Inv X pins σ' H' s'/\RelV v u/\D.rt v H'
def PE(X:Cx)(e:Expr)(t:TE):Prop:=
 ∀(pins:List (Addr×Obj)) (s:Shared) (σ:St) (H:Hp) (Q:VK),Inv X pins σ H s->t σ H Q->wpAny (model X.prog X.w) X.A (eval e X.env) (EP X pins σ Q) X.xe s
def PT(X:Cx)(e:Expr)(t:TT):Prop:=
 ∀(pins:List (Addr×Obj)) (s:Shared) (σ:St) (H:Hp) (Q:Bool->Hp->Prop),Inv X pins σ H s->t σ H Q->wpAny (model X.prog X.w) X.A (isTrue e X.env (eval e X.env)) (TP X pins σ Q) X.xe s
def PW(X:Cx)(e:Expr)(t:TT):Prop:=
 ∀(whole:Sem Value) (pins:List (Addr×Obj)) (s:Shared) (σ:St) (H:Hp) (Q:Bool->Hp->Prop),Inv X pins σ H s->t σ H Q->wpAny (model X.prog X.w) X.A (isTrue e X.env whole) (TP X pins σ Q) X.xe s
def PW.pt{X:Cx}{e:Expr}{t:TT}(h:PW X e t):PT X e t:=h _
def PA(X:Cx)(es:List Expr)(t:TA):Prop:=
 ∀(pos:Pos) (pins:List (Addr×Obj)) (s:Shared) (σ:St) (H:Hp) (Q:List V->Hp->Prop),Inv X pins σ H s->t σ H Q->wpAny (model X.prog X.w) X.A (spliced (backTo pos (starEach es X.env))) (AP X pins σ Q) X.xe s
def PS(X:Cx)(st:Stmt)(t:TS):Prop:=
 ∀(pins:List (Addr×Obj)) (s:Shared) (σ:St) (H:Hp) (D:Ends),Inv X pins σ H s->t D σ H->wpAny (model X.prog X.w) X.A (exec st X.env) (SP X pins D) X.xe s
def b8(X:Cx)(st:List Stmt)(t:TS):Prop:=
 ∀(pins:List (Addr×Obj)) (s:Shared) (σ:St) (H:Hp) (D:Ends),Inv X pins σ H s->t D σ H->wpAny (model X.prog X.w) X.A (execs st X.env) (SP X pins D) X.xe s
def ax{α:Type}{t:Sem α}{Q Q':α->Shared->Prop}{M:Model}{A:Around}{E:Value->Shared->Prop}{s:Shared}(h:wpAny M A t Q E s)(hQ:∀a s,Q a s->Q' a s):wpAny M A t Q' E s:=wpAny_mono h hQ λ_ _ x=>x
section
variable {X:Cx}
def bin{a b:Expr}{ta tb:TE}(ha:PE X a ta)(hb:PE X b tb){pins:List (Addr×Obj)}{s:Shared}{σ:St}{H:Hp}{R:V->V->Hp->Prop}(I:Inv X pins σ H s)(h:ta σ H λx H1=>tb σ H1 λy H2=>R x y H2)
  {α:Type} {Q:α->Shared->Prop} {f:Value->Value->Sem α}
  (hf:∀v u s2 x y H2,Inv X pins σ H2 s2->RelV x v->RelV y u->R x y H2->wpAny (model X.prog X.w) X.A (f v u) Q X.xe s2) :
  wpAny (model X.prog X.w) X.A (eval a X.env) (λv s₁=>wpAny (model X.prog X.w) X.A (eval b X.env) (λu s₂=>wpAny (model X.prog X.w) X.A (f v u) Q X.xe s₂) X.xe s₁) X.xe s:=by
 refine ax (ha pins s σ H _ I h) λv s1 ⟨x,H1,I1,r1,q1⟩=>?_;refine ax (hb pins s1 σ H1 _ I1 q1) λu s2 ⟨y,H2,I2,r2,q2⟩=>?_;exact hf v u s2 x y H2 I2 r1 r2 q2
def n8(i:Nat):TE:=λσ H Q=>∃v,σ[i]?=some (some v)/\Q v H
def tC(v:V):TE:=λ_ H Q=>Q v H
def FY{i:Nat}{x:Str}{pos:Pos}(hN:X.N[i]?=some x)(hv:lx X.env.scope x)(hd:(x == ("__debug__":Str))=false:=by decide)(hcd:(x == ("__classdict__":Str))=false:=by decide):PE X (.Name x pos) (n8 i):=by
 intro pins s σ H Q I h;obtain⟨v,e,h⟩:=h;obtain⟨m,hn,hl⟩:=I.loc;obtain⟨u,r,l⟩:=hl i x v hN e hv;have fin:EP X pins σ Q u s:=⟨v,H,I,r,h⟩;rcases l with⟨hk,hm⟩|⟨hk,c,hc,hcell⟩
 ·exact wpAny_Name (wpAny_loadName_local I.ok.kind hk hn hm fin) hd
 ·rcases hk with hk|hk
  ·exact wpAny_Name (wpAny_loadName_cell I.ok.kind hk hc hcell fin) hd
  ·exact wpAny_Name (wpAny_loadName_free I.ok.kind hk hc hcell fin hcd) hd
def af{i j pos}:PE X (.Constant (.int i) j pos) (tC (.int i)):=λ_ _ _ H _ I h=>wpAny_Constant_int ⟨.int i,H,I.tok _,⟨_,rfl⟩,h⟩
def bL{b j pos}:PE X (.Constant (.bool b) j pos) (tC (.bl b)):=λ_ _ _ H _ I h=>Constant_bool ⟨.bl b,H,I,rfl,h⟩
def dy{j pos}:PE X (.Constant .none j pos) (tC .non):=λ_ _ _ H _ I h=>Constant_none ⟨.non,H,I,rfl,h⟩
def aF{x j pos}:PE X (.Constant (.str x) j pos) (tC (.str x)):=λ_ _ _ H _ I h=>Calls.Constant_str ⟨.str x,H,I.tok _,⟨_,rfl⟩,h⟩
def Gl(X:Cx)(x:Str):Prop:=X.env.kindOf x=some .globalImplicit
def fU{E:Value->Shared->Prop}{pins:List (Addr×Obj)}{s:Shared}{σ:St}{H:Hp}{x:Str}{u:Value}{pos:Pos}{Q:Value->Shared->Prop}(I:Inv X pins σ H s)(hg:Gl X x)(hm:X.mg x=some u)(h:Q u s)
  (hd:(x == ("__debug__":Str))=false:=by decide):wpAny (model X.prog X.w) X.A (eval (.Name x pos) X.env) Q E s:=
 Calls.Name_function_global I.ok.kind hg (Calls.loadGlobal_global (by rw[I.ok.glob];exact I.mod.glob.keeps I.bk) hm h) hd
def fV{E:Value->Shared->Prop}{pins:List (Addr×Obj)}{s:Shared}{σ:St}{H:Hp}{x:Str}{u:Value}{pos:Pos}{Q:Value->Shared->Prop}(I:Inv X pins σ H s)(hg:Gl X x)(hm:X.mg x=none)(hv:bootBuiltins x=some u)(h:Q u s)
  (hn:x≠"__name__":=by decide) (hd:(x == ("__debug__":Str))=false:=by decide):wpAny (model X.prog X.w) X.A (eval (.Name x pos) X.env) Q E s:=by
 obtain⟨mb,h1,h2⟩:=I.mod.blt;exact Calls.Name_function_global I.ok.kind hg (Calls.loadGlobal_builtin (by rw[I.ok.glob];exact I.mod.glob.keeps I.bk) hm (by rw[I.ok.blt];exact h1.keeps I.bk) ((h2 x hn).trans hv) h) hd
def cY{x:Str}{v:V}{u:Value}{pos:Pos}(hg:Gl X x)(hm:X.mg x=some u)(r:RelV v u)(hd:(x == ("__debug__":Str))=false:=by decide):PE X (.Name x pos) (tC v):=
 λ_ _ _ H _ I h=>fU I hg hm ⟨v,H,I,r,h⟩ hd
def fM{x:Str}{v:V}{u:Value}{pos:Pos}(hg:Gl X x)(hm:X.mg x=none)(hv:bootBuiltins x=some u)(r:RelV v u)(hn:x≠"__name__":=by decide)(hd:(x == ("__debug__":Str))=false:=by decide):PE X (.Name x pos) (tC v):=
 λ_ _ _ H _ I h=>fV I hg hm hv ⟨v,H,I,r,h⟩ hn hd
variable {a b:Expr} {ta tb:TE} {pos:Pos}
def PC(X:Cx)(op:CmpOp)(a b:Expr)(t:TE):Prop:=
 ∀(pins:List (Addr×Obj)) (s:Shared) (σ:St) (H:Hp) (Q:VK),Inv X pins σ H s->t σ H Q →
  wpAny (model X.prog X.w) X.A (eval a X.env) (λv s₁=>wpAny (model X.prog X.w) X.A (eval b X.env) (λu s₂=>wpAny (model X.prog X.w) X.A (compareOp op v u) (EP X pins σ Q) X.xe s₂) X.xe s₁) X.xe s
def tB(t:TE):TT:=λσ H Q=>t σ H λx H1=>∃c,x=.bl c/\Q c H1
def CJ{op:CmpOp}{t:TE}(h:PC X op a b t)(h1:behindInMarks op b=false:=by first|exact nobehind _ (by decide) (by decide)|rfl):PE X (.Compare a [op] [b] pos) t:=λpins s σ H Q I hw=>wpAny_Compare1 (h pins s σ H Q I hw) h1
def lA{op:CmpOp}{t:TE}(h:PC X op a b t)(h1:behindInMarks op b=false:=by first|exact nobehind _ (by decide) (by decide)|rfl):PT X (.Compare a [op] [b] pos) (tB t):=by intro pins s σ H Q I hw;refine wpAny_isTrue_Compare1 (ax (h pins s σ H _ I hw) λv s1 h1=>ax h1 λu s2 h2=>ax h2 λc s3 ⟨x,H1,I1,r1,q1⟩=>?_) h1;obtain⟨d,rfl,q⟩:=q1;cases r1;exact wpAny_truthy_bool ⟨H1,I1,q⟩
def cC{e:Expr}{t:TE}(h:PE X e t)(he:∀whole,isTrue e X.env whole=(do let v ←whole;standAt e.pos;holding [v] (truthy v)):=by intro _;rfl):PT X e (tB t):=by intro pins s σ H Q I hw;refine isTrue_plain (ax (h pins s σ H _ I hw) λv s1 ⟨x,H1,I1,r1,q1⟩=>?_) (he _);obtain⟨d,rfl,q⟩:=q1;cases r1;exact wpAny_truthy_bool ⟨H1,I1,q⟩
variable {tA tB':TT} {rest:List Expr}
def sH(t u:TT):TT:=λσ H Q=>t σ H λc H1=>if c=true then u σ H1 Q else Q false H1
def vd(t u:TT):TT:=λσ H Q=>t σ H λc H1=>if c=true then Q true H1 else u σ H1 Q
def vk(t:TT):TT:=λσ H Q=>t σ H λc H1=>Q (!c) H1
def ji(ha:PT X a tA):PW X (.BoolOp .And [a] pos) tA:=by
 intro wh pins s σ H Q I h;refine isTrue_and (ax (ha pins s σ H Q I h) λc s1 e=>?_);cases c with
 | true=>exact isTrue_and_nil e
 | false=>exact e
def dZ(ha:PT X a tA):PW X (.BoolOp .Or [a] pos) tA:=by
 intro wh pins s σ H Q I h;refine isTrue_or (ax (ha pins s σ H Q I h) λc s1 e=>?_);cases c with
 | false=>exact isTrue_or_nil e
 | true=>exact e
def ir(ha:PT X a tA)(hb:PW X (.BoolOp .And (b::rest) pos) tB'):PW X (.BoolOp .And (a::b::rest) pos) (sH tA tB'):=by
 intro wh pins s σ H Q I h;refine isTrue_and (ax (ha pins s σ H _ I h) λc s1 ⟨H1,I1,q1⟩=>?_);cases c with
 | true=>exact hb wh pins s1 σ H1 Q I1 q1
 | false=>exact⟨H1,I1,q1⟩
def dX(ha:PT X a tA)(hb:PW X (.BoolOp .Or (b::rest) pos) tB'):PW X (.BoolOp .Or (a::b::rest) pos) (vd tA tB'):=by
 intro wh pins s σ H Q I h;refine isTrue_or (ax (ha pins s σ H _ I h) λc s1 ⟨H1,I1,q1⟩=>?_);cases c with
 | true=>exact⟨H1,I1,q1⟩
 | false=>exact hb wh pins s1 σ H1 Q I1 q1
def fX(ha:PT X a tA):PT X (.UnaryOp .Not a pos) (vk tA):=by intro pins s σ H Q I h;exact isTrue_not (ha pins s σ H (λc H1=>Q (!c) H1) I h)
def yi(ta tb:TE):TE:=λσ H Q=>ta σ H λx H1=>∃c,x=.bl c/\if c=true then tb σ H1 Q else Q (.bl false) H1
def vK(ta tb:TE):TE:=λσ H Q=>ta σ H λx H1=>∃c,x=.bl c/\if c=true then Q (.bl true) H1 else tb σ H1 Q
def uE(ta:TE):TE:=λσ H Q=>ta σ H λx H1=>∃c,x=.bl c/\Q (.bl (!c)) H1
def eO{op}{t:TE}(h:PE X a t):PE X (.BoolOp op [a] pos) t:=λpins s σ H Q I hw=>BoolOp_one (h pins s σ H Q I hw)
def dI(ha:PE X a ta)(hb:PE X (.BoolOp .And (b::rest) pos) tb):PE X (.BoolOp .And (a::b::rest) pos) (yi ta tb):=by
 intro pins s σ H Q I h;refine BoolOp_and (ax (ha pins s σ H _ I h) λv s1 ⟨x,H1,I1,r1,q1⟩=>?_);obtain⟨c,rfl,q1⟩:=q1;cases r1;refine wpAny_truthy_bool ?_;cases c with
 | true=>exact hb pins s1 σ H1 Q I1 q1
 | false=>exact⟨.bl false,H1,I1,rfl,q1⟩
def sq(ha:PE X a ta)(hb:PE X (.BoolOp .Or (b::rest) pos) tb):PE X (.BoolOp .Or (a::b::rest) pos) (vK ta tb):=by
 intro pins s σ H Q I h;refine BoolOp_or (ax (ha pins s σ H _ I h) λv s1 ⟨x,H1,I1,r1,q1⟩=>?_);obtain⟨c,rfl,q1⟩:=q1;cases r1;refine wpAny_truthy_bool ?_;cases c with
 | false=>exact hb pins s1 σ H1 Q I1 q1
 | true=>exact⟨.bl true,H1,I1,rfl,q1⟩
def xE(ha:PE X a ta):PE X (.UnaryOp .Not a pos) (uE ta):=by intro pins s σ H Q I h;refine UnaryOp_ (ax (ha pins s σ H _ I h) λv s1 ⟨x,H1,I1,r1,q1⟩=>?_);obtain⟨c,rfl,q1⟩:=q1;cases r1;exact not_of (wpAny_truthy_bool ⟨.bl (!c),H1,I1,rfl,q1⟩)
end
def ag(K:F6)(H:Hp)(a:Addr)(xs:List V):Prop:=
 Rd H a (.lst xs) ∨
  ∃(o:Obj) (its:Array Value) (n:Nat),K.lookup a=some o/\o.cls=.type "list"/\o.dict=none/\o.data=.seq its n/\its.size<=sizeLine/\Vals xs its.toList
def aj(K:F6)(H:Hp)(a:Addr)(xs:List V):Prop:=
 Rd H a (.tup xs) ∨
  ∃(o:Obj) (its:Array Value) (n:Nat),K.lookup a=some o/\o.cls=.type "tuple"/\o.data=.seq its n/\its.size<=sizeLine/\Vals xs its.toList
def DV:Value->Option V
 | .none=>some .non
 | .bool b=>some (.bl b)
 | .int i _=>some (.int i)
 | .str x _=>some (.str x)
 | .bytes b _=>some (.byt b)
 | .float b _=>some (.flt b)
 | .ref a=>some (.ref a)
 | .type n=>some (.ty n)
 | _=>none
def RelV.abs{x:V}{u:Value}(r:RelV x u):DV u=some x:=by
 cases x with
 | non=>cases r;rfl
 | bl _=>cases r;rfl
 | int _=>obtain⟨t,rfl⟩:=r;rfl
 | str _=>obtain⟨t,rfl⟩:=r;rfl
 | byt _=>obtain⟨t,rfl⟩:=r;rfl
 | flt _=>obtain⟨t,rfl⟩:=r;rfl
 | ref _=>cases r;rfl
 | ty _=>cases r;rfl
def RelV.inj{x y:V}{u:Value}(r:RelV x u)(q:RelV y u):x=y:=GQ (r.abs.symm.trans q.abs)
def Vals.inj:∀{xs ys:List V} {us:List Value},Vals xs us->Vals ys us->xs=ys
 | _,_,_,.nil,.nil=>rfl
 | _,_,_,.cons r t,.cons r' t'=>by rw[r.inj r',Vals.inj t t']
section
variable {X:Cx} {pins:List (Addr×Obj)} {σ:St} {H:Hp} {s:Shared} {a:Addr} {xs ys:List V}
def ag.of{K:F6}(h:H a=some (.lst xs)):ag K H a xs:=.inl (.inl h)
def aj.of{K:F6}(h:H a=some (.tup xs)):aj K H a xs:=.inl (.inl h)
def Inv.list(I:Inv X pins σ H s)(h:ag X.K H a xs):∃its:List Value,Vals xs its/\PlainL s.heap a its.toArray/\xs.length<=sizeLine:=by
 rcases h with h|⟨o,its,n,hk,hc,hd,hs,hz,r⟩
 ·obtain⟨z,its,n,r,e⟩:=h.ok I.hok;exact⟨its,r,⟨_,n,e,rfl,rfl,rfl⟩,z⟩
 ·refine⟨its.toList,r,⟨o,n,I.kIn a o hk,hc,hd,by simpa using hs⟩,?_⟩;have e:=r.length;simp only[Gf]at e;omega
def Inv.tuple(I:Inv X pins σ H s)(h:aj X.K H a xs):∃its:List Value,Vals xs its/\IsTup s.heap a its.toArray/\xs.length<=sizeLine:=by
 rcases h with h|⟨o,its,n,hk,hc,hs,hz,r⟩
 ·obtain⟨z,its,r,p⟩:=h.ok I.hok;exact⟨its,r,p,z⟩
 ·refine⟨its.toList,r,⟨o,I.kIn a o hk,hc,n,by simpa using hs⟩,?_⟩;have e:=r.length;simp only[Gf]at e;omega
def Inv.list_inj(I:Inv X pins σ H s)(h:ag X.K H a xs)(h':ag X.K H a ys):xs=ys:=by
 obtain⟨its,r,⟨o,n,e,_,_,d⟩,_⟩:=I.list h;obtain⟨its',r',⟨o',n',e',_,_,d'⟩,_⟩:=I.list h';rw[e]at e';cases e';rw[d]at d';injection d' with d1 _;have:its=its':=by simpa using congrArg Array.toList d1
 subst this;exact r.inj r'
def Inv.tuple_inj(I:Inv X pins σ H s)(h:aj X.K H a xs)(h':aj X.K H a ys):xs=ys:=by
 obtain⟨its,r,⟨o,e,_,n,d⟩,_⟩:=I.tuple h;obtain⟨its',r',⟨o',e',_,n',d'⟩,_⟩:=I.tuple h';rw[e]at e';cases e';rw[d]at d';injection d' with d1 _;have:its=its':=by simpa using congrArg Array.toList d1
 subst this;exact r.inj r'
end
abbrev Cx.wish(X:Cx)(E:Value->Shared->Prop):Cx:={ X with xe:=E }
abbrev Cx.nox(X:Cx):Cx:=X.wish λ_ _=>False
def Cx.Ok.wish{X:Cx}(ok:X.Ok)(E:Value->Shared->Prop):(X.wish E).Ok:=
 ⟨ok.mod,ok.kind,ok.glob,ok.blt,ok.above,ok.inj,ok.has,ok.cab,ok.hd,ok.frames,ok.stk,ok.exf,ok.bs,ok.bsz,ok.noex,ok.exfs,ok.funs,ok.frf⟩
def Cx.Ok.unwish{X:Cx}{E:Value->Shared->Prop}(ok:(X.wish E).Ok):X.Ok:=
 ⟨ok.mod,ok.kind,ok.glob,ok.blt,ok.above,ok.inj,ok.has,ok.cab,ok.hd,ok.frames,ok.stk,ok.exf,ok.bs,ok.bsz,ok.noex,ok.exfs,ok.funs,ok.frf⟩
section
variable {X:Cx} {pins:List (Addr×Obj)} {σ:St} {H:Hp} {s:Shared} {E:Value->Shared->Prop}
def Inv.wish(I:Inv X pins σ H s)(E:Value->Shared->Prop):Inv (X.wish E) pins σ H s:=⟨I.ok.wish E,I.os,I.bare,I.base,I.loc,I.cell,I.free,I.freeC,I.pin,I.hok,I.len⟩
def Inv.unwish(I:Inv (X.wish E) pins σ H s):Inv X pins σ H s:=⟨I.ok.unwish,I.os,I.bare,I.base,I.loc,I.cell,I.free,I.freeC,I.pin,I.hok,I.len⟩
def SP.unwish{D:Ends}{f:Flow}{s':Shared}(h:SP (X.wish E) pins D f s'):SP X pins D f s':=by
 cases f with
 | next=>obtain⟨σ',H',I,q⟩:=h;exact⟨σ',H',I.unwish,q⟩
 | brk=>obtain⟨σ',H',I,q⟩:=h;exact⟨σ',H',I.unwish,q⟩
 | cont=>obtain⟨σ',H',I,q⟩:=h;exact⟨σ',H',I.unwish,q⟩
 | ret u=>obtain⟨v,σ',H',I,r,q⟩:=h;exact⟨v,σ',H',I.unwish,r,q⟩
def b8.nox{st:List Stmt}{t:TS}(h:b8 X.nox st t):b8 X st t:=λpins s σ H D I hw=>
 wpAny_mono (h pins s σ H D (I.wish _) hw) (λ_ _ q=>q.unwish) λ_ _ z=>False.elim z
end
section
variable {X:Cx} {st:Stmt} {rest:List Stmt} {t u:TS} {e:Expr} {te:TE} {pos:Pos}
def yv:TS:=λD σ H=>D.nx σ H
def xN(t u:TS):TS:=λD σ H=>t { D with nx:=u D } σ H
def bf:b8 X [] yv:=λ_ _ σ H _ I h=>wpAny_execs_nil ⟨σ,H,I,h⟩
def ai(h1:PS X st t)(h2:b8 X rest u):b8 X (st::rest) (xN t u):=by
 intro pins s σ H D I h;refine wpAny_execs_cons (ax (h1 pins s σ H { D with nx:=u D } I h) λf s1 q=>?_);cases f with
 | next=>
  obtain⟨σ',H',I',q⟩:=q;exact h2 pins s1 σ' H' D I' q
 | ret v=>exact q
 | brk=>exact q
 | cont=>exact q
def aq(h1:PS X st t):b8 X [st] t:=by
 intro pins s σ H D I h;refine wpAny_execs_cons (ax (h1 pins s σ H D I h) λf s1 q=>?_);cases f with
 | next=>exact wpAny_execs_nil q
 | ret v=>exact q
 | brk=>exact q
 | cont=>exact q
def Inv.quiet{pins:List (Addr×Obj)}{σ:St}{H:Hp}{s:Shared}(I:Inv X pins σ H s):interactive X.env=false:=by simp[interactive,I.ok.kind]
def qP(te:TE):TS:=λD σ H=>te σ H λ_ H1=>D.nx σ H1
def br(he:PE X e te)(hs:swapsWith e none pos.line X.env=pure false:=by rfl):PS X (.Expr e pos) (qP te):=by intro pins s σ H D I h;exact wpAny_Expr_any (ax (he pins s σ H _ I h) λv s1 ⟨x,H1,I1,r1,q1⟩=>⟨σ,H1,I1,q1⟩) I.quiet hs
def sP(te:TE):TS:=λD σ H=>te σ H D.rt
def aI(he:PE X e te):PS X (.Return (some e) pos) (sP te):=by intro pins s σ H D I h;exact wpAny_Return_some (ax (he pins s σ H _ I h) λv s1 ⟨x,H1,I1,r1,q1⟩=>⟨x,σ,H1,I1,r1,q1⟩)
def sJ(c:TT)(t u:TS):TS:=λD σ H=>c σ H λb H1=>if b=true then t D σ H1 else u D σ H1
def bM{c:Expr}{a b:List Stmt}{tc:TT}(hc:PT X c tc)(ha:b8 X a t)(hb:b8 X b u):PS X (.If c a b pos) (sJ tc t u):=by
 intro pins s σ H D I h;refine wpAny_If (ax (hc pins s σ H _ I h) λd s1 ⟨H1,I1,q1⟩=>?_);cases d with
 | true=>exact ha pins s1 σ H1 D I1 q1
 | false=>exact hb pins s1 σ H1 D I1 q1
end
abbrev TG:=V->St->Hp->(St->Hp->Prop)->Prop
abbrev dA:=List V->St->Hp->(St->Hp->Prop)->Prop
def PG(X:Cx)(target:Expr)(t:TG):Prop:=
 ∀(pins:List (Addr×Obj)) (s:Shared) (σ:St) (H:Hp) (v:V) (u:Value) (Q:St->Hp->Prop),Inv X pins σ H s->RelV v u->t v σ H Q →
  wpAny (model X.prog X.w) X.A (assign target X.env u) (λ_ s'=>∃σ' H',Inv X pins σ' H' s'/\Q σ' H') X.xe s
def iO(X:Cx)(ts:List Expr)(t:dA):Prop:=
 ∀(pins:List (Addr×Obj)) (s:Shared) (σ:St) (H:Hp) (vs:List V) (us:List Value) (Q:St->Hp->Prop),Inv X pins σ H s->Vals vs us->t vs σ H Q →
  wpAny (model X.prog X.w) X.A (assignInOrder ((assignEach ts X.env).map (·.2)) us) (λ_ s'=>∃σ' H',Inv X pins σ' H' s'/\Q σ' H') X.xe s
abbrev kz:=V->V->V->Hp->(Hp->Prop)->Prop
def sk(X:Cx)(t:kz):Prop:=
 ∀(pins:List (Addr×Obj)) (s:Shared) (σ:St) (H:Hp) (o i v:V) (ov iv u:Value) (Q:Hp->Prop),Inv X pins σ H s->RelV o ov->RelV i iv->RelV v u->t o i v H Q →
  wpAny (model X.prog X.w) X.A (setItem ov iv u) (λ_ s'=>∃H',Inv X pins σ H' s'/\Q H') X.xe s
abbrev jx:=V->V->Hp->VK->Prop
def oK(X:Cx)(op:Operator)(t:jx):Prop:=
 ∀(pins:List (Addr×Obj)) (s:Shared) (σ:St) (H:Hp) (x y:V) (v u:Value) (Q:VK),Inv X pins σ H s->RelV x v->RelV y u->t x y H Q →
  wpAny (model X.prog X.w) X.A (inplaceOp op v u) (EP X pins σ Q) X.xe s
section
variable {X:Cx} {pos:Pos}
def i7(i:Nat):TG:=λv σ H Q=>Q (σ.set i (some v)) H
def aR{i:Nat}{x:Str}(hN:X.N.Nodup)(hi:X.N[i]?=some x)(hx:Loc X.env.scope x)(hf:X.fn x=true\/X.env.scope.names.lookup x=some .local:=by first|exact .inl rfl|exact .inr rfl|assumption):PG X (.Name x pos) (i7 i):=by intro pins s σ H v u Q I r h;exact wpAny_assign_Name (iz I hN hi hx r (λs' I'=>⟨_,H,I',h⟩) hf)
def rm:dA:=λvs σ H Q=>vs=[]/\Q σ H
def vt(t:TG)(u:dA):dA:=λvs σ H Q=>∃v r,vs=v::r/\t v σ H λσ' H'=>u r σ' H' Q
def hG:iO X [] rm:=by intro pins s σ H vs us Q I r h;obtain⟨e,h⟩:=h;subst e;cases r;exact assignInOrder_nil ⟨σ,H,I,h⟩
def cQ{e:Expr}{es:List Expr}{t:TG}{u:dA}(h1:PG X e t)(h2:iO X es u)
  (hs:(assignEach (e::es) X.env).map (·.2)=assign e X.env::(assignEach es X.env).map (·.2):=by rfl):iO X (e::es) (vt t u):=by
 intro pins s σ H vs us Q I r h;obtain⟨v,vr,e1,h⟩:=h;subst e1;cases r with
 | cons r rr=>
  rw[hs];refine assignInOrder_cons (ax (h1 pins s σ H _ _ _ I r h) λ_ s1 ⟨σ1,H1,I1,q1⟩=>?_);exact h2 pins s1 σ1 H1 _ _ Q I1 rr q1
def nG(K:F6)(n:Nat)(t:dA):TG:=λv σ H Q=>∃a xs,v=.ref a/\aj K H a xs/\xs.length=n/\t xs σ H Q
def Eh{es:List Expr}{k:Nat}{t:dA}{n:Nat}(hc:X.calm=true)(h:iO X es t)
  (hn:(assignEach es X.env).length=n:=by rfl) (hst:(assignEach es X.env).findIdx? (·.1)=none:=by rfl):PG X (.Tuple es k pos) (nG X.K n t):=by
 intro pins s σ H v u Q I r hw;obtain⟨a,xs,e1,hq,hl,hw⟩:=hw;subst e1;cases r;obtain⟨its,rv,ht,hz⟩:=I.tuple hq;refine assign_Tuple_tuple (I.ok.hd hc) ht (by simp[hn,←hl,rv.length]) hst λh' hx=>?_;have I1:Inv X pins σ H { s with heap:=h' }:=I.kept (t':=s.toks) λb o e=>hx b o (Gv (F9 e)) e;exact h pins _ σ H xs _ Q I1 (by simpa using rv) hw
def uD(to ti:TE)(t:kz):TG:=λv σ H Q=>to σ H λo H1=>ti σ H1 λi H2=>t o i v H2 λH3=>Q σ H3
def jN{o i:Expr}{to ti:TE}{t:kz}(ho:PE X o to)(hi:PE X i ti)(hs:sk X t)
  (ha:∀v,assign (.Subscript o i pos) X.env v=(do
   let ov ←holding [v] (eval o X.env);let iv ←holding [v,ov] (eval i X.env)
   standAt pos
   holding [v,ov,iv] (setItem ov iv v)
   release [v,ov,iv] []):=by intro _;rfl):PG X (.Subscript o i pos) (uD to ti t):=by
 intro pins s σ H v u Q I r h;rw[ha];refine F4 (wpAny_holding (ax (ho pins s σ H _ I h) λov s1 ⟨x,H1,I1,r1,q1⟩=>?_));refine F4 (wpAny_holding (ax (hi pins s1 σ H1 _ I1 q1) λiv s2 ⟨y,H2,I2,r2,q2⟩=>?_));refine F4 (wpAny_standAt (F4 (wpAny_holding (ax (hs pins s2 σ H2 x y v ov iv u _ I2 r1 r2 r q2) λ_ s3 ⟨H3,I3,q3⟩=>?_))));exact wpAny_release ⟨σ,H3,I3,q3⟩
def lI(te:TE)(g:TG):TS:=λD σ H=>te σ H λx H1=>g x σ H1 D.nx
def fZ{tg e:Expr}{te:TE}{g:TG}(he:PE X e te)(hg:PG X tg g)(hs:swapsWithSole [tg] e pos.line X.env=pure false:=by rfl)(hw:swappedStores [tg] e X.env=pure none:=by rfl)
  (h1:(assignEach [tg] X.env).map (·.2)=[assign tg X.env]:=by rfl):PS X (.Assign [tg] e pos) (lI te g):=by
 intro pins s σ H D I h;refine wpAny_Assign_stores (ax (he pins s σ H _ I h) λv s1 ⟨x,H1,I1,r1,q1⟩=>?_) hs hw;rw[h1];exact ax (hg pins s1 σ H1 x v _ I1 r1 q1) λ_ s2 q=>q
def aD{i:Nat}{x:Str}{e:Expr}{te:TE}{pos':Pos}(hN:X.N.Nodup)(hi:X.N[i]?=some x)(hx:Loc X.env.scope x)(he:PE X e te)(hs:swapsWith e (some (.Name x pos')) pos.line X.env=pure false:=by rfl)(hf:X.fn x=true\/X.env.scope.names.lookup x=some .local:=by first|exact .inl rfl|exact .inr rfl|assumption):
  PS X (.Assign [.Name x pos'] e pos) (lI te (i7 i)):=by
 intro pins s σ H D I h;refine wpAny_Assign_Name (ax (he pins s σ H _ I h) λv s1 ⟨y,H1,I1,r1,q1⟩=>?_) hs;exact iz I1 hN hi hx r1 (λs2 I2=>⟨_,H1,I2,q1⟩) hf
def yy(i j:Nat)(ta:TA):TS:=λD σ H=>ta σ H λvs H1=>∃v w,vs=[v,w]/\D.nx ((σ.set i (some v)).set j (some w)) H1
def ux{i j:Nat}{x y:Str}{a b:Expr}{ta:TA}{px py pt:Pos}{kt k2 pt2}(hc:X.calm=true)(hN:X.N.Nodup)(hi:X.N[i]?=some x)(hj:X.N[j]?=some y)(hij:i≠j)
  (hx:X.env.scope.names.lookup x=some .local) (hy:X.env.scope.names.lookup y=some .local) (ha:PA X [a,b] ta)
  (hw:swappedStores [.Tuple [.Name x px,.Name y py] kt pt] (.Tuple [a,b] k2 pt2) X.env=pure (some [x,y]))
  (hs:swapsWithSole [.Tuple [.Name x px,.Name y py] kt pt] (.Tuple [a,b] k2 pt2) pos.line X.env=pure false:=by rfl) :
  PS X (.Assign [.Tuple [.Name x px,.Name y py] kt pt] (.Tuple [a,b] k2 pt2) pos) (yy i j ta):=by
 intro pins s σ H D I h;rw[exec_Assign_arm];refine F4 (wpAny_standAt ?_);rw[hs];refine F4 (F5 ?_);rw[He (by decide)];refine F4 (Tuple_ (ax (ha _ pins s σ H _ I h) λus s1 ⟨vs,H1,I1,r1,q1⟩=>?_));obtain⟨v,w,e1,q1⟩:=q1;subst e1;obtain⟨u1,u2,rfl,rv,rw'⟩:∃u1 u2,us=[u1,u2]/\RelV v u1/\RelV w u2:=by
  cases r1 with
  | cons p q=>
   cases q with
   | cons p' q'=>
    cases q';exact⟨_,_,rfl,p,p'⟩
 refine wpAny_newObj_type ?_ (by show 2<=sizeLine;decide);have I2:Inv X pins σ H1 { s1 with heap:=s1.heap.push { cls:=.type "tuple",data:=.seq [u1,u2].toArray } }:=I1.kept (t':=s1.toks) λb o e=>F7 _ e;rw[hw];refine F4 (F5 ?_);show wpAny (model X.prog X.w) X.A (do rule "assign.swapped-stores";let items ←unpackItems (.ref s1.heap.objs.size) 2 none;assignInOrder [λv=>bindName X.env y v,λv=>bindName X.env x v] items.reverse;pure Flow.next) _ _ _;refine F4 (wpAny_rule (F4 (unpackItems_tuple (items:=#[u1,u2]) (I.ok.hd hc) (IsTup.new s1.heap _) λh' hx'=>?_)));have I3:=I2.kept (h':=h') (t':=s1.toks) λb o e=>hx' b o (Gv (F9 e)) e;show wpAny _ _ (assignInOrder [λv=>bindName X.env y v,λv=>bindName X.env x v] [u2,u1] >>= λ_=>pure Flow.next) _ _ _;refine F4 (assignInOrder_cons (wpAny_bindName (iz I3 hN hj (.inl hy) rw' (λs2 I4=>?_) (.inr hy))));refine assignInOrder_cons (wpAny_bindName (iz I4 hN hi (.inl hx) rv (λs3 I5=>assignInOrder_nil (F5 ?_)) (.inr hx)));rw[List.set_comm _ _ (Ne.symm hij)]at I5;exact⟨_,H1,I5,q1⟩
def xl(i:Nat)(te:TE)(ti:jx):TS:=λD σ H=>∃x,σ[i]?=some (some x)/\te σ H λy H1=>ti x y H1 λz H2=>D.nx (σ.set i (some z)) H2
def j6{i:Nat}{x:Str}{e:Expr}{te:TE}{op:Operator}{ti:jx}{pos':Pos}(hN:X.N.Nodup)(hi:X.N[i]?=some x)(hx:Loc X.env.scope x)(he:PE X e te)(ho:oK X op ti)(hf:X.fn x=true\/X.env.scope.names.lookup x=some .local:=by first|exact .inl rfl|exact .inr rfl|assumption):
  PS X (.AugAssign (.Name x pos') op e pos) (xl i te ti):=by
 intro pins s σ H D I h;obtain⟨v,e1,h⟩:=h;obtain⟨m,hn,hl⟩:=I.loc;have vis:lx X.env.scope x:=by rcases hx with k|k;exact .inl k;exact .inr (.inl k)
 obtain⟨u,r,l⟩:=hl i x v hi e1 vis;refine wpAny_AugAssign_Name ?_;have go:wpAny (model X.prog X.w) X.A (eval e X.env) (λw s₂=>wpAny (model X.prog X.w) X.A (inplaceOp op u w) (λr s₃=>wpAny (model X.prog X.w) X.A (storeName X.env x r) (λ_=>SP X pins D .next) X.xe s₃) X.xe s₂) X.xe s:=by refine ax (he pins s σ H _ I h) λw s1 ⟨y,H1,I1,r1,q1⟩=>?_;refine ax (ho pins s1 σ H1 v y u w _ I1 r r1 q1) λz s2 ⟨zv,H2,I2,r2,q2⟩=>?_;exact iz I2 hN hi hx r2 (λs3 I3=>⟨_,H2,I3,q2⟩) hf
 rcases l with⟨hk,hm⟩|⟨hk,c,hc,hcell⟩
 ·exact wpAny_loadName_local I.ok.kind hk hn hm go
 ·rcases hk with hk|hk
  ·exact wpAny_loadName_cell I.ok.kind hk hc hcell go
  ·rcases hx with k|k
   ·have:X.env.scope.names.lookup x=some .free:=hk;rw[k]at this;cases this
   ·have:X.env.scope.names.lookup x=some .free:=hk;rw[k]at this;cases this
def oo(f:Int->Int->Int):jx:=λx y H Q=>∃i j,x=.int i/\y=.int j/\Q (.int (f i j)) H
def pY:oK X .Add (oo λi j=>i+j):=by intro pins s σ H x y v u Q I r1 r2 h;obtain⟨i,j,e1,e2,q⟩:=h;subst e1;subst e2;obtain⟨t,rfl⟩:=r1;obtain⟨t',rfl⟩:=r2;exact iadd_int ⟨.int _,H,I.tok _,⟨_,rfl⟩,q⟩
def Cg:oK X .Sub (oo λi j=>i-j):=by intro pins s σ H x y v u Q I r1 r2 h;obtain⟨i,j,e1,e2,q⟩:=h;subst e1;subst e2;obtain⟨t,rfl⟩:=r1;obtain⟨t',rfl⟩:=r2;exact isub_int ⟨.int _,H,I.tok _,⟨_,rfl⟩,q⟩
def CL(c:TT)(tb:TS):TS:=λD σ H=>∃W:Nat->St->Hp->Prop,(∃m,W m σ H)/\∀m σ H,W m σ H →
 c σ H λb H1=>if b=true then ∃N:St->Hp->Prop,(∀σ' H',N σ' H'->∃m',m'<m/\W m' σ' H')/\tb { D with nx:=N,ct:=N,bk:=D.nx } σ H1 else D.nx σ H1
def ES{c:Expr}{body:List Stmt}{tc:TT}{tb:TS}(hp:PassesOwn (model X.prog X.w) X.A X.env X.xe)(hc:PT X c tc)(hb:b8 X body tb):PS X (.While c body [] pos) (CL tc tb):=by
 intro pins s σ H D I h;obtain⟨W,⟨m0,w0⟩,turn⟩:=h;refine wpAny_While (codeAny_whileLoop (λn s'=>∃σ' H',Inv X pins σ' H' s'/\W n σ' H') ?_ m0 ⟨σ,H,I,w0⟩);rintro n s1 ⟨σ1,H1,I1,w1⟩;refine wpAny_passesOwn hp (ax (hc pins s1 σ1 H1 _ I1 (turn n σ1 H1 w1)) λb s2 ⟨H2,I2,q2⟩=>?_);cases b with
 | true=>
  obtain⟨N,hN,q2⟩:=q2;rw[Hf rfl];refine wpAny_passesOwn hp (ax (hb pins s2 σ1 H2 _ I2 q2) λf s3 q3=>?_);cases f with
  | next=>
   obtain⟨σ3,H3,I3,n3⟩:=q3;obtain⟨m',hm,w3⟩:=hN σ3 H3 n3;exact⟨m',hm,σ3,H3,I3,w3⟩
  | cont=>
   obtain⟨σ3,H3,I3,n3⟩:=q3;obtain⟨m',hm,w3⟩:=hN σ3 H3 n3;exact⟨m',hm,σ3,H3,I3,w3⟩
  | brk=>exact q3
  | ret v=>exact q3
 | false=>
  rw[He Gr];exact wpAny_execs_nil ⟨σ1,H2,I2,q2⟩
end
structure It where
 go:Nat->Hp->Prop
 yld:Nat->Hp->V->Hp->Prop
 stop:Nat->Hp->Prop
def cN(X:Cx)(pins:List (Addr×Obj))(H:Hp)(b:Addr):Prop:=
 H b=none/\b≠X.env.locals/\b∉X.fs/\(b∈X.ex\/X.s₀.heap.objs.size<=b)/\(∀x c,X.env.cells.lookup x=some c->c≠b)/\∀p∈X.pn++pins,p.1≠b
def Inv.fpOk{X:Cx}{pins:List (Addr×Obj)}{σ:St}{H H':Hp}{s:Shared}{b:Addr}(I:Inv X pins σ H s)(hb:s.heap.objs.size<=b)(hn:H' b=none):cN X pins H' b:=by
 refine⟨hn,Nat.ne_of_gt (GH I.lt hb),I.nofs hb,.inr (GI I.sz hb),λx c e z=>?_,λp hp z=>?_⟩
 ·obtain⟨v,q⟩:=I.cell x c e;exact absurd (GH q.lt (by rw[z];exact hb)) (Nat.lt_irrefl _)
 ·exact absurd (GH (F9 (I.pin p hp).1) (by rw[z];exact hb)) (Nat.lt_irrefl _)
structure Turn(P:Program)(w:World)(K:F6)(tg:Expr)(J:It)(fp:List Addr)(it:Addr)(tn:Nat->Heap->Prop):Prop where
 mem:it∈fp
 obj:∀i h,tn i h->∀b∈fp,∃o,h.get? b=some o/\∀v,o.data≠.cell v
 keep:∀i h h',tn i h->(∀b∈fp,∀o,h.get? b=some o->h'.get? b=some o)->tn i h'
 item:∀(X:Cx),X.prog=P->X.w=w->X.K=K->X.calm=true->∀(i:Nat) (pins:List (Addr×Obj)) (s:Shared) (σ:St) (H:Hp) (E:Value->Shared->Prop),Inv X pins σ H s->(∀b∈fp,cN X pins H b)->tn i s.heap->J.go i H →
  wpAny (model P w) X.A (pyNext (.ref it)) (λr s1=>∃u,r=some u ∧
   wpAny (model P w) X.A (letOwnedTupleGo tg (.ref it) u) (λ_ s2=>∃x H',Inv X pins σ H' s2/\RelV x u/\J.yld i H x H'/\tn (i+1) s2.heap/\∀b∈fp,H' b=none) E s1) E s
 done:∀(X:Cx),X.prog=P->X.w=w->X.K=K->X.calm=true->∀(i:Nat) (pins:List (Addr×Obj)) (s:Shared) (σ:St) (H:Hp) (E:Value->Shared->Prop),Inv X pins σ H s->(∀b∈fp,cN X pins H b)->tn i s.heap->J.stop i H →
  wpAny (model P w) X.A (pyNext (.ref it)) (λr s1=>r=none/\Inv X pins σ H s1) E s
 self:∀(A:Around) (i:Nat) (s:Shared) (Q:Value->Shared->Prop) (E:Value->Shared->Prop),tn i s.heap->Q (.ref it) s->wpAny (model P w) A (pyIter (.ref it)) Q E s
abbrev TI:=St->Hp->(It->Hp->Prop)->Prop
def xY(X:Cx)(pins:List (Addr×Obj))(σ:St)(tg:Expr)(R:It->Hp->Prop)(itv:Value)(s2:Shared):Prop:=
 ∃(it:Addr) (fp:List Addr) (tn:Nat->Heap->Prop) (J:It) (H':Hp),itv=.ref it/\Inv X pins σ H' s2/\Turn X.prog X.w X.K tg J fp it tn/\tn 0 s2.heap/\(∀b∈fp,cN X pins H' b)/\R J H'
def PI(X:Cx)(tg iter:Expr)(wi:TI):Prop:=
 ∀(pins:List (Addr×Obj)) (s:Shared) (σ:St) (H:Hp) (R:It->Hp->Prop),Inv X pins σ H s->wi σ H R →
  wpAny (model X.prog X.w) X.A (eval iter X.env) (λv s1=>wpAny (model X.prog X.w) X.A (pyIter v) (xY X pins σ tg R) X.xe s1) X.xe s
def mD {M : Model} {A : Around} {E : Value → Shared → Prop} {s : Shared} {tg : Expr} {it : Addr} {u : Value} {o : Obj} {n : String} {vs : Array Value} {Q : Unit → Shared → Prop} (ho : s.heap.get? it = some o) (hc : o.cls = .type n) (hd : o.data = .fields vs)
    (hn : ["enumerate", "zip", "dict_itemiterator", "dict_reverseitemiterator", "odict_iterator", "itertools.zip_longest", "itertools.pairwise"].contains n = false) (hQ : Q () s) : wpAny M A (letOwnedTupleGo tg (.ref it) u) Q E s := by
  unfold letOwnedTupleGo;cases tg <;> first
    | exact F5 hQ
    | (cases u <;> first
        | exact F5 hQ
        | (refine F4 (wpAny_load ho ?_)
           rw [hc, hd];show wpAny M A (if (["enumerate", "zip", "dict_itemiterator", "dict_reverseitemiterator", "odict_iterator", "itertools.zip_longest", "itertools.pairwise"].contains n && vs[0]? == some (rawInt _)) = true then _ else _) Q E s;rw [He (by intro h; rw [hn, Bool.false_and] at h; cases h)];exact F5 hQ))
def fB(K:F6)(a:Addr):It:=
 ⟨λi H=>∃xs x,ag K H a xs/\xs[i]?=some x,λi H x H'=>H'=H/\∀xs,ag K H a xs->xs[i]?=some x,λi H=>∃xs,ag K H a xs/\xs.length<=i⟩
def dU(K:F6)(a:Addr):It:=
 ⟨λi H=>∃xs x,aj K H a xs/\xs[i]?=some x,λi H x H'=>H'=H/\∀xs,aj K H a xs->xs[i]?=some x,λi H=>∃xs,aj K H a xs/\xs.length<=i⟩
def dv(lo:Int)(n:Nat):It:=⟨λi _=>i<n,λi H x H'=>H'=H/\x=.int (lo+i),λi _=>n<=i⟩
def EX{P:Program}{w:World}{K:F6}{tg:Expr}(a it:Addr):Turn P w K tg (fB K a) [it] it (λi h=>h.IsListIter it a i) where
 mem:=by simp
 obj:=λi h st b hb=>by
  have e:b=it:=by simpa using hb
  subst e;obtain⟨o,e,c,d⟩:=st;exact⟨o,e,λv z=>by rw[d]at z;cases z⟩
 keep:=λi h h' st k=>st.at λo e=>k it (by simp) o e
 item:=by intro X hP hw hK hc i pins s σ H E I hf st hg;subst hP hw hK;obtain⟨xs,x,hq,hx⟩:=hg;obtain⟨its,rv,p,hz⟩:=I.list hq;obtain⟨u,hu,ru⟩:=rv.get hx;obtain⟨f0,f1,f2,f3,f4,f5⟩:=hf it (by simp);refine wpAny_pyNext_list_item st p.isList (x:=u) (by simpa using hu) λh' st' sb=>?_;have I1:Inv X pins σ H { s with heap:=h' }:=I.turned (t':=s.toks) (λb o hb e=>(sb.2 b hb).trans e) f0 f1 f3 f4 f5;obtain⟨o,e,c,d⟩:=id st';exact⟨u,rfl,mD (s:={ s with heap:=h' }) e c d (by decide) ⟨x,H,I1,ru,⟨rfl,λys hy=>by rw[I.list_inj hy hq];exact hx⟩,st',λb hb=>(hf b hb).1⟩⟩
 done:=by intro X hP hw hK hc i pins s σ H E I hf st hg;subst hP hw hK;obtain⟨xs,hq,hx⟩:=hg;obtain⟨its,rv,p,hz⟩:=I.list hq;obtain⟨f0,f1,f2,f3,f4,f5⟩:=hf it (by simp);have hl:=rv.length;exact wpAny_pyNext_list_end (I.ok.hd hc) st p.isList (by simp;omega) λh' eb=>⟨rfl,I.turned (t':=s.toks) (λb o hb e=>eb b o hb e) f0 f1 f3 f4 f5⟩
 self:=λ_ _ _ _ _ st h=>wpAny_pyIter_listiter st h
def EV{P:Program}{w:World}{K:F6}{tg:Expr}(a it:Addr):Turn P w K tg (dU K a) [it] it (λi h=>h.IsTupleIter it a i) where
 mem:=by simp
 obj:=λi h st b hb=>by
  have e:b=it:=by simpa using hb
  subst e;obtain⟨o,e,c,d⟩:=st;exact⟨o,e,λv z=>by rw[d]at z;cases z⟩
 keep:=λi h h' st k=>st.at λo e=>k it (by simp) o e
 item:=by intro X hP hw hK hc i pins s σ H E I hf st hg;subst hP hw hK;obtain⟨xs,x,hq,hx⟩:=hg;obtain⟨its,rv,p,hz⟩:=I.tuple hq;obtain⟨u,hu,ru⟩:=rv.get hx;obtain⟨f0,f1,f2,f3,f4,f5⟩:=hf it (by simp);refine wpAny_pyNext_tuple_item st (show s.heap.IsTuple a its.toArray from p) (x:=u) (by simpa using hu) λh' st' sb=>?_;have I1:Inv X pins σ H { s with heap:=h' }:=I.turned (t':=s.toks) (λb o hb e=>(sb.2 b hb).trans e) f0 f1 f3 f4 f5;obtain⟨o,e,c,d⟩:=id st';exact⟨u,rfl,mD (s:={ s with heap:=h' }) e c d (by decide) ⟨x,H,I1,ru,⟨rfl,λys hy=>by rw[I.tuple_inj hy hq];exact hx⟩,st',λb hb=>(hf b hb).1⟩⟩
 done:=by intro X hP hw hK hc i pins s σ H E I hf st hg;subst hP hw hK;obtain⟨xs,hq,hx⟩:=hg;obtain⟨its,rv,p,hz⟩:=I.tuple hq;obtain⟨f0,f1,f2,f3,f4,f5⟩:=hf it (by simp);have hl:=rv.length;exact wpAny_pyNext_tuple_end (I.ok.hd hc) st (show s.heap.IsTuple a its.toArray from p) (by simp;omega) λh' eb=>⟨rfl,I.turned (t':=s.toks) (λb o hb e=>eb b o hb e) f0 f1 f3 f4 f5⟩
 self:=λ_ _ _ _ _ st h=>wpAny_pyIter_tupleiter st h
def Cv{P:Program}{w:World}{K:F6}{tg:Expr}(it:Addr)(lo:Int)(n:Nat):Turn P w K tg (dv lo n) [it] it (λi h=>IsRangeIter h it (lo+(i:Nat)*1) ((n:Int)-(i:Nat)) 1) where
 mem:=by simp
 obj:=λi h st b hb=>by
  have e:b=it:=by simpa using hb
  subst e;exact⟨_,st,λv z=>by have z':Data.fields _=Data.cell v:=z;cases z'⟩
 keep:=λi h h' st k=>k it (by simp) _ st
 item:=by intro X hP hw hK hc i pins s σ H E I hf st hg;subst hP hw hK;obtain⟨f0,f1,f2,f3,f4,f5⟩:=hf it (by simp);have W:=Walks.range (prog:=X.prog) (w:=X.w) (I.ok.hd hc) it lo 1 n;refine W.item i s _ _ hg st λv h' tk hv st' kk=>?_;obtain⟨t,rfl⟩:=hv;have I1:Inv X pins σ H { s with heap:=h',toks:=tk }:=I.turned (λb o hb e=>kk b o (by simpa using hb) e) f0 f1 f3 f4 f5;refine⟨_,rfl,mD (s:={ s with heap:=h',toks:=tk }) (n:="range_iterator") st' rfl rfl (by decide) ⟨.int (lo+i),H,I1,⟨t,?_⟩,⟨rfl,rfl⟩,st',λb hb=>(hf b hb).1⟩⟩;rw[Int.mul_one]
 done:=by intro X hP hw hK hc i pins s σ H E I hf st hg;subst hP hw hK;obtain⟨f0,f1,f2,f3,f4,f5⟩:=hf it (by simp);exact wpAny_pyNext_range_end (I.ok.hd hc) st (by have:n<=i:=hg;omega) λh' eb=>⟨rfl,I.turned (t':=s.toks) (λb o hb e=>eb b o hb e) f0 f1 f3 f4 f5⟩
 self:=λ_ _ _ _ _ st h=>wpAny_pyIter_rangeiter st h
section
variable {X:Cx} {tg:Expr}
def lY(K:F6)(tl:TE):TI:=λσ H R=>tl σ H λx H1=>∃a,x=.ref a/\(∃xs,ag K H1 a xs)/\R (fB K a) H1
def ow(K:F6)(tl:TE):TI:=λσ H R=>tl σ H λx H1=>∃a,x=.ref a/\(∃xs,aj K H1 a xs)/\R (dU K a) H1
def FV{l:Expr}{tl:TE}(hl:PE X l tl):PI X tg l (lY X.K tl):=by
 intro pins s σ H R I h;refine ax (hl pins s σ H _ I h) λv s1 ⟨x,H1,I1,r1,q1⟩=>?_;obtain⟨a,e,⟨xs,hq⟩,q⟩:=q1;subst e;cases r1;obtain⟨its,rv,p,hz⟩:=I1.list hq;refine wpAny_pyIter_list p.isList ?_;refine⟨s1.heap.objs.size,[s1.heap.objs.size],_,_,H1,rfl,I1.kept (t':=s1.toks) λb o e=>F7 _ e,EX a _,⟨_,F8 _ rfl,rfl,rfl⟩,λb hb=>?_,q⟩;have e:b=s1.heap.objs.size:=by simpa using hb
 subst e;exact I1.fpOk (Gw _) (I1.hok.fresh (Gw _))
def FK{l:Expr}{tl:TE}(hl:PE X l tl):PI X tg l (ow X.K tl):=by
 intro pins s σ H R I h;refine ax (hl pins s σ H _ I h) λv s1 ⟨x,H1,I1,r1,q1⟩=>?_;obtain⟨a,e,⟨xs,hq⟩,q⟩:=q1;subst e;cases r1;obtain⟨its,rv,p,hz⟩:=I1.tuple hq;refine wpAny_pyIter_tuple (show s1.heap.IsTuple a its.toArray from p) ?_;refine⟨s1.heap.objs.size,[s1.heap.objs.size],_,_,H1,rfl,I1.kept (t':=s1.toks) λb o e=>F7 _ e,EV a _,⟨_,F8 _ rfl,rfl,rfl⟩,λb hb=>?_,q⟩;have e:b=s1.heap.objs.size:=by simpa using hb
 subst e;exact I1.fpOk (Gw _) (I1.hok.fresh (Gw _))
def vb{pins:List (Addr×Obj)}{σ:St}{H:Hp}{s:Shared}{R:It->Hp->Prop}{E:Value->Shared->Prop}{lo hi:Int}{t u v:Tok}{tk:Nat}(I:Inv X pins σ H s)(h1:-(2 ^ 62)<=lo)(h2:lo<2 ^ 62)(h3:-(2 ^ 62)<=hi)(h4:hi<2 ^ 62)
  (q:R (dv lo (hi-lo).toNat) H):wpAny (model X.prog X.w) X.A (pyIter (.ref s.heap.objs.size)) (xY X pins σ tg R) E { s with heap:=s.heap.push { cls:=.type "range",data:=.fields #[.int lo t,.int hi u,.int 1 v] },toks:=tk }:=by
 refine wpAny_pyIter_range (IsRange.new ..) (small_one h1 h2 h3 h4) ?_;have I1:Inv X pins σ H { s with heap:=s.heap.push { cls:=.type "range",data:=.fields #[.int lo t,.int hi u,.int 1 v] },toks:=tk }:=I.kept λb o e=>F7 _ e;refine⟨(s.heap.push { cls:=.type "range",data:=.fields #[.int lo t,.int hi u,.int 1 v] }).objs.size,[(s.heap.push { cls:=.type "range",data:=.fields #[.int lo t,.int hi u,.int 1 v] }).objs.size],_,_,H,rfl,
  I1.kept (t':=tk) λb o e=>F7 _ e,Cv _ lo (hi-lo).toNat,?_,λb hb=>?_,q⟩
 ·have e1:lo+((0:Nat):Int)*1=lo:=by simp
  have e2:(((hi-lo).toNat:Nat):Int)-((0:Nat):Int)=Builtin.Range.rangeSize lo hi 1:=by rw[rangeSize_one];split<;>omega
  show IsRangeIter _ _ (lo+((0:Nat):Int)*1) ((((hi-lo).toNat:Nat):Int)-((0:Nat):Int)) 1;rw[e1,e2];exact F8 _ rfl
 ·have e:b=(s.heap.push { cls:=.type "range",data:=.fields #[.int lo t,.int hi u,.int 1 v] }).objs.size:=by simpa using hb
  subst e;exact I1.fpOk (Gw _) (I1.hok.fresh (Gw _))
def qO(ta:TA):TI:=λσ H R=>ta σ H λvs H1=>∃j:Int,vs=[.int j]/\-(2 ^ 62)<=j/\j<2 ^ 62/\R (dv 0 j.toNat) H1
def vD(ta:TA):TI:=λσ H R=>ta σ H λvs H1=>∃i j:Int,vs=[.int i,.int j]/\(-(2 ^ 62)<=i/\i<2 ^ 62/\-(2 ^ 62)<=j/\j<2 ^ 62)/\R (dv i (j-i).toNat) H1
def cq{a:Expr}{ta:TA}{p pos:Pos}(hg:Gl X "range")(hm:X.mg "range" = none)(ha:PA X [a] ta)(hs:starEach [a] X.env=[(false,eval a X.env)]:=by rfl):PI X tg (.Call (.Name "range" p) [a] [] pos) (qO ta):=by
 intro pins s σ H R I h;refine Call_ (fV I hg hm boot_range (PyProof.Rows.callWith_type1 (ax (ha pos pins s σ H _ I h) λus s1 ⟨vs,H1,I1,r1,q1⟩=>?_) hs rfl));obtain⟨j,e,q1,q2,q⟩:=q1;subst e;cases r1 with
 | cons r rr=>
  cases rr;obtain⟨t,rfl⟩:=r;exact call_range_1 (vb I1 (by omega) (by omega) q1 q2 (by simpa using q))
def A8{a b:Expr}{ta:TA}{p pos:Pos}(hg:Gl X "range")(hm:X.mg "range" = none)(ha:PA X [a,b] ta)(hs:starEach [a,b] X.env=[(false,eval a X.env),(false,eval b X.env)]:=by rfl)(hs2:starEach [b] X.env=[(false,eval b X.env)]:=by rfl):
  PI X tg (.Call (.Name "range" p) [a,b] [] pos) (vD ta):=by
 intro pins s σ H R I h;refine Call_ (fV I hg hm boot_range (PyProof.Rows.callWith_type1 (ax (ha pos pins s σ H _ I h) λus s1 ⟨vs,H1,I1,r1,q1⟩=>?_) (by rw[hs,hs2]) (by rw[hs2];rfl)));obtain⟨i,j,e,⟨q1,q2,q3,q4⟩,q⟩:=q1;subst e;cases r1 with
 | cons r rr=>
  cases rr with
  | cons r' rr=>
   cases rr;obtain⟨t,rfl⟩:=r;obtain⟨t',rfl⟩:=r';exact call_range_2 (vb I1 q1 q2 q3 q4 q)
def uk(wi:TI)(g:TG)(tb:TS):TS:=λD σ H=>wi σ H λJ H1=>∃W:Nat->Nat->St->Hp->Prop,(∃m,W 0 m σ H1)/\∀i m σ H,W i m σ H →
 (J.stop i H/\D.nx σ H)\/(J.go i H/\∃N:St->Hp->Prop,(∀σ' H',N σ' H'->∃m',m'<m/\W (i+1) m' σ' H')/\∀x H',J.yld i H x H'->g x σ H' λσ2 H2=>tb { D with nx:=N,ct:=N,bk:=D.nx } σ2 H2)
def f9(fp:List Addr)(h:Heap):List (Addr×Obj):=fp.filterMap λb=>(h.get? b).map λo=>(b,o)
def ng{fp:List Addr}{h:Heap}{b:Addr}{o:Obj}(hb:b∈fp)(e:h.get? b=some o):(b,o)∈f9 fp h:=List.mem_filterMap.mpr ⟨b,hb,by rw[e];rfl⟩
def xH{fp:List Addr}{h:Heap}{p:Addr×Obj}(hp:p∈f9 fp h):p.1∈fp/\h.get? p.1=some p.2:=by
 obtain⟨b,hb,e⟩:=List.mem_filterMap.mp hp;cases q:h.get? b with
 | none=>rw[q]at e;cases e
 | some o=>
  rw[q]at e;have e':(b,o)=p:=GQ e;subst e';exact⟨hb,q⟩
def Inv.pinned{pins:List (Addr×Obj)}{σ:St}{H:Hp}{s:Shared}{fp:List Addr}(I:Inv X pins σ H s)(hf:∀b∈fp,cN X pins H b)(ho:∀b∈fp,∃o,s.heap.get? b=some o/\∀v,o.data≠.cell v):Inv X (pins++f9 fp s.heap) σ H s:=
 I.pins_of λp hp=>(Gz.mp hp).elim (λz=>I.pin p (GR _ z)) λz=>by obtain⟨hb,e⟩:=xH z;obtain⟨f0,f1,f2,_⟩:=hf p.1 hb;obtain⟨o,e',d⟩:=ho p.1 hb;rw[e]at e';cases e';exact⟨e,f0,f1,f2,d⟩
def Inv.unpinned{pins pl:List (Addr×Obj)}{σ:St}{H:Hp}{s:Shared}(I:Inv X (pins++pl) σ H s):Inv X pins σ H s:=I.pins_of λp hp=>I.pin p (GR _ (GS _ hp))
def bD{iter:Expr}{body:List Stmt}{wi:TI}{g:TG}{tb:TS}{pos:Pos}(hp:PassesOwn (model X.prog X.w) X.A X.env X.xe)(hc:X.calm=true)(hi:PI X tg iter wi)(hg:PG X tg g)(hb:b8 X body tb)
  (hs:∀x,foldedSetIterable iter X.env x=pure x:=by intro _;rfl):PS X (.For tg iter body [] pos) (uk wi g tb):=by
 intro pins s σ H D I h;refine wpAny_For (ax (hi pins s σ H _ I h) λv s1 h1=>ax h1 λitv s2 h2=>?_) hs;obtain⟨it,fp,tn,J,H2,e,I2,T,st2,f2,W,⟨m0,w0⟩,turn⟩:=h2;subst e;have stat:∀{H':Hp},(∀b∈fp,H' b=none)->∀b∈fp,cN X pins H' b:=λhn b hb=>⟨hn b hb,(f2 b hb).2⟩;refine codeAny_forLoop_any (λn s'=>∃i σ' H',Inv X pins σ' H' s'/\tn i s'.heap/\(∀b∈fp,H' b=none)/\W i n σ' H') ?_ m0 ⟨0,σ,H2,I2,st2,λb hb=>(f2 b hb).1,w0⟩;rintro n s3 ⟨i,σ3,H3,I3,st3,fr3,w3⟩;rcases turn i n σ3 H3 w3 with⟨stop,qn⟩|⟨go,N,hN,step⟩
 ·refine wpAny_passesOwn hp (ax (T.done X rfl rfl rfl hc i pins s3 σ3 H3 X.xe I3 (stat fr3) st3 stop) λr s4 ⟨hr,I4⟩=>?_);subst hr;exact wpAny_execs_nil ⟨σ3,H3,I4,qn⟩
 ·refine wpAny_passesOwn hp (ax (T.item X rfl rfl rfl hc i pins s3 σ3 H3 X.xe I3 (stat fr3) st3 go) λr s4 ⟨u,hr,h4⟩=>?_);subst hr;refine wpAny_passesOwn hp (ax h4 λ_ s5 ⟨x,H5,I5,r5,y5,st5,fr5⟩=>?_);have I5':=I5.pinned (stat fr5) (T.obj _ _ st5);refine wpAny_passesOwn hp (ax (hg _ s5 σ3 H5 x u _ I5' r5 (step x H5 y5)) λ_ s6 ⟨σ6,H6,I6,q6⟩=>?_);refine wpAny_passesOwn hp (ax (hb _ s6 σ6 H6 _ I6 q6) λf s7 q7=>?_);have again:∀{σ7:St} {H7:Hp},Inv X (pins++f9 fp s5.heap) σ7 H7 s7->N σ7 H7->∃m,m<n/\∃i σ' H',Inv X pins σ' H' s7/\tn i s7.heap/\(∀b∈fp,H' b=none)/\W i m σ' H':=λ{σ7 H7} I7 n7=>by obtain⟨m',hm,w7⟩:=hN σ7 H7 n7;refine⟨m',hm,i+1,σ7,H7,I7.unpinned,T.keep _ _ _ st5 λb hb o e=>(I7.pin (b,o) (GR _ (GR _ (ng hb e)))).1,λb hb=>?_,w7⟩;obtain⟨o,e,d⟩:=T.obj _ _ st5 b hb;exact(I7.pin (b,o) (GR _ (GR _ (ng hb e)))).2.1
  cases f with
  | next=>obtain⟨σ7,H7,I7,n7⟩:=q7;exact again I7 n7
  | cont=>obtain⟨σ7,H7,I7,n7⟩:=q7;exact again I7 n7
  | brk=>obtain⟨σ7,H7,I7,q7⟩:=q7;exact⟨σ7,H7,I7.unpinned,q7⟩
  | ret v=>obtain⟨x7,σ7,H7,I7,r7,q7⟩:=q7;exact⟨x7,σ7,H7,I7.unpinned,r7,q7⟩
end
def AA{K:F6}{a:Addr}{xs:List V}{g:TG}{tb:TS}{D:Ends}{σ:St}{H:Hp}(Pv:Nat->St->Hp->Prop)(h0:Pv 0 σ H)(hl:∀i σ H,i<=xs.length->Pv i σ H->ag K H a xs)
  (hs:∀i x σ H,xs[i]?=some x->Pv i σ H->g x σ H λσ2 H2=>tb { D with nx:=Pv (i+1),ct:=Pv (i+1),bk:=D.nx } σ2 H2) (hd:∀σ H,Pv xs.length σ H->D.nx σ H) :
  ∃W:Nat->Nat->St->Hp->Prop,(∃m,W 0 m σ H)/\∀i m σ H,W i m σ H →
   ((fB K a).stop i H/\D.nx σ H)\/((fB K a).go i H/\∃N:St->Hp->Prop,(∀σ' H',N σ' H'->∃m',m'<m/\W (i+1) m' σ' H')/\∀x H',(fB K a).yld i H x H'->g x σ H' λσ2 H2=>tb { D with nx:=N,ct:=N,bk:=D.nx } σ2 H2):=by
 refine⟨λi m σ H=>m=xs.length-i/\i<=xs.length/\Pv i σ H,⟨xs.length,by simp,Nat.zero_le _,h0⟩,?_⟩;rintro i m σ H ⟨rfl,hi,p⟩;have q:=hl i σ H hi p;by_cases hlt:i<xs.length
 ·refine .inr ⟨⟨xs,xs[i],q,by simp[hlt]⟩,Pv (i+1),λσ' H' p'=>⟨xs.length-(i+1),by omega,rfl,hlt,p'⟩,λx H' y=>?_⟩;obtain⟨e,y⟩:=y;subst e;exact hs i x σ _ (y xs q) p
 ·have e:i=xs.length:=by omega
  subst e;exact .inl ⟨⟨xs,q,Gw _⟩,hd σ H p⟩
def zq{K:F6}{a:Addr}{xs:List V}{g:TG}{tb:TS}{D:Ends}{σ:St}{H:Hp}(Pv:Nat->St->Hp->Prop)(h0:Pv 0 σ H)(hl:∀i σ H,i<=xs.length->Pv i σ H->aj K H a xs)
  (hs:∀i x σ H,xs[i]?=some x->Pv i σ H->g x σ H λσ2 H2=>tb { D with nx:=Pv (i+1),ct:=Pv (i+1),bk:=D.nx } σ2 H2) (hd:∀σ H,Pv xs.length σ H->D.nx σ H) :
  ∃W:Nat->Nat->St->Hp->Prop,(∃m,W 0 m σ H)/\∀i m σ H,W i m σ H →
   ((dU K a).stop i H/\D.nx σ H)\/((dU K a).go i H/\∃N:St->Hp->Prop,(∀σ' H',N σ' H'->∃m',m'<m/\W (i+1) m' σ' H')/\∀x H',(dU K a).yld i H x H'->g x σ H' λσ2 H2=>tb { D with nx:=N,ct:=N,bk:=D.nx } σ2 H2):=by
 refine⟨λi m σ H=>m=xs.length-i/\i<=xs.length/\Pv i σ H,⟨xs.length,by simp,Nat.zero_le _,h0⟩,?_⟩;rintro i m σ H ⟨rfl,hi,p⟩;have q:=hl i σ H hi p;by_cases hlt:i<xs.length
 ·refine .inr ⟨⟨xs,xs[i],q,by simp[hlt]⟩,Pv (i+1),λσ' H' p'=>⟨xs.length-(i+1),by omega,rfl,hlt,p'⟩,λx H' y=>?_⟩;obtain⟨e,y⟩:=y;subst e;exact hs i x σ _ (y xs q) p
 ·have e:i=xs.length:=by omega
  subst e;exact .inl ⟨⟨xs,q,Gw _⟩,hd σ H p⟩
def B8{lo:Int}{n:Nat}{g:TG}{tb:TS}{D:Ends}{σ:St}{H:Hp}(Pv:Nat->St->Hp->Prop)(h0:Pv 0 σ H)
  (hs:∀i σ H,i<n->Pv i σ H->g (.int (lo+i)) σ H λσ2 H2=>tb { D with nx:=Pv (i+1),ct:=Pv (i+1),bk:=D.nx } σ2 H2) (hd:∀σ H,Pv n σ H->D.nx σ H) :
  ∃W:Nat->Nat->St->Hp->Prop,(∃m,W 0 m σ H)/\∀i m σ H,W i m σ H →
   ((dv lo n).stop i H/\D.nx σ H)\/((dv lo n).go i H/\∃N:St->Hp->Prop,(∀σ' H',N σ' H'->∃m',m'<m/\W (i+1) m' σ' H')/\∀x H',(dv lo n).yld i H x H'->g x σ H' λσ2 H2=>tb { D with nx:=N,ct:=N,bk:=D.nx } σ2 H2):=by
 refine⟨λi m σ H=>m=n-i/\i<=n/\Pv i σ H,⟨n,by simp,Nat.zero_le _,h0⟩,?_⟩;rintro i m σ H ⟨rfl,hi,p⟩;by_cases hlt:i<n
 ·refine .inr ⟨hlt,Pv (i+1),λσ' H' p'=>⟨n-(i+1),by omega,rfl,hlt,p'⟩,λx H' y=>?_⟩;obtain⟨e,y⟩:=y;subst e y;exact hs i σ _ hlt p
 ·have e:i=n:=by omega
  subst e;exact .inl ⟨Gw _,hd σ H p⟩
abbrev R2:=V->V->Hp->VK->Prop
def bA(X:Cx)(f:Value->Value->Sem Value)(r:R2):Prop:=
 ∀(pins:List (Addr×Obj)) (s:Shared) (σ:St) (H:Hp) (x y:V) (v u:Value) (Q:VK),Inv X pins σ H s->RelV x v->RelV y u->r x y H Q →
  wpAny (model X.prog X.w) X.A (f v u) (EP X pins σ Q) X.xe s
def nQ(X:Cx)(f:Value->Sem Value)(r:V->Hp->VK->Prop):Prop:=
 ∀(pins:List (Addr×Obj)) (s:Shared) (σ:St) (H:Hp) (x:V) (v:Value) (Q:VK),Inv X pins σ H s->RelV x v->r x H Q →
  wpAny (model X.prog X.w) X.A (f v) (EP X pins σ Q) X.xe s
def b7(X:Cx)(f:Value)(r:List V->Hp->VK->Prop):Prop:=
 ∀(pins:List (Addr×Obj)) (s:Shared) (σ:St) (H:Hp) (xs:List V) (us:List Value) (Q:VK),Inv X pins σ H s->Vals xs us->r xs H Q →
  wpAny (model X.prog X.w) X.A (call f us) (EP X pins σ Q) X.xe s
def ie(r:R2)(ta tb:TE):TE:=λσ H Q=>ta σ H λx H1=>tb σ H1 λy H2=>r x y H2 Q
def wu(r:V->Hp->VK->Prop)(ta:TE):TE:=λσ H Q=>ta σ H λx H1=>r x H1 Q
def rI(C:Int->Int->Prop)(g:Int->Int->V):R2:=λx y H Q=>∃i j,x=.int i/\y=.int j/\C i j/\Q (g i j) H
def fI(g:Int->Int->V):R2:=λx y H Q=>∃i j,x=.int i/\y=.int j/\Q (g i j) H
def rU(g:Int->V):V->Hp->VK->Prop:=λx H Q=>∃i,x=.int i/\Q (g i) H
section
variable {X:Cx} {a b c:Expr} {ta tb tc:TE} {pos:Pos}
def lM(ha:PE X a ta)(hb:PE X b tb){pins:List (Addr×Obj)}{s:Shared}{σ:St}{H:Hp}{R:V->V->Hp->Prop}(I:Inv X pins σ H s)
  (h:ta σ H λx H1=>tb σ H1 λy H2=>R x y H2) {Q:Value->Shared->Prop} {f:Value->Value->Sem Value}
  (hf:∀v u s2 x y H2,Inv X pins σ H2 s2->RelV x v->RelV y u->R x y H2->wpAny (model X.prog X.w) X.A (f v u) Q X.xe s2) :
  wpAny (model X.prog X.w) X.A (eval a X.env) (λv s₁=>wpAny (model X.prog X.w) X.A (eval b X.env) (λu s₂=>wpAny (model X.prog X.w) X.A (f v u) Q X.xe s₂) X.xe s₁) X.xe s:=by
 refine ax (ha pins s σ H _ I h) λv s1 ⟨x,H1,I1,r1,q1⟩=>?_;refine ax (hb pins s1 σ H1 _ I1 q1) λu s2 ⟨y,H2,I2,r2,q2⟩=>?_;exact hf v u s2 x y H2 I2 r1 r2 q2
def av{op:Operator}{r:R2}(ho:bA X (binaryOp op) r)(ha:PE X a ta)(hb:PE X b tb):PE X (.BinOp a op b pos) (ie r ta tb):=by intro pins s σ H Q I h;exact wpAny_BinOp (lM ha hb I h λv u s2 x y H2 I2 rx ry q=>ho pins s2 σ H2 x y v u Q I2 rx ry q)
def gq{op:UnaryOp}{r:V->Hp->VK->Prop}(ho:nQ X (unaryOp op) r)(ha:PE X a ta):PE X (.UnaryOp op a pos) (wu r ta):=by intro pins s σ H Q I h;exact UnaryOp_ (ax (ha pins s σ H _ I h) λv s1 ⟨x,H1,I1,r1,q1⟩=>ho pins s1 σ H1 x v Q I1 r1 q1)
def lh{f:Value->Value->Sem Value}{C:Int->Int->Prop}{g:Int->Int->Int}
  (rule:∀(i j:Int) (t u:Tok) (s:Shared) (Q:Value->Shared->Prop) (E:Value->Shared->Prop),C i j->Q (.int (g i j) s.toks) { s with toks:=s.toks+1 }->wpAny (model X.prog X.w) X.A (f (.int i t) (.int j u)) Q E s) :
  bA X f (rI C λi j=>.int (g i j)):=by
 intro pins s σ H x y v u Q I rx ry h;obtain⟨i,j,rfl,rfl,hc,q⟩:=h;obtain⟨t,rfl⟩:=rx;obtain⟨t',rfl⟩:=ry;exact rule i j t t' s _ _ hc ⟨.int (g i j),H,I.tok _,⟨_,rfl⟩,q⟩
def yf{f:Value->Value->Sem Value}{g:Int->Int->Int}
  (rule:∀(i j:Int) (t u:Tok) (s:Shared) (Q:Value->Shared->Prop) (E:Value->Shared->Prop),Q (.int (g i j) s.toks) { s with toks:=s.toks+1 }->wpAny (model X.prog X.w) X.A (f (.int i t) (.int j u)) Q E s) :
  bA X f (fI λi j=>.int (g i j)):=by
 intro pins s σ H x y v u Q I rx ry h;obtain⟨i,j,rfl,rfl,q⟩:=h;obtain⟨t,rfl⟩:=rx;obtain⟨t',rfl⟩:=ry;exact rule i j t t' s _ _ ⟨.int (g i j),H,I.tok _,⟨_,rfl⟩,q⟩
def jV{f:Value->Value->Sem Value}{g:Int->Int->Bool}
  (rule:∀(i j:Int) (t u:Tok) (s:Shared) (Q:Value->Shared->Prop) (E:Value->Shared->Prop),Q (.bool (g i j)) s->wpAny (model X.prog X.w) X.A (f (.int i t) (.int j u)) Q E s) :
  bA X f (fI λi j=>.bl (g i j)):=by
 intro pins s σ H x y v u Q I rx ry h;obtain⟨i,j,rfl,rfl,q⟩:=h;obtain⟨t,rfl⟩:=rx;obtain⟨t',rfl⟩:=ry;exact rule i j t t' s _ _ ⟨.bl (g i j),H,I,rfl,q⟩
def tL(i j:Int):Prop:=0<=j/\j<=1000000/\i.natAbs<2 ^ 64
def lC(i j:Int):Prop:=(-(2 ^ 64)<i/\i<2 ^ 64)\/(-(2 ^ 64)<j/\j<2 ^ 64)
def lC.ok{i j:Int}(h:lC i j):IntMulOk i j:=by
 rcases h with⟨h1,h2⟩|⟨h1,h2⟩
 ·exact .of_left (intBits_le_64 h1 h2)
 ·exact .of_right (intBits_le_64 h1 h2)
def aU:bA X (binaryOp .Add) (fI λi j=>.int (i+j)):=yf λ_ _ _ _ _ _ _ q=>add_int q
def cX:bA X (binaryOp .Sub) (fI λi j=>.int (i-j)):=yf λ_ _ _ _ _ _ _ q=>sub_int q
def eR:bA X (binaryOp .Mult) (rI lC λi j=>.int (i*j)):=lh λ_ _ _ _ _ _ _ hc q=>mul_int q hc.ok
def cn:bA X (binaryOp .Mod) (rI (λ_ j=>0<j) λi j=>.int (i % j)):=lh λi j _ _ _ _ _ hc q=>by have h1:(0:Int)<j:=hc;exact mod_int' (by omega) (by rw[Int.fmod_eq_emod_of_nonneg i (by omega)];exact q)
def gE:bA X (binaryOp .Pow) (rI tL λi j=>.int (i ^ j.toNat)):=lh λ_ _ _ _ _ _ _ hc q=>pow_int_small hc.1 hc.2.1 hc.2.2 q
def EM{f:Value->Sem Value}{g:Int->Int}
  (rule:∀(i:Int) (t:Tok) (s:Shared) (Q:Value->Shared->Prop) (E:Value->Shared->Prop),Q (.int (g i) s.toks) { s with toks:=s.toks+1 }->wpAny (model X.prog X.w) X.A (f (.int i t)) Q E s) :
  nQ X f (rU λi=>.int (g i)):=by
 intro pins s σ H x v Q I rx h;obtain⟨i,rfl,q⟩:=h;obtain⟨t,rfl⟩:=rx;exact rule i t s _ _ ⟨.int (g i),H,I.tok _,⟨_,rfl⟩,q⟩
def gR:nQ X (unaryOp .USub) (rU λi=>.int (-i)):=EM λ_ _ _ _ _ q=>neg_int q
end
def vW:V->V->Bool
 | .non,.non=>true|.non,.int _=>true|.int _,.non=>true|.non,.bl _=>true|.bl _,.non=>true|.non,.str _=>true|.str _,.non=>true
 | .int _,.int _=>true|.bl _,.bl _=>true|.str _,.str _=>true|.byt _,.byt _=>true
 | .int _,.str _=>true|.str _,.int _=>true|.bl _,.str _=>true|.str _,.bl _=>true
 | _,_=>false
def jg:R2:=λx y H Q=>vW x y=true/\Q (.bl (decide (x=y))) H
def kH:R2:=λx y H Q=>vW x y=true/\Q (.bl (!decide (x=y))) H
def rK{i j:Int}:decide (V.int i=V.int j)=(i == j):=by rw[GN];simp
def mB{i j:Bool}:decide (V.bl i=V.bl j)=(i == j):=by rw[GN];simp
def jQ{i j:Str}:decide (V.str i=V.str j)=(i == j):=by rw[GN];simp
def wq{i j:Array UInt8}:decide (V.byt i=V.byt j)=(i.toList == j.toList):=by rw[GN];cases i;cases j;simp
section
variable {X:Cx} {a b c:Expr} {ta tb tc:TE} {pos:Pos}
def bz{pins:List (Addr×Obj)}{σ:St}{H:Hp}{s:Shared}{Q:VK}{k k':Bool}(I:Inv X pins σ H s)(q:Q (.bl k) H)(e:k=k'):EP X pins σ Q (.bool k') s:=by subst e;exact⟨.bl k,H,I,rfl,q⟩
def b6:bA X (compareOp .Eq) jg:=by
 intro pins s σ H x y v u Q I rx ry h;obtain⟨hs,q⟩:=h;cases x with
 | non=>
  cases rx;cases y with
  | non=>cases ry;exact PySem.EqNone.eq_none_none (bz I q (by simp))
  | bl j=>cases ry;exact PySem.EqNone.eq_none_bool (bz I q (by simp))
  | int j=>obtain⟨t',rfl⟩:=ry;exact PySem.EqNone.eq_none_int (bz I q (by simp))
  | str j=>obtain⟨t',rfl⟩:=ry;exact PySem.EqNone.eq_none_str (bz I q (by simp))
  | _=>exact absurd (show false=true from hs) Gr
 | bl i=>
  cases rx;cases y with
  | non=>cases ry;exact PySem.EqNone.eq_bool_none (bz I q (by simp))
  | bl j=>cases ry;exact eq_bool (bz I q mB)
  | str j=>obtain⟨t',rfl⟩:=ry;exact PySem.EqMixed.eq_bool_str (bz I q (by simp))
  | _=>exact absurd (show false=true from hs) Gr
 | int i=>
  obtain⟨t,rfl⟩:=rx;cases y with
  | non=>cases ry;exact PySem.EqNone.eq_int_none (bz I q (by simp))
  | int j=>obtain⟨t',rfl⟩:=ry;exact eq_int (bz I q rK)
  | str j=>obtain⟨t',rfl⟩:=ry;exact PySem.EqMixed.eq_int_str (bz I q (by simp))
  | _=>exact absurd (show false=true from hs) Gr
 | str i=>
  obtain⟨t,rfl⟩:=rx;cases y with
  | non=>cases ry;exact PySem.EqNone.eq_str_none (bz I q (by simp))
  | bl j=>cases ry;exact PySem.EqMixed.eq_str_bool (bz I q (by simp))
  | int j=>obtain⟨t',rfl⟩:=ry;exact PySem.EqMixed.eq_str_int (bz I q (by simp))
  | str j=>obtain⟨t',rfl⟩:=ry;exact eq_str (bz I q jQ)
  | _=>exact absurd (show false=true from hs) Gr
 | byt i=>
  obtain⟨t,rfl⟩:=rx;cases y with
  | byt j=>obtain⟨t',rfl⟩:=ry;exact PySem.W.eq_bytes (bz I q wq)
  | _=>exact absurd (show false=true from hs) Gr
 | _=>cases y<;>exact absurd (show false=true from hs) Gr
def cE:bA X (compareOp .NotEq) kH:=by
 intro pins s σ H x y v u Q I rx ry h;obtain⟨hs,q⟩:=h;cases x with
 | non=>
  cases rx;cases y with
  | non=>cases ry;exact PySem.EqNone.ne_none_none (bz I q (by simp))
  | bl j=>cases ry;exact PySem.EqNone.ne_none_bool (bz I q (by simp))
  | int j=>obtain⟨t',rfl⟩:=ry;exact PySem.EqNone.ne_none_int (bz I q (by simp))
  | str j=>obtain⟨t',rfl⟩:=ry;exact PySem.EqNone.ne_none_str (bz I q (by simp))
  | _=>exact absurd (show false=true from hs) Gr
 | bl i=>
  cases rx;cases y with
  | non=>cases ry;exact PySem.EqNone.ne_bool_none (bz I q (by simp))
  | bl j=>cases ry;exact ne_bool (bz I q (congrArg not mB))
  | str j=>obtain⟨t',rfl⟩:=ry;exact PySem.EqMixed.ne_bool_str (bz I q (by simp))
  | _=>exact absurd (show false=true from hs) Gr
 | int i=>
  obtain⟨t,rfl⟩:=rx;cases y with
  | non=>cases ry;exact PySem.EqNone.ne_int_none (bz I q (by simp))
  | int j=>obtain⟨t',rfl⟩:=ry;exact ne_int (bz I q (congrArg not rK))
  | str j=>obtain⟨t',rfl⟩:=ry;exact PySem.EqMixed.ne_int_str (bz I q (by simp))
  | _=>exact absurd (show false=true from hs) Gr
 | str i=>
  obtain⟨t,rfl⟩:=rx;cases y with
  | non=>cases ry;exact PySem.EqNone.ne_str_none (bz I q (by simp))
  | bl j=>cases ry;exact PySem.EqMixed.ne_str_bool (bz I q (by simp))
  | int j=>obtain⟨t',rfl⟩:=ry;exact PySem.EqMixed.ne_str_int (bz I q (by simp))
  | str j=>obtain⟨t',rfl⟩:=ry;exact ne_str (bz I q (congrArg not jQ))
  | _=>exact absurd (show false=true from hs) Gr
 | byt i=>
  obtain⟨t,rfl⟩:=rx;cases y with
  | byt j=>obtain⟨t',rfl⟩:=ry;exact PySem.W.ne_bytes (bz I q (congrArg not wq))
  | _=>exact absurd (show false=true from hs) Gr
 | _=>cases y<;>exact absurd (show false=true from hs) Gr
def gL:bA X (compareOp .Lt) (fI λi j=>.bl (decide (i<j))):=jV λ_ _ _ _ _ _ _ q=>lt_int q
def jS:bA X (compareOp .LtE) (fI λi j=>.bl (decide (i<=j))):=jV λ_ _ _ _ _ _ _ q=>le_int q
def iN:bA X (compareOp .Gt) (fI λi j=>.bl (decide (j<i))):=jV λ_ _ _ _ _ _ _ q=>gt_int q
def uM:bA X (compareOp .GtE) (fI λi j=>.bl (decide (j<=i))):=jV λ_ _ _ _ _ _ _ q=>ge_int q
def vO:bA X (compareOp .Is) (λx y H Q=>y=.non/\Q (.bl (decide (x=.non))) H):=by
 intro pins s σ H x y v u Q I rx ry h;obtain⟨rfl,q⟩:=h;cases ry;refine is_none_gen (bz I q ?_);cases x<;>first
  | (cases rx;rfl)
  | (obtain⟨t,rfl⟩:=rx;rfl)
def CP:bA X (compareOp .IsNot) (λx y H Q=>y=.non/\Q (.bl (!decide (x=.non))) H):=by
 intro pins s σ H x y v u Q I rx ry h;obtain⟨rfl,q⟩:=h;cases ry;refine isnot_none_gen (bz I q ?_);cases x<;>first
  | (cases rx;rfl)
  | (obtain⟨t,rfl⟩:=rx;rfl)
def aP(b:Expr){op:CmpOp}(h:op≠.In:=by decide)(h2:op≠.NotIn:=by decide):behindInMarks op b=false:=by
 have e1:(op == CmpOp.In)=false:=by cases op<;>first|rfl|exact absurd rfl h
 have e2:(op == CmpOp.NotIn)=false:=by cases op<;>first|rfl|exact absurd rfl h2
 cases b<;>simp[behindInMarks,e1,e2]
def fb{op:CmpOp}{r:R2}(ho:bA X (compareOp op) r)(ha:PE X a ta)(hb:PE X b tb)(hm:behindInMarks op b=false):PE X (.Compare a [op] [b] pos) (ie r ta tb):=by intro pins s σ H Q I h;exact wpAny_Compare1 (lM ha hb I h λv u s2 x y H2 I2 rx ry q=>ho pins s2 σ H2 x y v u Q I2 rx ry q) hm
def x9(t:TE):TT:=λσ H Q=>t σ H λx H'=>∃k,x=.bl k/\Q k H'
def aS{op:CmpOp}{r:R2}(ho:bA X (compareOp op) r)(ha:PE X a ta)(hb:PE X b tb)(hm:behindInMarks op b=false):PT X (.Compare a [op] [b] pos) (x9 (ie r ta tb)):=by
 intro pins s σ H Q I h;refine wpAny_isTrue_Compare1 (ax (ha pins s σ H _ I h) λv s1 ⟨x,H1,I1,r1,q1⟩=>ax (hb pins s1 σ H1 _ I1 q1) λu s2 ⟨y,H2,I2,r2,q2⟩=>
  ax (ho pins s2 σ H2 x y v u _ I2 r1 r2 q2) λc s3 ⟨z,H3,I3,r3,k,e,q3⟩=>?_) hm
 subst e;cases r3;exact wpAny_truthy_bool ⟨H3,I3,q3⟩
def uA(r r':R2)(ta tb tc:TE):TE:=λσ H Q=>ta σ H λx H1=>tb σ H1 λy H2=>r x y H2 λz H3=>∃k,z=.bl k ∧
 (if k=true then tc σ H3 λw' H4=>r' y w' H4 Q else Q (.bl false) H3)
def oq{op op':CmpOp}{r r':R2}(ho:bA X (compareOp op) r)(ho':bA X (compareOp op') r')(ha:PE X a ta)(hb:PE X b tb)(hc:PE X c tc)
  (hm:lastMarks [op,op'] [b,c]=false:=by with_unfolding_all rfl):PE X (.Compare a [op,op'] [b,c] pos) (uA r r' ta tb tc):=by
 intro pins s σ H Q I h;refine Compare_chain (ax (ha pins s σ H _ I h) λv s1 ⟨x,H1,I1,r1,q1⟩=>chain_link (ax (hb pins s1 σ H1 _ I1 q1) λu s2 ⟨y,H2,I2,r2,q2⟩=>
  ax (ho pins s2 σ H2 x y v u _ I2 r1 r2 q2) λd s3 ⟨z,H3,I3,r3,k,e,q3⟩=>?_)) hm
 subst e;cases r3;refine wpAny_truthy_bool ?_;cases k with
 | false=>exact ite_ff ⟨.bl false,H3,I3,rfl,q3⟩
 | true=>exact ite_tt (chain_last (ax (hc pins s3 σ H3 _ I3 q3) λw' s4 ⟨z',H4,I4,r4,q4⟩=>ho' pins s4 σ H4 y z' u w' Q I4 r2 r4 q4))
def ip:(sizeLine:Nat)<2 ^ 63:=by rw[sizeLine_eq];decide
def vals1{x:V}{us:List Value}(r:Vals [x] us):∃u,us=[u]/\RelV x u:=by
 cases r with
 | cons r1 r2=>cases r2;exact⟨_,rfl,r1⟩
def vals2{x y:V}{us:List Value}(r:Vals [x,y] us):∃u w',us=[u,w']/\RelV x u/\RelV y w':=by
 cases r with
 | cons r1 r2=>
  cases r2 with
  | cons r3 r4=>cases r4;exact⟨_,_,rfl,r1,r3⟩
def Ee(hc:X.calm=true):b7 X (.builtin "max") (λxs H Q=>∃i j,xs=[.int i,.int j]/\Q (.int (if j>i then j else i)) H):=by
 intro pins s σ H xs us Q I r h;obtain⟨i,j,rfl,q⟩:=h;obtain⟨u,w',rfl,⟨t,rfl⟩,⟨t',rfl⟩⟩:=vals2 r;refine max_two_ints (I.ok.hd hc) λh' tk k=>⟨_,H,I.kept k,?_,q⟩;by_cases hj:j>i
 ·rw[Hf hj,Hf hj];exact⟨_,rfl⟩
 ·rw[He hj,He hj];exact⟨_,rfl⟩
def BR:b7 X (.type "int") (λxs H Q=>(∃i,xs=[.int i]/\Q (.int i) H)\/∃k,xs=[.bl k]/\Q (.int (if k then 1 else 0)) H):=by
 intro pins s σ H xs us Q I r h;rcases h with⟨i,rfl,q⟩|⟨k,rfl,q⟩
 ·obtain⟨u,rfl,t,rfl⟩:=vals1 r;exact call_int_int ⟨.int i,H,I,⟨_,rfl⟩,q⟩
 ·obtain⟨u,rfl,r1⟩:=vals1 r;cases r1;exact call_int_bool ⟨.int (if k then 1 else 0),H,I.tok _,⟨_,rfl⟩,q⟩
end
structure ObjM(h:Heap)(x dx C:Addr)(mA:Str->Option Value):Prop where
 obj:h.get? x=some (PySem.W.instObj C dx)
 ns:h.Ns1 dx mA
 ne:dx≠x
def FT{h:Heap}{dx:Addr}{mA:Str->Option Value}(n:h.Ns1 dx mA):∃od,h.get? dx=some od/\∀name,PySem.W.lookIn name od=some (mA name):=by
 obtain⟨o,es,ep,ho,hd,hk,_,hm⟩:=n;refine⟨o,ho,λname=>?_⟩;have e:=hm name;unfold nsFind findBy at e;rw[←Array.find?_toList]at e;unfold PySem.W.lookIn;rw[hd];dsimp only;split
 ·rename_i y q;rw[q]at e;exact congrArg some e
 ·rename_i q;rw[q]at e;have a:es.toList.any (·.refKey)=false:=by rw[List.any_eq_false];intro y hy;obtain⟨z,t,hkey⟩:=hk y (Array.mem_toList_iff.mp hy);simp[DictEntry.refKey,hkey]
  have a':¬es.toList.any (·.refKey)=true:=by rw[a];exact Gr
  rw[He a'];exact congrArg some e
def ObjM.look{h:Heap}{x dx C:Addr}{mA:Str->Option Value}(I:ObjM h x dx C mA):∃od,PySem.W.InstAt h x (PySem.W.instObj C dx) C (some od)/\∀name,PySem.W.lookIn name od=some (mA name):=
 let ⟨od,ho,hl⟩:=FT I.ns
 ⟨od,⟨I.obj,rfl,rfl,ho⟩,hl⟩
section
variable {prog:Program} {w:World} {A:Around} {E:Value->Shared->Prop} {s:Shared} {K:F6} {x dx C f:Addr} {mA:Str->Option Value} {name:Str} {v:Value}
end
def dN.some_of{v:V}{o:Option Value}(r:dN (some v) o):∃u,o=some u/\RelV v u:=by
 cases o with
 | none=>exact(show False from r).elim
 | some u=>exact⟨u,rfl,r⟩
section
variable {P:Program} {w:World} {H H':Hp} {h h':Heap} {a C dx:Addr} {fs fs':List (Str×V)}
def CA(hok:bh P w H h)(e:H a=some (.ins C dx fs)):∃mA,ObjM h a dx C mA/\(∀f,dN (fs.lookup f) (mA f))/\PySem.Within mA (fs.map (·.1))/\fs.length<=1000/\H dx=some (.own a):=by obtain⟨d,z,ne,ob,mA,n,r,q⟩:=(show bp P w H h a (.ins C dx fs)from hok a _ e);exact⟨mA,⟨ob,n,ne⟩,r,q,z,d⟩
end
structure Cls(K:F6)(C:Addr):Prop where
 pg:PySem.W.plainGet K C Str.empty=true
 hd:PySem.W.hasDictIn K C=true
 po:PySem.W.plainOver K C=true
 sa:PySem.W.findIn K (.ref C) "__setattr__" = some (some (.builtin "object.__setattr__"))
def Cls.get{K:F6}{C:Addr}(c:Cls K C)(f:Str):PySem.W.plainGet K C f=true:=c.pg
section
variable {X:Cx} {pins:List (Addr×Obj)} {σ:St} {H:Hp} {s:Shared} {a C dx:Addr} {fs:List (Str×V)} {f:Str} {v:V} {A:Around} {E:Value->Shared->Prop}
end
section
variable {X:Cx} {o e value:Expr} {f:Str} {pos pos' tpos:Pos} {ta tv:TE}
end
section
variable {X:Cx} {pins:List (Addr×Obj)} {σ:St} {H:Hp} {s:Shared} {A:Around} {E:Value->Shared->Prop} {Q:Value->Shared->Prop} {c:Value} {b:Bool}
inductive TyOf(K:F6)(H:Hp):V->Value->Prop where
 | non:TyOf K H .non (.type "NoneType")
 | bl (x:Bool):TyOf K H (.bl x) (.type "bool")
 | int (i:Int):TyOf K H (.int i) (.type "int")
 | str (x:Str):TyOf K H (.str x) (.type "str")
 | flt (x:UInt64):TyOf K H (.flt x) (.type "float")
 | lst {a:Addr} {xs:List V} (e:H a=some (.lst xs)):TyOf K H (.ref a) (.type "list")
 | frz {a:Addr} {o:Obj} {xs:List V} (e:H a=some (.frz o (.lst xs))):TyOf K H (.ref a) (.type "list")
 | tup {a:Addr} {xs:List V} (e:H a=some (.tup xs)):TyOf K H (.ref a) (.type "tuple")
 | dK {a:Addr} {kvs:List (Key×V)} (e:H a=some (.dK kvs)):TyOf K H (.ref a) (.type "dict")
 | dT {a:Addr} {kvs:List (List Key×V)} (e:H a=some (.dT kvs)):TyOf K H (.ref a) (.type "dict")
 | ins {a C dx:Addr} {fs:List (Str×V)} (e:H a=some (.ins C dx fs)) (cl:Cls K C) (ha:PySem.W.findIn K (.ref C) "__class__" = some (some (.builtin "object.__class__")))
   (hn:PySem.W.specialIn K (.builtin "object.__class__") "__get__" = some (some (.builtin "getset_descriptor.__get__"))) (htk:PySem.W.takesIn K (.builtin "object.__class__")=some true)
   (hm:PySem.W.mroIn K C (.type "object")=some true):TyOf K H (.ref a) (.ref C)
def FW{x:V}{u t:Value}(I:Inv X pins σ H s)(rx:RelV x u)(ty:TyOf X.K H x t)(e:PySem.W.kitOne X.K t c=some b)(h:∀tk,Q (.bool b) { s with toks:=tk }):
  wpAny (model X.prog X.w) A (call (.builtin "isinstance") [u,c]) Q E s:=by
 cases ty with
 | non=>cases(show u=Value.none from rx);exact PySem.W.kia_one PySem.W.kitx_none I.kIn True.intro e (λz=>nomatch z) h
 | bl y=>cases(show u=Value.bool y from rx);exact PySem.W.kia_one PySem.W.kitx_bool I.kIn True.intro e (λz=>nomatch z) h
 | int i=>obtain⟨t,q⟩:=(show ∃t,u=Value.int i t from rx);cases q;exact PySem.W.kia_one PySem.W.kitx_int I.kIn True.intro e (λz=>nomatch z) h
 | str y=>obtain⟨t,q⟩:=(show ∃t,u=Value.str y t from rx);cases q;exact PySem.W.kia_one PySem.W.kitx_str I.kIn True.intro e (λz=>nomatch z) h
 | flt y=>obtain⟨t,q⟩:=(show ∃t,u=Value.float y t from rx);cases q;exact PySem.W.kia_one PySem.W.kitx_float I.kIn True.intro e (λz=>nomatch z) h
 | @lst a xs ea=>
  cases(show u=Value.ref a from rx);obtain⟨_,_,n,_,h1⟩:=(show bp X.prog X.w H s.heap a (.lst xs)from I.hok a _ ea);exact PySem.W.kia_one PySem.W.kitx_list I.kIn ⟨_,h1,rfl⟩ e (λz=>nomatch z) h
 | @frz a ob xs ea=>
  cases(show u=Value.ref a from rx);obtain⟨_,_,_,n,_,h1⟩:=(show bp X.prog X.w H s.heap a (.frz ob (.lst xs))from I.hok a _ ea);exact PySem.W.kia_one PySem.W.kitx_list I.kIn ⟨_,h1,rfl⟩ e (λz=>nomatch z) h
 | @tup a xs ea=>
  cases(show u=Value.ref a from rx);obtain⟨_,_,_,p⟩:=(show bp X.prog X.w H s.heap a (.tup xs)from I.hok a _ ea);obtain⟨o,h1,h2,_⟩:=p;exact PySem.W.kia_one PySem.W.kitx_tuple I.kIn ⟨o,h1,h2⟩ e (λz=>nomatch z) h
 | @dK a kvs ea=>
  cases(show u=Value.ref a from rx);obtain⟨_,_,vs,_,p⟩:=(show bp X.prog X.w H s.heap a (.dK kvs)from I.hok a _ ea);obtain⟨o,es,ep,h1,h2,_⟩:=p;exact PySem.W.kia_one PySem.W.kitx_dict I.kIn ⟨o,h1,h2.1⟩ e (λz=>nomatch z) h
 | @dT a kvs ea=>
  cases(show u=Value.ref a from rx);obtain⟨_,_,xs,_,o,es,ep,h1,h2,_⟩:=(show bp X.prog X.w H s.heap a (.dT kvs)from I.hok a _ ea);exact PySem.W.kia_one PySem.W.kitx_dict I.kIn ⟨o,h1,h2.1⟩ e (λz=>nomatch z) h
 | @ins a C dx fs ea cl ha hn htk hm=>
  cases(show u=Value.ref a from rx);obtain⟨mA,O,_⟩:=CA I.hok ea;obtain⟨od,J,_⟩:=O.look;exact PySem.W.kia_one (PySem.W.kitx_own (cl.get _) cl.hd ha hn htk hm) I.kIn J e (λz=>nomatch z) h
end
structure Room(k:Nat)(A:Around):Prop where
 hd:A.handled=none
 dp:A.depth+3*k+5<recursionLimit
 un:A.units+16*k+200<cLine
def Room.mono{j k:Nat}{A:Around}(r:Room k A)(h:j<=k):Room j A:=⟨r.hd,by have:=r.dp;omega,by have:=r.un;omega⟩
def Room.deeper{k:Nat}{A:Around}(r:Room (k+1) A)(env:Env):Room k (A.deeper env):=
 ⟨r.hd,by have:=r.dp;show A.depth+1+3*k+5<_;omega,by have:=r.un;show A.units+3+16*k+200<_;omega⟩
def Room.depth{k:Nat}{A:Around}(r:Room k A):A.depth<recursionLimit:=by have:=r.dp;omega
def Room.units{k:Nat}{A:Around}(r:Room k A):A.units+64<cLine:=by have:=r.un;omega
def pJ:TA:=λ_ H Q=>Q [] H
def lj(ta:TE)(tr:TA):TA:=λσ H Q=>ta σ H λx H1=>tr σ H1 λxs H2=>Q (x::xs) H2
section
variable {X:Cx} {e:Expr} {es:List Expr} {te:TE} {t:TA} {pos:Pos}
def ae:PA X [] pJ:=λ_ _ _ _ H Q I h=>Calls.spliced_nil ⟨[],H,I,.nil,h⟩
def aa(ha:PE X e te)(hr:PA X es t)(hs:starEach (e::es) X.env=(false,eval e X.env)::starEach es X.env:=by rfl):PA X (e::es) (lj te t):=by intro pos pins s σ H Q I h;rw[hs];show wpAny _ _ (spliced ((false,eval e X.env)::backTo pos (starEach es X.env))) _ _ s;refine Calls.spliced_cons (ax (ha pins s σ H _ I h) λu s1 ⟨x,H1,I1,r1,q1⟩=>?_);exact ax (hr pos pins s1 σ H1 _ I1 q1) λus s2 ⟨xs,H2,I2,r2,q2⟩=>⟨x::xs,H2,I2,.cons r1 r2,q2⟩
def pK(t:TA):TE:=λσ H Q=>t σ H λxs H1=>xs.length<=sizeLine/\∀p,H1 p=none->Q (.ref p) (upd H1 p (.tup xs))
def qZ(t:TA):TE:=λσ H Q=>t σ H λxs H1=>xs.length<=sizeLine/\∀p,H1 p=none->Q (.ref p) (upd H1 p (.lst xs))
def aT{x1}(h:PA X es t):PE X (.Tuple es x1 pos) (pK t):=by intro pins s σ H Q I hq;refine wpAny_Tuple_spliced (ax (h pos pins s σ H _ I hq) λus s1 ⟨xs,H1,I1,r,z,q⟩=>⟨by rw[←r.length];exact z,?_⟩);have hf:H1 s1.heap.objs.size=none:=I1.hok.fresh (Gw _);refine⟨.ref s1.heap.objs.size,upd H1 s1.heap.objs.size (.tup xs),I1.laid (t':=s1.toks) (λb u e=>F7 _ e) (Gw _) ?_,rfl,q _ hf⟩;exact⟨z,us,r,⟨_,F8 _ rfl,rfl,_,rfl⟩⟩
def aZ(h:PA X es t):PE X (.List es pos) (qZ t):=by intro pins s σ H Q I hq;refine wpAny_List_spliced (ax (h pos pins s σ H _ I hq) λus s1 ⟨xs,H1,I1,r,z,q⟩=>⟨by rw[←r.length];exact z,?_⟩);have hf:H1 s1.heap.objs.size=none:=I1.hok.fresh (Gw _);refine⟨.ref s1.heap.objs.size,upd H1 s1.heap.objs.size (.lst xs),I1.laid (t':=s1.toks) (λb u e=>F7 _ e) (Gw _) ?_,rfl,q _ hf⟩;exact⟨z,us,0,r,F8 _ rfl⟩
end
abbrev Sp:=List V->Hp->VK->XK->Prop
abbrev fi:=List Env->Hp->Shared->XK->Value->Shared->Prop
structure Env0(P:Program)(w:World)(K:F6)(mg:Str->Option Value)(base:Heap)(A:Around)(outer:List Env)(s:Shared)(H:Hp):Prop where
 frames:A.frames=some outer
 mod:Mod K mg base
 bs:∀b o,base.get? b=some o->s.heap.get? b=some o/\H b=none
 bsz:base.objs.size<=s.heap.objs.size
 funs:s.heap.FunFrames base outer
 frf:∀b∈aX outer,H b=none
 hok:bh P w H s.heap
 bare:AllBare s.gens
def CE(outer:List Env)(P:Program)(w:World)(H:Hp)(s:Shared)(Q:VK)(u:Value)(s':Shared):Prop:=
 ∃v H',s'.os=s.os/\AllBare s'.gens/\Un (aX outer) [] H H' s.heap s'.heap/\bh P w H' s'.heap/\RelV v u/\Q v H'
def CR(CX:fi)(outer:List Env)(P:Program)(w:World)(H:Hp)(s:Shared)(Q:VK)(E:XK)(r:Result)(s':Shared):Prop:=
 match r with
 | .ok (.ret u)=>CE outer P w H s Q u s'
 | .ok _=>False
 | .error e=>CX outer H s E e s'
structure FnOk(P:Program)(w:World)(K:F6)(mg:Str->Option Value)(base:Heap)(CX:fi)(k:Nat)(f:Addr)(fd:FuncData)(ps:List Str)(sp:Sp):Prop where
 len:∀vs H Q E,sp vs H Q E->vs.length=ps.length
 run:∀(A:Around) (outer:List Env) (s:Shared) (H:Hp) (args:Args) (us:List Value) (vs:List V) (Q:VK) (E:XK),Room k A->Env0 P w K mg base A outer s H->BindsTo s fd args (ps.zip us)->Vals vs us->sp vs H Q E →
  codeAny (model P w) A (.call (.ref f) args) (CR CX outer P w H s Q E) s
section
variable {X:Cx} {pins:List (Addr×Obj)} {σ:St} {H:Hp} {s s':Shared}
def Inv.env0(I:Inv X pins σ H s):Env0 X.prog X.w X.K X.mg X.base X.A X.stack s H:=
 ⟨I.ok.frames,I.ok.mod,I.bs,GI I.ok.bsz I.sz,I.stack,I.stkFree,I.hok,I.bare⟩
def Inv.after{Q:VK}{u:Value}(I:Inv X pins σ H s)(h:CE X.stack X.prog X.w H s Q u s'):EP X pins σ Q u s':=by obtain⟨v,H',os,bare,un,hok,r,q⟩:=h;obtain⟨hh,g,d,t,os'⟩:=s';obtain rfl:os'=s.os:=os;exact⟨v,H',I.call (h':=hh) (g':=g) (d':=d) (t':=t) (ch:=[]) un hok bare (λb z=>absurd z (by simp)),r,q⟩
end
def ja(sp:Sp)(dvs:List V)(E:XK)(t:TA):TE:=λσ H Q=>t σ H λvs H1=>sp (vs++dvs) H1 Q E
def Binds(K:F6)(fd:FuncData)(ps:List Str)(ds:List Value):Prop:=
 ∀(s:Shared) (us:List Value),K.In s.heap->(us++ds).length=ps.length->BindsTo s fd ⟨us,[]⟩ (ps.zip (us++ds))
def Binds.all{K:F6}{fd:FuncData}{ps:List Str}(h:∀us:List Value,us.length=ps.length->bindArgs fd ⟨us,[]⟩=pure (ps.zip us)):Binds K fd ps []:=λs us _ hl=>by rw[List.append_nil]at hl ⊢;exact .of_eq (h us hl)
def Passes(CX:fi)(X:Cx)(E:XK):Prop:=∀(pins:List (Addr×Obj)) (σ:St) (H:Hp) (s:Shared) (e:Value) (s':Shared),Inv X pins σ H s->CX X.stack H s E e s'->X.xe e s'
section
variable {X:Cx} {CX:fi} {k:Nat} {f C:Addr} {fd:FuncData} {ps:List Str} {sp:Sp} {dvs:List V} {ds:List Value} {E:XK} {x m:Str} {p pos apos:Pos} {e o:Expr} {es:List Expr} {ta:TE} {t:TA}
def BE{pins:List (Addr×Obj)}{σ:St}{H:Hp}{s:Shared}{Q:VK}{us:List Value}{vs:List V}(F:FnOk X.prog X.w X.K X.mg X.base CX k f fd ps sp)(hr:Room k X.A)(hb:Binds X.K fd ps ds)(hd:Vals dvs ds)(hx:Passes CX X E)
  (I:Inv X pins σ H s) (r:Vals vs us) (h:sp (vs++dvs) H Q E):wpAny (model X.prog X.w) X.A (call (.ref f) us) (EP X pins σ Q) X.xe s:=by
 have r2:Vals (vs++dvs) (us++ds):=r.append hd;have hl:(us++ds).length=ps.length:=by rw[←r2.length];exact F.len _ _ _ _ h
 refine wpAny_call (codeAny_mono (F.run X.A X.stack s H ⟨us,[]⟩ (us++ds) (vs++dvs) Q E hr I.env0 (hb s us I.kIn hl) r2 h) λr s' hq=>?_);cases r with
 | error e=>exact hx pins σ H s e s' I hq
 | ok fl=>
  cases fl with
  | ret u=>exact I.after hq
  | next=>exact False.elim hq
  | brk=>exact False.elim hq
  | cont=>exact False.elim hq
def xx(F:FnOk X.prog X.w X.K X.mg X.base CX k f fd ps sp)(hr:Room k X.A)(hg:Gl X x)(hm:X.mg x=some (.ref f))(hk:PySem.W.keepIn X.K (.ref f)=true)(hb:Binds X.K fd ps ds)(hd:Vals dvs ds)(hx:Passes CX X E)
  (ha:PA X (e::es) t) (hdb:(x == ("__debug__":Str))=false:=by decide) (he:starEach (e::es) X.env=(false,eval e X.env)::starEach es X.env:=by rfl) (hpl:(backTo pos (starEach es X.env)).any (·.1)=false:=by rfl) :
  PE X (.Call (.Name x p) (e::es) [] pos) (ja sp dvs E t):=by
 intro pins s σ H Q I h;refine wpAny_Call_Name_kw (fU I hg hm ?_ hdb);refine PySem.W.callWith_K (h₀:=X.base) I.ok.mod.kin hk (ax (ha pos pins s σ H _ I h) λus s1 ⟨vs,H1,I1,r,q⟩=>⟨I1.kIn,?_⟩) he hpl;exact BE F hr hb hd hx I1 r q
end
section
variable {X:Cx} {CX:fi} {k:Nat} {f C:Addr} {fd:FuncData} {ps ks:List Str} {sp:Sp} {E:XK} {x m:Str} {p pos apos kpos:Pos} {e o:Expr} {es:List Expr} {kws:List Keyword} {te ta:TE} {t tk:TA} {nm:Option Str}
variable {g:List Value->List Value->List Value} {gV:List V->List V->List V}
end
structure FnScope(N P:List Str)(sc:Scope):Prop where
 kind:sc.kind=.function
 co:sc.isCoroutine=false
 gen:sc.isGenerator=false
 nd:N.Nodup
 pre:N.take P.length=P
 par:∀x∈P,sc.names.lookup x=some .local\/sc.names.lookup x=some .cell
 nofree:∀y∈sc.names,y.2≠.free
def wA{kindOf:Str->Option NameKind}{x:Str}:∀{binds:List (Str×Value)} {m:Str->Option Value},(∀v,(x,v)∉binds)->bindL kindOf binds m x=m x
 | [],_,_=>rfl
 | (n,v)::r,m,h=>by
  unfold bindL;rw[wA λw hw=>h w (Ge _ hw)];split
  ·have:x≠n:=by rintro rfl;exact h v Gh
   simp[this]
  ·rfl
def sE{kindOf:Str->Option NameKind}{x:Str}:∀{binds:List (Str×Value)} {m:Str->Option Value},(∀v,(x,v)∉binds)->bindC kindOf binds m x=m x
 | [],_,_=>rfl
 | (n,v)::r,m,h=>by
  unfold bindC;rw[sE λw hw=>h w (Ge _ hw)];split
  ·rfl
  ·have:x≠n:=by rintro rfl;exact h v Gh
   simp[this]
def mM{kindOf:Str->Option NameKind}{x:Str}{v:Value}:∀{P:List Str} {vs:List Value} {i:Nat} {m:Str->Option Value},P.Nodup->P[i]?=some x->vs[i]?=some v->kindOf x=some .local →
  bindL kindOf (P.zip vs) m x=some v
 | [],_,_,_,_,h,_,_=>by simp at h
 | _::_,[],_,_,_,_,h,_=>by simp at h
 | p::P,w::vs,0,m,nd,h1,h2,hk=>by simp at h1 h2;subst h1;subst h2;show bindL kindOf ((p,w)::P.zip vs) m p=_;unfold bindL;rw[wA λv hv=>(List.nodup_cons.mp nd).1 (List.of_mem_zip hv).1,Hf hk];simp
 | p::P,w::vs,i+1,m,nd,h1,h2,hk=>by show bindL kindOf ((p,w)::P.zip vs) m x=_;unfold bindL;exact mM (i:=i) (List.nodup_cons.mp nd).2 (by simpa using h1) (by simpa using h2) hk
def nk{kindOf:Str->Option NameKind}{x:Str}{v:Value}:∀{P:List Str} {vs:List Value} {i:Nat} {m:Str->Option Value},P.Nodup->P[i]?=some x->vs[i]?=some v->kindOf x≠some .local →
  bindC kindOf (P.zip vs) m x=some v
 | [],_,_,_,_,h,_,_=>by simp at h
 | _::_,[],_,_,_,_,h,_=>by simp at h
 | p::P,w::vs,0,m,nd,h1,h2,hk=>by simp at h1 h2;subst h1;subst h2;show bindC kindOf ((p,w)::P.zip vs) m p=_;unfold bindC;rw[sE λv hv=>(List.nodup_cons.mp nd).1 (List.of_mem_zip hv).1,He hk];simp
 | p::P,w::vs,i+1,m,nd,h1,h2,hk=>by show bindC kindOf ((p,w)::P.zip vs) m x=_;unfold bindC;exact nk (i:=i) (List.nodup_cons.mp nd).2 (by simpa using h1) (by simpa using h2) hk
def start(N:List Str)(vs:List V):St:=vs.map some++GU (N.length-vs.length) none
def bF(CX:fi)(P:Program)(w:World)(K:F6)(mg:Str->Option Value)(base:Heap)(N:List Str)(qual:Str)(scope:Scope)(f:Addr)(cd:Value)(A:Around)(outer:List Env)(s:Shared)(H:Hp)(E:XK):Cx where
 prog:=P
 w:=w
 K:=K
 mg:=mg
 base:=base
 A:=A.deeper (envOfC qual scope s.heap.objs.size f cd)
 N:=N
 s₀:=s
 H₀:=H
 env:=envOfC qual scope s.heap.objs.size f cd
 outer:=outer
 stack:=envOfC qual scope s.heap.objs.size f cd::outer
 ex:=[]
 calm:=true
 fn:=λ_=>true
 pn:=[]
 xe:=λe s'=>wpAny (model P w) (A.deeper (envOfC qual scope s.heap.objs.size f cd)) (leaving (envOfC qual scope s.heap.objs.size f cd) e) (λ_ s''=>CX outer H s E e s'') (λe' s''=>CX outer H s E e' s'') s'
def vV{sc:Scope}{n:Nat}{x:Str}(h:sc.names.lookup x=some .cell):∃c,(cellsFrom n sc.names []).lookup x=some c:=by have q:=PySem.W.cellsFrom_some sc.names n [] (.inl h);exact Option.isSome_iff_exists.mp q
def Cz{CX:fi}{P:Program}{w:World}{K:F6}{mg:Str->Option Value}{base:Heap}{N ps:List Str}{qual:Str}{scope:Scope}{f:Addr}{cd:Value}{A:Around}{outer:List Env}{s s1:Shared}{H:Hp}{E:XK}{us:List Value}{vs:List V}
  (S:FnScope N ps scope) (hd:A.handled=none) (e0:Env0 P w K mg base A outer s H) (hl:vs.length=ps.length) (r:Vals vs us)
  (x:InCallC s s.heap.objs.size (bindL (envOfC qual scope s.heap.objs.size f cd).kindOf (ps.zip us) λ_=>none) (cellsFrom (s.heap.objs.size+1) scope.names []) (bindC (envOfC qual scope s.heap.objs.size f cd).kindOf (ps.zip us) λ_=>none) s1) :
  Inv (bF CX P w K mg base N qual scope f cd A outer s H E) [] (start N vs) H s1:=by
 have hpl:ps.length<=N.length:=by have:=congrArg List.length S.pre;rw[GZ]at this;omega
 obtain⟨h1,tk,rfl,hk⟩:=x.done;have noA:∀b:Addr,b∉(bF CX P w K mg base N qual scope f cd A outer s H E).ex:=λb z=>absurd (show b∈([]:List Addr)from z) (by simp);refine⟨⟨e0.mod,S.kind,rfl,rfl,Gw _,λy z c h1 h2=>?_,λy hy=>?_,λy c _ h=>?_,λ_=>hd,Around.frames_deeper e0.frames,.inr ⟨rfl,rfl⟩,λb z=>absurd z (noA b),e0.bs,e0.bsz,λb _ _=>noA b,λb z=>absurd z (noA b),e0.funs,e0.frf⟩,
  rfl,e0.bare,Un.kept hk,⟨_,x.toInCall.ns,λi y v h1 h2 h3=>?_⟩,λy c h=>⟨_,x.cell y c h⟩,e0.hok.fresh (Gw _),λy c h=>?_,λp hp=>absurd (show p∈([]:List (Addr×Obj))from hp) (by simp),e0.hok.kept hk,?_⟩
 ·exact name_of_addr x.apart (PySem.mem_of_lookup h1) (PySem.mem_of_lookup h2)
 ·have hy:scope.names.lookup y=some .cell\/scope.names.lookup y=some .free:=hy;rcases hy with hy|hy
  ·exact vV hy
  ·exact absurd rfl (S.nofree _ (PySem.mem_of_lookup hy))
 ·exact Nat.le_of_lt (x.above y c (PySem.mem_of_lookup h))
 ·have hi:i<vs.length:=by
   unfold start at h2;by_cases hi:i<vs.length
   ·exact hi
   ·rw[GA (by simpa using hi)]at h2;rw[List.getElem?_replicate]at h2;split at h2<;>cases h2
  have ha:vs[i]?=some v:=by
   unfold start at h2;rw[GC (by simpa using hi),Gd]at h2;cases e:vs[i]? with
   | none=>rw[e]at h2;cases h2
   | some a=>rw[e]at h2;cases h2;rfl
  obtain⟨u,hu,rv⟩:=r.get ha;have hp:ps[i]?=some y:=by rw[←S.pre,List.getElem?_take_of_lt (by omega)];exact h1
  have ndP:ps.Nodup:=by rw[←S.pre];exact S.nd.sublist (List.take_sublist _ _)
  refine⟨u,rv,?_⟩;rcases S.par y (Gk hp)with k|k
  ·exact .inl ⟨k,mM ndP hp hu k⟩
  ·obtain⟨c,e⟩:=vV (n:=s.heap.objs.size+1) k;refine .inr ⟨.inl k,c,e,?_⟩;have q:=x.cell y c e;rw[nk ndP hp hu (by show scope.names.lookup y≠_;rw[k];decide)]at q;exact q
 ·exact e0.hok.fresh (Nat.le_of_lt (x.above y c (PySem.mem_of_lookup h)))
 ·unfold start;show _=N.length;rw[Gu,Ga,List.length_replicate];omega
def oZ{CX:fi}{P:Program}{w:World}{K:F6}{mg:Str->Option Value}{base:Heap}{k:Nat}{f:Addr}{name qual:Str}{params:Arguments}{body:List Stmt}{scope:Scope}{dV kV doc pm cdv ct oc:Value}{an od:Option Addr}
  {osl:Array (Option Value)} {N ps:List Str} {sp:Sp} (lk:K.lookup f=some ⟨oc,od,.func (PySem.W.fnOf name qual params body scope dV kV doc pm an cdv ct),osl⟩) (hcd:PySem.W.codeIn K cdv qual=true) (S:FnScope N ps scope)
  (len:∀vs H Q E,sp vs H Q E->vs.length=ps.length)
  (hbody:∀(A:Around) (outer:List Env) (s:Shared) (H:Hp) (vs:List V) (Q:VK) (E:XK),Room k (A.deeper (envOfC qual scope s.heap.objs.size f cdv))->sp vs H Q E →
   ∃t,b8 (bF CX P w K mg base N qual scope f cdv A outer s H E) body t/\t { nx:=λ_ H'=>Q .non H',rt:=Q } (start N vs) H) :
  FnOk P w K mg base CX (k+1) f (PySem.W.fnOf name qual params body scope dV kV doc pm an cdv ct) ps sp:=by
 refine⟨len,λA outer s H args us vs Q E hr e0 hb r hsp=>?_⟩;have hl:=len _ _ _ _ hsp;have KX:K.In s.heap:=e0.mod.kin.keeps λb o e=>(e0.bs b o e).1;have lim:s.heap.NoLimit:=e0.mod.nolimit.keeps λb o e=>(e0.bs b o e).1;have hkind:∀y∈ps.zip us,scope.names.lookup y.1=some .local\/(scope.names.lookup y.1=some .cell/\((cellsFrom (s.heap.objs.size+1) scope.names []).lookup y.1).isSome=true):=λ⟨n,v⟩ hy=>by
  rcases S.par n (List.of_mem_zip hy).1 with q|q
  ·exact .inl q
  ·exact .inr ⟨q,PySem.W.cellsFrom_some _ _ _ (.inl q)⟩
 refine codeAny_call_function hr.depth (KX _ _ lk) rfl S.co S.gen rfl (PySem.W.codeRec_of KX hcd) (hb _ _ _ _ ?_);refine wpAny_newFunctionEnv_cells S.kind hkind λenv he s1 x=>?_;subst he;refine⟨lim.keeps x.toInCall.keep,codeAny_func ?_⟩;obtain⟨t,ht,hq⟩:=hbody A outer s H vs Q E (hr.deeper _) hsp;have I:Inv (bF CX P w K mg base N qual scope f cdv A outer s H E) [] (start N vs) H s1:=Cz S hr.hd e0 hl r x;refine wpAny_mono (ht [] s1 (start N vs) H _ I hq) (λfl s' hs=>?_) λe s' hs=>hs;have fin:∀{σ':St} {H':Hp} {v:V} {u:Value},Inv (bF CX P w K mg base N qual scope f cdv A outer s H E) [] σ' H' s'->RelV v u->Q v H'->CE outer P w H s Q u s':=
  λ{σ' H' v u} J rv q=>⟨v,H',J.os,J.bare,J.base,J.hok,rv,q⟩
 cases fl with
 | ret u=>
  obtain⟨v,σ',H',J,rv,q⟩:=hs;exact fin J rv q
 | next=>
  obtain⟨σ',H',J,q⟩:=hs;exact fin (v:=V.non) (u:=Value.none) J rfl q
 | brk=>
  obtain⟨_,_,_,q⟩:=hs;exact False.elim q
 | cont=>
  obtain⟨_,_,_,q⟩:=hs;exact False.elim q
section
variable {X:Cx} {x:Str} {p pos:Pos} {e:Expr} {es:List Expr} {t:TA} {id T:String} {r:List V->Hp->VK->Prop}
def j8(r:List V->Hp->VK->Prop)(t:TA):TE:=λσ H Q=>t σ H λvs H1=>r vs H1 Q
def bt(hc:b7 X (.builtin id) r)(hg:Gl X x)(hm:X.mg x=none)(hv:bootBuiltins x=some (.builtin id))(ha:PA X (e::es) t)(hn:x≠"__name__":=by decide)(hdb:(x == ("__debug__":Str))=false:=by decide)
  (he:starEach (e::es) X.env=(false,eval e X.env)::starEach es X.env:=by rfl) (hpl:(backTo pos (starEach es X.env)).any (·.1)=false:=by rfl):PE X (.Call (.Name x p) (e::es) [] pos) (j8 r t):=by
 intro pins s σ H Q I h;refine wpAny_Call_Name_kw (fV I hg hm hv ?_ hn hdb);exact PyProof.Rows.callWith_builtin1 (ax (ha pos pins s σ H _ I h) λus s1 ⟨vs,H1,I1,r1,q1⟩=>hc pins s1 σ H1 vs us Q I1 r1 q1) he hpl
def gH(hc:b7 X (.type T) r)(hg:Gl X x)(hm:X.mg x=none)(hv:bootBuiltins x=some (.type T))(ha:PA X (e::es) t)(hn:x≠"__name__":=by decide)(hdb:(x == ("__debug__":Str))=false:=by decide)
  (he:starEach (e::es) X.env=(false,eval e X.env)::starEach es X.env:=by rfl) (hpl:(backTo pos (starEach es X.env)).any (·.1)=false:=by rfl):PE X (.Call (.Name x p) (e::es) [] pos) (j8 r t):=by
 intro pins s σ H Q I h;refine wpAny_Call_Name_kw (fV I hg hm hv ?_ hn hdb);exact PyProof.Rows.callWith_type1 (ax (ha pos pins s σ H _ I h) λus s1 ⟨vs,H1,I1,r1,q1⟩=>hc pins s1 σ H1 vs us Q I1 r1 q1) he hpl
end
end L2
namespace HT
open PySem PyProof.Rows
section
open PySem.SeqAt
open PySem.AutoSeq1 (wpAny_loadPart')
open PySem.MeetsSeq PySem.MeetsSeq2 PySem.MeetsSeq3
end
section
variable {prog:Program} {w:World} {A:Around} {E:Value->Shared->Prop} {s:Shared}
def BS{t b:Addr}{vs ws:List Value}{Q:Value->Shared->Prop}(ht:IsTup s.heap t vs.toArray)(hb:IsTup s.heap b ws.toArray)(hv:vs≠[])
  (h1:ws=[]->Q (.ref t) s) (h2:ws≠[]->Q (.ref s.heap.objs.size) { s with heap:=s.heap.push { cls:=.type "tuple",data:=.seq (vs++ws).toArray } })
  (hsz:vs.length+ws.length<=sizeLine):wpAny (model prog w) A (binaryOp .Add (.ref t) (.ref b)) Q E s:=by
 obtain⟨⟨cls,dd,data,sl⟩,ho,hc,n,hd⟩:=id ht;obtain⟨⟨cls2,dd2,data2,sl2⟩,ho2,hc2,n2,hd2⟩:=id hb;simp only at hc hd hc2 hd2;subst hc hd hc2 hd2;have e:vs.toArray++ws.toArray=(vs++ws).toArray:=by simp
 by_cases hw:ws=[]
 ·exact concat_meets ⟨_,ho,rfl⟩ ⟨_,ho2,rfl⟩ noFill_tuple_add seq_tuple_add PySem.F.slot_tuple_add PySem.F.entry_tuple_add (PySem.F.args_tuple_add_2 _ _)
   (tuple_addW1 t b vs.toArray ws.toArray n n2 dd dd2 sl sl2 (by simpa using hv) (by simp[hw])) ⟨ho,ho2,h1 hw⟩
 ·refine concat_meets ⟨_,ho,rfl⟩ ⟨_,ho2,rfl⟩ noFill_tuple_add seq_tuple_add PySem.F.slot_tuple_add PySem.F.entry_tuple_add (PySem.F.args_tuple_add_2 _ _)
   (tuple_addW2 t b vs.toArray ws.toArray n n2 dd dd2 sl sl2 (by simpa using hv) (by simpa using hw) (by rw[Gg,Gg];exact hsz)) ⟨ho,ho2,?_⟩
  rw[e];exact h2 hw
def aL(n d:Nat):Option Int->Nat
 | none=>d
 | some v=>if v<0 then(v+(n:Int)).toNat else min v.toNat n
def vB(n d:Nat):aL n d none=d:=rfl
def xA(n d k:Nat):aL n d (some (k:Int))=min k n:=by show(if(k:Int)<0 then((k:Int)+(n:Int)).toNat else min (k:Int).toNat n)=min k n;rw[He (by omega),Gp]
def CI(n d:Nat)(hd:d<=n)(o:Option Int):aL n d o<=n:=by
 cases o with
 | none=>exact hd
 | some v=>
  show(if v<0 then(v+(n:Int)).toNat else min v.toNat n)<=n;by_cases hv:v<0
  ·rw[Hf hv];omega
  ·rw[He hv];exact Nat.min_le_right _ _
def v9(v:Int)(n d:Nat):(if v<0 then max (v+(n:Int)) 0 else min v (n:Int))=((aL n d (some v):Nat):Int):=by
 show(if v<0 then max (v+(n:Int)) 0 else min v (n:Int))=(((if v<0 then(v+(n:Int)).toNat else min v.toNat n):Nat):Int);by_cases hv:v<0
 ·simp only[Hf hv];omega
 ·simp only[He hv];omega
def zB(lo hi:Option Int)(n:Nat):Builtin.Slice.sliceAdjust lo hi 1 (n:Int)=(((aL n 0 lo:Nat):Int),((aL n n hi:Nat):Int)):=by
 have h1:¬((1:Int)<0):=by omega
 unfold Builtin.Slice.sliceAdjust;simp only[h1,if_false];refine Prod.ext ?_ ?_
 ·cases lo with
  | none=>rfl
  | some v=>exact v9 v n 0
 ·cases hi with
  | none=>rfl
  | some v=>exact v9 v n n
def Cd(i j:Nat):Builtin.Slice.slicePlaces (i:Int) (j:Int) 1=j-i:=by
 unfold Builtin.Slice.slicePlaces;have h1:(1:Int)>0:=by omega
 simp only[h1,if_true,Int.ediv_one];split<;>omega
def uq{v:Value}{o:Option Int}{Q:Option Int->Shared->Prop}(p:IsPart v o)(h:Q o s):wpAny (model prog w) A (Builtin.Slice.slicePartIndex v) Q E s:=by
 cases p with
 | none=>exact slicePart_none h
 | int i t=>exact slicePart_int h
def wg{sl:Addr}{vl vu:Value}{lo hi:Option Int}{n:Nat}{Q:Int×Int×Nat->Shared->Prop}(hs:s.heap.IsSliceOf sl vl vu .none)(pl:IsPart vl lo)(pu:IsPart vu hi)
  (h:Q (((aL n 0 lo:Nat):Int),1,aL n n hi-aL n 0 lo) s):wpAny (model prog w) A (Builtin.Slice.sliceApplied (.ref sl) (pure (n:Int))) Q E s:=by
 obtain⟨os,hos,hcs,hds⟩:=id hs;unfold Builtin.Slice.sliceApplied Builtin.Slice.sliceFields;refine F4 (F4 (wpAny_field hos hds (x:=vl) rfl (F4 (wpAny_field hos hds (x:=vu) rfl (F4 (wpAny_field hos hds (x:=.none) rfl (F5 ?_)))))));refine F4 (slicePart_none ?_);show wpAny _ _ (if((1:Int) == 0)=true then _ else _) _ _ s;rw[He (by decide)];refine F4 (uq pl (F4 (uq pu (F4 (F5 ?_)))));show wpAny _ _ (match Builtin.Slice.sliceAdjust lo hi 1 (n:Int)with|(lo,hi)=>pure (lo,(1:Int),Builtin.Slice.slicePlaces lo hi 1)) _ _ s;rw[zB lo hi n];show wpAny _ _ (pure (((aL n 0 lo:Nat):Int),(1:Int),Builtin.Slice.slicePlaces ((aL n 0 lo:Nat):Int) ((aL n n hi:Nat):Int) 1)) _ _ s;rw[Cd];exact F5 h
def Di(xs:Array Value)(i k:Nat):((Hb k).filterMap λ(m:Nat)=>xs[((i:Int)+(m:Int)*1).toNat]?).toArray=((xs.toList.drop i).take k).toArray:=by
 have e:(λ(m:Nat)=>xs[((i:Int)+(m:Int)*1).toNat]?)=λm=>xs[i+m]?:=by
  funext m;have:((i:Int)+(m:Int)*1).toNat=i+m:=by omega
  rw[this]
 rw[e];have:=pick_run xs i k;rw[List.filterMap_map]at this;have e2:((λx=>xs[x]?)∘λx=>i+x)=λm=>xs[i+m]?:=rfl;rw[e2]at this;rw[this]
def Fb{t sl:Addr}{items:Array Value}{vl vu:Value}{lo hi:Option Int}{Q:Value->Shared->Prop}(ht:IsTup s.heap t items)(hs:s.heap.IsSliceOf sl vl vu .none)(pl:IsPart vl lo)(pu:IsPart vu hi)
  (hw:¬(aL items.size 0 lo=0/\aL items.size items.size hi=items.size))
  (h:Q (.ref s.heap.objs.size) { s with heap:=s.heap.push { cls:=.type "tuple",data:=.seq ((items.toList.drop (aL items.size 0 lo)).take (aL items.size items.size hi-aL items.size 0 lo)).toArray } })
  (hsz:items.size<=sizeLine):wpAny (model prog w) A (getItem (.ref t) (.ref sl)) Q E s:=by
 have htake:sizeOk (.seq ((items.toList.drop (aL items.size 0 lo)).take (aL items.size items.size hi-aL items.size 0 lo)).toArray):=by show((items.toList.drop (aL items.size 0 lo)).take (aL items.size items.size hi-aL items.size 0 lo)).toArray.size<=sizeLine;rw[Gg,GZ,List.length_drop,Gf];omega
 have hj:aL items.size items.size hi<=items.size:=CI _ _ (Gw _) hi;obtain⟨os,hos,hcs,hds⟩:=id hs;have hTs:s.TypeIs (.ref sl) "slice":=⟨os,hos,hcs⟩;unfold getItem
 try with_reducible refine wpAny_holding ?_
 first|refine F4 (F5 ?_)|skip
 refine F4 (wpAny_sequenceKey ht.typeIs (by decide) ?_);refine F4 (Ha (name:=GP "__getitem__") ht.typeIs PyProof.Rows.slot_tuple_getitem
  (wpAny_call_entry PyProof.Rows.slot_tuple_getitem ht.typeIs entry_tuple_getitem ?_ (args_tuple_getitem _ _)))
 show wpAny _ _ (Builtin.Tuple.tupleItemsOf (.ref t) >>= _) _ _ s;refine F4 (tupleItemsOf_ ht ?_);refine F4 (wpAny_typeOf hTs ?_);rw[Hf (by decide)];refine F4 (wg hs pl pu ?_);have hno:¬((((aL items.size 0 lo:Nat):Int) == 0 && (1:Int) == 1 && (aL items.size items.size hi-aL items.size 0 lo) == items.size)=true):=by intro q;rw[GO,GO]at q;have q1:((aL items.size 0 lo:Nat):Int)=0:=eq_of_beq q.1.1;have q2:aL items.size items.size hi-aL items.size 0 lo=items.size:=eq_of_beq q.2;exact hw ⟨by omega,by omega⟩
 show wpAny _ _ (if(((aL items.size 0 lo:Nat):Int) == 0 && (1:Int) == 1 && (aL items.size items.size hi-aL items.size 0 lo) == items.size)=true then _ else _) _ _ s;rw[He hno,Di]
 first
  | exact F4 (m:=Builtin.Tuple.tupleExact _) (wpAny_newObj_type (F5 ⟨_,rfl,F5 h⟩) htake)
  | exact F4 (m:=Builtin.Tuple.tupleExact _) (wpAny_newObj_type (F4 (F5 (F5 ⟨_,rfl,F5 h⟩))) htake)
  | exact F4 (F4 (m:=Builtin.Tuple.tupleExact _) (wpAny_newObj_type (F5 (F5 ⟨_,rfl,F5 h⟩)) htake))
  | exact F4 (F4 (m:=Builtin.Tuple.tupleExact _) (wpAny_newObj_type (F5 ⟨_,rfl,F5 h⟩) htake))
end
end HT
namespace L2
open PySem PySem.Spec PyProof.Rows
abbrev TO:=St->Hp->(Option Int->Hp->Prop)->Prop
def PO(X:Cx)(e:Option Expr)(t:TO):Prop:=
 ∀(pins:List (Addr×Obj)) (s:Shared) (σ:St) (H:Hp) (Q:Option Int->Hp->Prop),Inv X pins σ H s->t σ H Q →
  wpAny (model X.prog X.w) X.A (evalPart e X.env) (λu s'=>∃o H',Inv X pins σ H' s'/\IsPart u o/\Q o H') X.xe s
def tK:TO:=λ_ H Q=>Q none H
def qX(t:TE):TO:=λσ H Q=>t σ H λx H1=>∃i,x=.int i/\Q (some i) H1
section
variable {X:Cx} {e:Expr} {te:TE} {lo hi:Option Expr} {tl th:TO} {pos p2:Pos}
def iD:PO X none tK:=by intro pins s σ H Q I h;rw[evalPart_none];exact F5 ⟨none,H,I,.none,h⟩
def fA(h:PE X e te):PO X (some e) (qX te):=by intro pins s σ H Q I hw;rw[evalPart_some];refine ax (h pins s σ H _ I hw) λu s1 ⟨x,H1,I1,r1,q1⟩=>?_;obtain⟨i,rfl,q⟩:=q1;obtain⟨t,rfl⟩:=r1;exact⟨some i,H1,I1,.int i t,q⟩
def iW(X:Cx)(r:V->Option Int->Option Int->Hp->VK->Prop):Prop:=
 ∀(pins:List (Addr×Obj)) (s:Shared) (σ:St) (H:Hp) (x:V) (v vl vu:Value) (lo hi:Option Int) (sl:Addr) (Q:VK),Inv X pins σ H s->RelV x v->s.heap.IsSliceOf sl vl vu .none->IsPart vl lo->IsPart vu hi->r x lo hi H Q →
  ∃T id,typeLookup (.type T) "__getitem__" = pure (some (.builtin id))/\s.TypeIs v T/\wpAny (model X.prog X.w) X.A (getItem v (.ref sl)) (EP X pins σ Q) X.xe s
def ue(r:V->Option Int->Option Int->Hp->VK->Prop)(te:TE)(tl th:TO):TE:=λσ H Q=>te σ H λx H1=>tl σ H1 λl H2=>th σ H2 λu H3=>r x l u H3 Q
def gD{r:V->Option Int->Option Int->Hp->VK->Prop}(hr:iW X r)(he:PE X e te)(hl:PO X lo tl)(hu:PO X hi th):PE X (.Subscript e (.Slice lo hi none p2) pos) (ue r te tl th):=by intro pins s σ H Q I h;refine Subscript_ (ax (he pins s σ H _ I h) λv s1 ⟨x,H1,I1,r1,q1⟩=>?_);refine wpAny_Slice (ax (hl pins s1 σ H1 _ I1 q1) λvl s2 ⟨l,H2,I2,pl,q2⟩=>ax (hu pins s2 σ H2 _ I2 q2) λvu s3 ⟨u,H3,I3,pu,q3⟩=>?_);rw[evalPart_none];refine F5 ?_;have I4:Inv X pins σ H3 { s3 with heap:=s3.heap.push { cls:=.type "slice",data:=.fields #[vl,vu,.none] } }:=I3.kept (t':=s3.toks) λb ob q=>F7 _ q;obtain⟨T,id,hT,ht,hg⟩:=hr pins { s3 with heap:=s3.heap.push { cls:=.type "slice",data:=.fields #[vl,vu,.none] } } σ H3 x v vl vu l u s3.heap.objs.size Q I4 r1 (Heap.IsSliceOf.new ..) pl pu q3;show wpAny (model X.prog X.w) X.A (subscriptTail e (.Slice lo hi none p2) v (.ref s3.heap.objs.size)) (EP X pins σ Q) X.xe { s3 with heap:=s3.heap.push { cls:=.type "slice",data:=.fields #[vl,vu,.none] } };exact tail_any (ops:=[.ref s3.heap.objs.size,v]) ht hT hg (by with_unfolding_all rfl)
def b5(xs:List V)(lo hi:Option Int):List V:=(xs.drop (HT.aL xs.length 0 lo)).take (HT.aL xs.length xs.length hi-HT.aL xs.length 0 lo)
def mE(xs:List V)(lo hi:Option Int):(b5 xs lo hi).length<=xs.length:=by unfold b5;rw[GZ,List.length_drop];omega
def E3(K:F6):V->Option Int->Option Int->Hp->VK->Prop:=λx lo hi H Q=>∃a xs,x=.ref a/\aj K H a xs ∧
 ¬(HT.aL xs.length 0 lo=0/\HT.aL xs.length xs.length hi=xs.length)/\∀p,H p=none->Q (.ref p) (upd H p (.tup (b5 xs lo hi)))
def Ce:iW X (E3 X.K):=by
 intro pins s σ H x v vl vu lo hi sl Q I rx hs pl pu h;obtain⟨a,xs,rfl,hx,hw,q⟩:=h;cases rx;obtain⟨its,r,ht,hz⟩:=I.tuple hx;have hlen:its.toArray.size=xs.length:=by rw[Gg];exact r.length.symm
 refine⟨"tuple",_,PyProof.Rows.slot_tuple_getitem.lookup,ht.typeIs,?_⟩;refine HT.Fb ht hs pl pu (by rw[hlen];exact hw) ?_ (by rw[hlen];exact hz);rw[hlen];refine⟨.ref s.heap.objs.size,_,I.laid (t':=s.toks) (o:=.tup (b5 xs lo hi)) (λb ob q=>F7 _ q) (Gw _) ?_,rfl,q _ (I.hok.fresh (Gw _))⟩;exact⟨GI (mE xs lo hi) hz,_,(r.drop (HT.aL xs.length 0 lo)).take (HT.aL xs.length xs.length hi-HT.aL xs.length 0 lo),IsTup.new _ _⟩
def Fe(K:F6):R2:=λx y H Q=>∃a b xs ys,x=.ref a/\y=.ref b/\aj K H a xs/\aj K H b ys/\xs≠[]/\xs.length+ys.length<=sizeLine ∧
 (ys=[]->Q (.ref a) H)/\(ys≠[]->∀p,H p=none->Q (.ref p) (upd H p (.tup (xs++ys))))
def Vals.nil_iff{xs:List V}{us:List Value}(r:Vals xs us):us=[]↔xs=[]:=by
 cases r with
 | nil=>simp
 | cons _ _=>simp
def FX:bA X (binaryOp .Add) (Fe X.K):=by intro pins s σ H x y v u Q I rx ry h;obtain⟨a,b,xs,ys,rfl,rfl,ha,hb,hx,hz,q1,q2⟩:=h;cases rx;cases ry;obtain⟨its,r1,p1,_⟩:=I.tuple ha;obtain⟨its2,r2,p2,_⟩:=I.tuple hb;refine HT.BS p1 p2 (λz=>hx (r1.nil_iff.mp z)) (λz=>⟨.ref a,H,I,rfl,q1 (r2.nil_iff.mp z)⟩) (λz=>?_) (by rw[←r1.length,←r2.length];exact hz);refine⟨.ref s.heap.objs.size,_,I.laid (t':=s.toks) (o:=.tup (xs++ys)) (λb ob q=>F7 _ q) (Gw _) ?_,rfl,q2 (λw=>z (r2.nil_iff.mpr w)) _ (I.hok.fresh (Gw _))⟩;exact⟨by rw[Gu];exact hz,_,r1.append r2,IsTup.new _ _⟩
end
def eS(n:Nat)(i:Int):Option Nat:=if 0<=i then(if i<n then some i.toNat else none)else if -(n:Int)<=i then some (i+n).toNat else none
def bC{α:Type}(xs:List α)(i:Int):Option α:=(eS xs.length i).bind λj=>xs[j]?
def sF{n:Nat}{i:Int}{j:Nat}(h:eS n i=some j):seqIndex? i n=some j/\j<n/\-(n:Int)<=i/\i<n:=by
 unfold eS at h;by_cases h0:0<=i
 ·rw[Hf h0]at h;by_cases h1:i<n
  ·rw[Hf h1]at h;have e:i.toNat=j:=GQ h;exact⟨by rw[seqIndex_of h0 h1,e],by omega,by omega,h1⟩
  ·rw[He h1]at h;cases h
 ·rw[He h0]at h;by_cases h1:-(n:Int)<=i
  ·rw[Hf h1]at h;have e:(i+n).toNat=j:=GQ h;exact⟨by rw[seqIndex_neg (by omega) h1,e],by omega,h1,by omega⟩
  ·rw[He h1]at h;cases h
def md{α:Type}{xs:List α}{i:Int}{v:α}(h:bC xs i=some v):∃j,seqIndex? i xs.length=some j/\xs[j]?=some v/\j<xs.length/\-(xs.length:Int)<=i/\i<xs.length:=by
 unfold bC at h;cases e:eS xs.length i with
 | none=>rw[e]at h;cases h
 | some j=>
  rw[e]at h;obtain⟨h1,h2,h3,h4⟩:=sF e;exact⟨j,h1,h,h2,h3,h4⟩
def eE{α:Type}{xs:List α}{j:Nat}{v:α}(h:xs[j]?=some v):bC xs (j:Int)=some v:=by
 have hj:j<xs.length:=(Gj.mp h).1;have e:eS xs.length (j:Int)=some j:=by unfold eS;rw[Hf (by omega),Hf (by omega)];simp
 unfold bC;rw[e];exact h
def za(b:Expr):Prop:=∀o i,subscripted b false o i=operate [o,i] (getItem o i)
def iA(X:Cx)(r:R2):Prop:=
 ∀(value slice:Expr) (pins:List (Addr×Obj)) (s:Shared) (σ:St) (H:Hp) (x y:V) (v u:Value) (Q:VK),Inv X pins σ H s->RelV x v->RelV y u->r x y H Q →
  subscripted slice false v u=operate [v,u] (getItem v u)->wpAny (model X.prog X.w) X.A (subscriptTail value slice v u) (EP X pins σ Q) X.xe s
def ia(X:Cx)(id:String)(r:V->List V->Hp->VK->Prop):Prop:=
 ∀(pins:List (Addr×Obj)) (s:Shared) (σ:St) (H:Hp) (x:V) (xs:List V) (v:Value) (us:List Value) (Q:VK),Inv X pins σ H s->RelV x v->Vals xs us->r x xs H Q →
  wpAny (model X.prog X.w) X.A (call (.builtin id) (v::us)) (EP X pins σ Q) X.xe s
section
variable {X:Cx} {a b:Expr} {ta tb:TE} {pos:Pos}
def ah{r:R2}(hr:iA X r)(ha:PE X a ta)(hb:PE X b tb)(hs:za b):PE X (.Subscript a b pos) (ie r ta tb):=by intro pins s σ H Q I h;exact Subscript_ (lM ha hb I h λv u s2 x y H2 I2 rx ry q=>hr a b pins s2 σ H2 x y v u Q I2 rx ry q (hs _ _))
def nz(K:F6):R2:=λx y H Q=>∃p xs i v,x=.ref p/\y=.int i/\ag K H p xs/\bC xs i=some v/\Q v H
def nZ(K:F6):R2:=λx y H Q=>∃p xs i v,x=.ref p/\y=.int i/\aj K H p xs/\bC xs i=some v/\Q v H
def Fv:R2:=λx y H Q=>∃z i c,x=.str z/\y=.int i/\z.length<=sizeLine/\bC z.cps.toList i=some c/\Q (.str ⟨#[c]⟩) H
def AI:iA X (nz X.K):=by
 intro value slice pins s σ H x y v u Q I rx ry h hs;obtain⟨p,xs,i,z,rfl,rfl,hq,he,q⟩:=h;cases rx;obtain⟨t,rfl⟩:=ry;obtain⟨its,r,pl,hz⟩:=I.list hq;obtain⟨j,h1,h2,h3,h4,h5⟩:=md he;obtain⟨w,ew,rw'⟩:=r.get h2;have hl:=r.length;have hn:=ip;have fin:EP X pins σ Q w s:=⟨z,H,I,rw',q⟩;by_cases h0:0<=i
 ·have hj:i.toNat=j:=by rw[seqIndex_of h0 h5]at h1;exact GQ h1
  exact item_listR pl.isList h0 (by omega) (by rw[hj];simpa using ew) fin hs
 ·have hj:(i+(its.toArray.size:Int)).toNat=j:=by rw[seqIndex_neg (by omega) h4]at h1;rw[Gg,←hl];exact GQ h1
  exact subscriptTail_builtinR (x:=w) pl.isList.typeIs slot_list_getitem.lookup
   (wpAny_getItem_list_neg (Q:=λr s'=>r=w/\EP X pins σ Q r s') pl.isList (by omega) (by rw[Gg]<;>omega) (by omega) (by rw[hj];simpa using ew) ⟨rfl,fin⟩) hs
def yT:iA X (nZ X.K):=by
 intro value slice pins s σ H x y v u Q I rx ry h hs;obtain⟨p,xs,i,z,rfl,rfl,hq,he,q⟩:=h;cases rx;obtain⟨t,rfl⟩:=ry;obtain⟨its,r,pl,hz⟩:=I.tuple hq;obtain⟨j,h1,h2,h3,h4,h5⟩:=md he;obtain⟨w,ew,rw'⟩:=r.get h2;have hl:=r.length;have hn:=ip;have fin:EP X pins σ Q w s:=⟨z,H,I,rw',q⟩;exact subscriptTail_builtinR (x:=w) pl.typeIs slot_tuple_getitem.lookup
  (getItem_tuple (j:=j) (Q:=λr s'=>r=w/\EP X pins σ Q r s') pl (by omega) (by omega) (by rw[Gg,←hl];exact h1) (by simpa using ew) ⟨rfl,fin⟩) hs
def wU:iA X Fv:=by
 intro value slice pins s σ H x y v u Q I rx ry h hs;obtain⟨z,i,c,rfl,rfl,hz,he,q⟩:=h;obtain⟨t,rfl⟩:=rx;obtain⟨t',rfl⟩:=ry;obtain⟨j,h1,h2,h3,h4,h5⟩:=md he;have hl:z.cps.toList.length=z.length:=by simp[Str.length]
 rw[hl]at h1 h4 h5;have hn:=ip;exact tail_any (typeIs_str s z t) slot_str_getitem.lookup (getItem_str (c:=c) (by have e1:decide (i < -(2 ^ 63:Int))=false:=Hc (by omega);have e2:decide (i ≥ 2 ^ 63)=false:=Hc (by omega);rw[e1,e2,Bool.or_false]) (by rw[h1];simpa using h2) ⟨.str ⟨#[c]⟩,H,I.tok _,⟨_,rfl⟩,q⟩) hs
def BK(its:List Value)(n j:Nat)(u:Value):Obj.mapSeq (·.setIfInBounds j u) { cls:=.type "list",data:=.seq its.toArray n }={ cls:=.type "list",data:=.seq (its.set j u).toArray n }:=by simp[Obj.mapSeq]
def Inv.lst{pins:List (Addr×Obj)}{σ:St}{H:Hp}{s:Shared}{p:Addr}{xs:List V}(I:Inv X pins σ H s)(h:H p=some (.lst xs)):
  ∃(its:List Value) (n:Nat),Vals xs its/\s.heap.get? p=some { cls:=.type "list",data:=.seq its.toArray n }/\xs.length<=sizeLine:=by
 obtain⟨z,its,n,r,e⟩:=I.hok p _ h;exact⟨its,n,r,e,z⟩
def Inv.lstUpd{pins:List (Addr×Obj)}{σ:St}{H:Hp}{s:Shared}{p:Addr}{xs ys:List V}{its its':List Value}{n n':Nat}{f:Obj->Obj}(I:Inv X pins σ H s)(h:H p=some (.lst xs))
  (ho:s.heap.get? p=some { cls:=.type "list",data:=.seq its.toArray n }) (hf:f { cls:=.type "list",data:=.seq its.toArray n }={ cls:=.type "list",data:=.seq its'.toArray n' }) (r:Vals ys its') (hz:ys.length<=sizeLine) (t:Nat) :
  Inv X pins σ (upd H p (.lst ys)) { s with heap:=s.heap.update p f,toks:=t }:=by
 have e:(s.heap.update p f).get? p=some { cls:=.type "list",data:=.seq its'.toArray n' }:=by rw[Heap.get?_update_self f ho (by rw[hf]<;>rfl),hf]
 refine I.write (x:=p) (e:=p) (by rw[h];trivial) (.inl rfl) (λb u hb q=>(Heap.get?_update_other _ _ (Ne.symm hb)).trans q) ⟨_,e⟩ ?_;exact⟨hz,its',n',r,e⟩
def qN:V->V->V->Hp->(Hp->Prop)->Prop:=λo i v H Q=>∃p xs k j,o=.ref p/\i=.int k/\H p=some (.lst xs)/\eS xs.length k=some j/\Q (upd H p (.lst (xs.set j v)))
def set_list:sk X qN:=by
 intro pins s σ H o i v ov iv u Q I ro ri rv h;obtain⟨p,xs,k,j,rfl,rfl,hp,hj,q⟩:=h;cases ro;obtain⟨t,rfl⟩:=ri;obtain⟨its,n,r,ho,hz⟩:=I.lst hp;obtain⟨h1,h2,h3,h4⟩:=sF hj;have hl:=r.length;have hn:=ip;have I':Inv X pins σ (upd H p (.lst (xs.set j v))) { s with heap:=s.heap.update p (Obj.mapSeq (·.setIfInBounds j u)) }:=
  I.lstUpd hp ho (BK its n j u) (r.set rv j) (by rw[List.length_set];exact hz) s.toks
 by_cases h0:0<=k
 ·have hk:k.toNat=j:=by rw[seqIndex_of h0 h4]at h1;exact GQ h1
  exact PySem.W.ki_setAt ho h0 (by omega) (by rw[Gg,←hl];exact h4) (by rw[hk];exact⟨_,I',q⟩)
 ·have hk:(k+(its.toArray.size:Int)).toNat=j:=by rw[seqIndex_neg (by omega) h3]at h1;rw[Gg,←hl];exact GQ h1
  exact PySem.W.ki_setBack ho (by omega) (by rw[Gg,←hl];exact h3) (by omega) (by rw[hk];exact⟨_,I',q⟩)
def CD(lo hi:Option Int)(n:Nat):(sliceBounds lo hi none n).1=((HT.aL n 0 lo:Nat):Int)/\(sliceBounds lo hi none n).2.1=((HT.aL n n hi:Nat):Int)/\(sliceBounds lo hi none n).2.2=1:=by
 refine⟨?_,?_,rfl⟩
 ·cases lo with
  | none=>simp[sliceBounds,HT.aL]
  | some i=>
   simp only[sliceBounds,HT.aL,Option.getD_none,show (1:Int)>0 by decide,if_true];by_cases h:i<0
   ·simp only[h,if_true]<;>omega
   ·simp only[h,if_false]<;>omega
 ·cases hi with
  | none=>simp[sliceBounds,HT.aL]
  | some i=>
   simp only[sliceBounds,HT.aL,Option.getD_none,show (1:Int)>0 by decide,if_true];by_cases h:i<0
   ·simp only[h,if_true]<;>omega
   ·simp only[h,if_false]<;>omega
def Bc(its:List Value)(lo hi:Option Int):slicePick its.toArray lo hi none=((its.drop (HT.aL its.length 0 lo)).take (HT.aL its.length its.length hi-HT.aL its.length 0 lo)).toArray:=by obtain⟨h1,h2,h3⟩:=CD lo hi its.toArray.size;unfold slicePick;rw[h1,h2,h3];simp only[sliceRange_one,pick_run,Gg]<;>rfl
def qr(K:F6):V->Option Int->Option Int->Hp->VK->Prop:=λx lo hi H Q=>∃a xs,x=.ref a/\ag K H a xs/\∀p,H p=none->Q (.ref p) (upd H p (.lst (b5 xs lo hi)))
def Ft:iW X (qr X.K):=by intro pins s σ H x v vl vu lo hi sl Q I rx hs pl pu h;obtain⟨a,xs,rfl,hx,q⟩:=h;cases rx;obtain⟨its,r,ht,hz⟩:=I.list hx;have hlen:=r.length;refine⟨"list",_,slot_list_getitem.lookup,ht.isList.typeIs,?_⟩;refine wpAny_getItem_list_slice ht.isList hs pl pu .none (by simp) ?_ (by rw[Gg]<;>omega);rw[Bc,←hlen];refine⟨.ref s.heap.objs.size,_,I.laid (t':=s.toks) (o:=.lst (b5 xs lo hi)) (λb ob q=>F7 _ q) (Gw _) ?_,rfl,q _ (I.hok.fresh (Gw _))⟩;exact⟨GI (mE xs lo hi) hz,_,0,(r.drop (HT.aL xs.length 0 lo)).take (HT.aL xs.length xs.length hi-HT.aL xs.length 0 lo),F8 _ rfl⟩
def je:V->Bool
 | .non=>true
 | .bl _=>true
 | .int _=>true
 | .str _=>true
 | _=>false
def ij:V->V->Bool
 | .non,.non=>true
 | .bl a,.bl b=>a == b
 | .bl a,.int b=>(if a then 1 else 0) == b
 | .int a,.bl b=>a == (if b then 1 else 0)
 | .int a,.int b=>a == b
 | .str a,.str b=>a == b
 | _,_=>false
def Fl{A:Around}{s:Shared}{y x:V}{u v:Value}(ry:RelV y u)(rx:RelV x v)(fy:je y=true)(fx:je x=true):SeqAt.EqAt A s u v (ij y x):=by
 cases y with
 | non=>
  cases ry;cases x with
  | non=>cases rx;exact SeqAt.EqAt.same _
  | bl b=>cases rx;exact SeqAt.EqAt.none_bool b
  | int b=>obtain⟨t,rfl⟩:=rx;exact SeqAt.EqAt.none_int b t
  | str b=>obtain⟨t,rfl⟩:=rx;exact SeqAt.EqAt.none_str b t
  | _=>exact absurd (show false=true from fx) Gr
 | bl a=>
  cases ry;cases x with
  | non=>cases rx;exact SeqAt.EqAt.bool_none a
  | bl b=>cases rx;exact SeqAt.EqAt.bool_bool a b
  | int b=>obtain⟨t,rfl⟩:=rx;exact SeqAt.EqAt.bool_int a b t
  | str b=>obtain⟨t,rfl⟩:=rx;exact SeqAt.EqAt.bool_str a b t
  | _=>exact absurd (show false=true from fx) Gr
 | int a=>
  obtain⟨t',rfl⟩:=ry;cases x with
  | non=>cases rx;exact SeqAt.EqAt.int_none a t'
  | bl b=>cases rx;exact SeqAt.EqAt.int_bool a t' b
  | int b=>obtain⟨t,rfl⟩:=rx;exact SeqAt.EqAt.int_int a t' b t
  | str b=>obtain⟨t,rfl⟩:=rx;exact SeqAt.EqAt.int_str a t' b t
  | _=>exact absurd (show false=true from fx) Gr
 | str a=>
  obtain⟨t',rfl⟩:=ry;cases x with
  | non=>cases rx;exact SeqAt.EqAt.str_none a t'
  | bl b=>cases rx;exact SeqAt.EqAt.str_bool a t' b
  | int b=>obtain⟨t,rfl⟩:=rx;exact SeqAt.EqAt.str_int a t' b t
  | str b=>obtain⟨t,rfl⟩:=rx;exact SeqAt.EqAt.str_str a t' b t
  | _=>exact absurd (show false=true from fx) Gr
 | _=>exact absurd (show false=true from fy) Gr
def gO(x:V)(u:Value):Bool:=match u with
 | .none=>ij .non x
 | .bool b=>ij (.bl b) x
 | .int i _=>ij (.int i) x
 | .str z _=>ij (.str z) x
 | _=>false
def Aj{x y:V}{u:Value}(r:RelV y u)(f:je y=true):gO x u=ij y x:=by
 cases y with
 | non=>cases r;rfl
 | bl b=>cases r;rfl
 | int i=>obtain⟨t,rfl⟩:=r;rfl
 | str z=>obtain⟨t,rfl⟩:=r;rfl
 | _=>exact absurd (show false=true from f) Gr
def nO{A:Around}{s:Shared}{x:V}{v:Value}(rx:RelV x v)(fx:je x=true):∀{xs:List V} {us:List Value},Vals xs us->xs.all je=true->∀u∈us,SeqAt.EqAt A s u v (gO x u)
 | _,_,.nil,_=>λu hu=>by cases hu
 | y::xs,u::us,.cons r t,f=>λu' hu=>by
  rw[List.all_cons,GO]at f;rcases Gq.mp hu with rfl|hu
  ·rw[Aj r f.1];exact Fl r rx f.1 fx
  ·exact nO rx fx t f.2 u' hu
def Ab:b7 X (.builtin "len") (λxs H Q=>∃p ys,xs=[.ref p]/\(ag X.K H p ys\/aj X.K H p ys)/\Q (.int ys.length) H):=by
 intro pins s σ H xs us Q I r h;obtain⟨p,ys,rfl,hq,q⟩:=h;obtain⟨u,rfl,rx⟩:=vals1 r;cases rx;have hn:=ip;rcases hq with hq|hq
 ·obtain⟨its,r',pl,hz⟩:=I.list hq;have hlen:=r'.length;exact Calls.call_len_list pl.isList (by simp only[Gg]<;>omega) ⟨.int ys.length,H,I.tok _,⟨s.toks+1,by rw[Gg,hlen]⟩,q⟩
 ·obtain⟨its,r',pl,hz⟩:=I.tuple hq;have hlen:=r'.length;exact len_tuple pl (by simp only[Gg]<;>omega) ⟨.int ys.length,H,I.tok _,⟨s.toks+1,by rw[Gg,hlen]⟩,q⟩
def DN:b7 X (.builtin "len") (λxs H Q=>∃z,xs=[.str z]/\z.length<=sizeLine/\Q (.int z.length) H):=by intro pins s σ H xs us Q I r h;obtain⟨z,rfl,hz,q⟩:=h;obtain⟨u,rfl,t,rfl⟩:=vals1 r;have hn:=ip;exact len_str (by omega) ⟨.int z.length,H,I.tok _,⟨_,rfl⟩,q⟩
def AH:b7 X (.type "tuple") (λxs H Q=>∃p ys,xs=[.ref p]/\((ag X.K H p ys/\∀l,H l=none->Q (.ref l) (upd H l (.tup ys)))\/(aj X.K H p ys/\Q (.ref p) H))):=by
 intro pins s σ H xs us Q I r h;obtain⟨p,ys,rfl,h⟩:=h;obtain⟨u,rfl,rx⟩:=vals1 r;cases rx;rcases h with⟨hq,q⟩|⟨hq,q⟩
 ·obtain⟨its,r',pl,hz⟩:=I.list hq;have hlen:=r'.length;refine call_tuple_list pl.isList (λh' kp=>?_) (by simp only[Gg]<;>omega);have I1:Inv X pins σ H { s with heap:=h' }:=I.kept (t':=s.toks) kp;have I2:Inv X pins σ (upd H h'.objs.size (.tup ys)) { s with heap:=h'.push { cls:=.type "tuple",data:=.seq its.toArray } }:=
   I1.laid (t':=s.toks) (λb o e=>F7 _ e) (Gw _) (show bp X.prog X.w _ _ _ (.tup ys)from⟨hz,its,r',IsTup.new _ _⟩)
  exact⟨.ref h'.objs.size,_,I2,rfl,q _ (I1.hok.fresh (Gw _))⟩
 ·obtain⟨its,r',pl,hz⟩:=I.tuple hq;exact call_tuple_same pl ⟨.ref p,H,I,rfl,q⟩
def i5(K:F6)(T:String)(x:V)(H:Hp):Prop:=match x with
 | .str _=>T = "str"
 | .int _=>T = "int"
 | .ref p=>(T = "list"/\∃xs,ag K H p xs)\/(T = "tuple"/\∃o,K.lookup p=some o/\o.cls=.type "tuple"/\o.dict=none) ∨
   (T = "dict"/\((∃kvs,H p=some (.dK kvs))\/∃kvs,H p=some (.dT kvs)))\/(T = "set"/\∃S n,H p=some (.set S n))
 | _=>False
def Fm{pins:List (Addr×Obj)}{σ:St}{H:Hp}{s:Shared}{T:String}{x:V}{v:Value}(I:Inv X pins σ H s)(r:RelV x v)(ty:i5 X.K T x H):
  s.TypeIs v T/\∀a,v=.ref a->∃ob,s.heap.get? a=some ob/\ob.dict=none:=by
 cases x with
 | str z=>
  obtain⟨t,rfl⟩:=r;cases(show T = "str" from ty);exact⟨typeIs_str s z t,λ_ e=>nomatch e⟩
 | int i=>
  obtain⟨t,rfl⟩:=r;cases(show T = "int" from ty);exact⟨typeIs_int s i t,λ_ e=>nomatch e⟩
 | ref p=>
  cases r;rcases ty with⟨rfl,xs,hq⟩|⟨rfl,o,hk,hc,hd⟩|⟨rfl,hk⟩|⟨rfl,S,n,hk⟩
  ·obtain⟨its,_,pl,_⟩:=I.list hq;refine⟨pl.isList.typeIs,λa e=>?_⟩;cases e;obtain⟨o,n,e,c,hd,_⟩:=pl;exact⟨o,e,hd⟩
  ·refine⟨⟨o,I.kIn p o hk,hc⟩,λa e=>?_⟩;cases e;exact⟨o,I.kIn _ o hk,hd⟩
  ·have z:∃o,s.heap.get? p=some o/\o.ExactDict:=by
    rcases hk with⟨kvs,hk⟩|⟨kvs,hk⟩
    ·obtain⟨_,_,_,_,o,_,_,e,ex,_⟩:=I.hok p _ hk;exact⟨o,e,ex⟩
    ·obtain⟨_,_,_,_,o,_,_,e,ex,_⟩:=I.hok p _ hk;exact⟨o,e,ex⟩
   obtain⟨o,e,ex⟩:=z;refine⟨⟨o,e,ex.1⟩,λa e2=>?_⟩;cases e2;exact⟨o,e,ex.2.1⟩
  ·obtain⟨o,_,_,_,e,ex,_⟩:=I.hok p _ hk;refine⟨⟨o,e,ex.1⟩,λa e2=>?_⟩;cases e2;exact⟨o,e,ex.2.1⟩
 | _=>exact False.elim ty
def oB(K:F6)(T:String)(r:V->List V->Hp->VK->Prop)(to:TE)(t:TA):TE:=λσ H Q=>to σ H λx H1=>i5 K T x H1/\t σ H1 λxs H2=>r x xs H2 Q
variable {o e:Expr} {es:List Expr} {to:TE} {t:TA} {name:Str} {apos cpos:Pos} {T id:String} {r:V->List V->Hp->VK->Prop}
def E1(pa:PlainAttrs T)(slot:Slot T name id)(hty:typeOf (.builtin id)=pure (.type "method_descriptor"))(hm:ia X id r)(ho:PE X o to)(ha:PA X (e::es) t)
  (hbase:attributeBase o name X.env (eval o X.env)=eval o X.env:=by rfl)
  (hfew:((backTo cpos (starEach (e::es) X.env)).all (λx=>!x.1) && (backToKw cpos (keywordEach [] X.env)).all (λx=>x.1.isSome)
   && decide ((e::es).length+([]:List Keyword).length+(if([]:List Keyword).isEmpty then 0 else 1)<30))=true:=by rfl)
  (hline:(apos.endLine == cpos.line)=true:=by rfl) (hs:starEach (e::es) X.env=(false,eval e X.env)::starEach es X.env:=by rfl) (hplain:(backTo cpos (starEach es X.env)).any (·.1)=false:=by rfl) :
  PE X (.Call (.Attribute o name apos) (e::es) [] cpos) (oB X.K T r to t):=by
 intro pins s σ H Q I h;refine wpAny_Call_method_late hbase hfew hline rfl (ax (ho pins s σ H _ I h) λv s1 ⟨x,H1,I1,r1,ty,q1⟩=>?_);obtain⟨h1,h2⟩:=Fm I1 r1 ty;refine⟨T,id,pa,slot,hty,h1,h2,?_⟩;have hA:=ha cpos pins s1 σ H1 _ I1 q1;rw[hs]at hA ⊢;refine Calls.callWith_builtin (by show(false || (backTo cpos (starEach es X.env)).any (·.1))=false;rw[hplain]<;>rfl) (Calls.evalArgs_plain ?_);exact ax hA λus s2 ⟨vs,H2,I2,r2,q2⟩=>hm pins s2 σ H2 x vs v us Q I2 r1 r2 q2
end
def xy(X:Cx)(id:String)(r:V->List V->Hp->VK->Prop):Prop:=
 ∀(pins:List (Addr×Obj)) (s:Shared) (σ:St) (H:Hp) (x:V) (xs:List V) (v:Value) (us:List Value) (Q:VK),Inv X pins σ H s->RelV x v->Vals xs us->r x xs H Q →
  wpAny (model X.prog X.w) X.A (call (.builtin id) (v::us)) (EP X pins σ Q) X.xe s
def Vals.one:∀{x:V} {us:List Value},Vals [x] us->∃u,us=[u]/\RelV x u:=vals1
def Vals.rep{xs:List V}{us:List Value}(h:Vals xs us):∀k:Nat,Vals (GU k xs).flatten (GU k us).flatten
 | 0=>.nil
 | k+1=>by rw[List.replicate_succ,List.replicate_succ,List.flatten_cons,List.flatten_cons];exact Vals.append h (Vals.rep h k)
def foldl_rep(its:List Value):∀(k:Nat) (acc:List Value),
  List.foldl (λx1 x2=>x1++x2) acc.toArray (GU k its.toArray)=(acc++(GU k its).flatten).toArray
 | 0,acc=>by simp
 | k+1,acc=>by
  have e:acc.toArray++its.toArray=(acc++its).toArray:=by simp
  have e2:(acc++its)++(GU k its).flatten=acc++(GU (k+1) its).flatten:=by rw[List.replicate_succ,List.flatten_cons,List.append_assoc]
  rw[←e2,←foldl_rep its k (acc++its),←e,List.replicate_succ,List.foldl_cons]
section
variable {X:Cx} {pins:List (Addr×Obj)} {σ:St} {H:Hp} {s:Shared} {l b:Addr} {xs ys zs:List V}
def Inv.lset{its its':List Value}{n:Nat}{f:Array Value->Array Value}{t':Nat}(I:Inv X pins σ H s)(hH:H l=some (.lst xs))
  (e:s.heap.get? l=some { cls:=.type "list",data:=.seq its.toArray n }) (hf:f its.toArray=its'.toArray) (hv:Vals ys its') (hz:ys.length<=sizeLine) :
  Inv X pins σ (upd H l (.lst ys)) { s with heap:=s.heap.update l (Obj.mapSeq f),toks:=t' }:=by
 have q:=PySem.IsL.update e f;rw[hf]at q;refine I.write (x:=l) (e:=l) (by rw[hH];exact trivial) (.inl rfl) (λb' u hb hu=>(Heap.get?_update_other s.heap (Obj.mapSeq f) (Ne.symm hb)).trans hu) ⟨_,q⟩ ?_;exact⟨hz,its',_,hv,q⟩
def Inv.lnew{its:List Value}{t':Nat}(I:Inv X pins σ H s)(hv:Vals ys its)(hz:ys.length<=sizeLine):
  Inv X pins σ (upd H s.heap.objs.size (.lst ys)) { s with heap:=s.heap.push { cls:=.type "list",data:=.seq its.toArray },toks:=t' }:=
 I.laid (λ_ _ q=>F7 _ q) (Gw _) ⟨hz,its,0,hv,F8 _ rfl⟩
def Inv.fresh(I:Inv X pins σ H s):H s.heap.objs.size=none:=I.hok.fresh (Gw _)
def Inv.lstM(I:Inv X pins σ H s)(hH:H l=some (.lst xs)):xs.length<=sizeLine/\∃(its:List Value) (n:Nat),Vals xs its/\xs.length=its.length/\s.heap.get? l=some { cls:=.type "list",data:=.seq its.toArray n }:=by obtain⟨z,its,n,r,e⟩:=I.hok l _ hH;exact⟨z,its,n,r,r.length,e⟩
def rX{n:Nat}(h:n<=sizeLine):Builtin.List.listTooLong n=false:=by unfold Builtin.List.listTooLong;exact Hc (by omega)
end
section
variable {X:Cx}
def yt:V->List V->Hp->VK->Prop:=λx vs H Q=>∃l xs y,x=.ref l/\vs=[y]/\H l=some (.lst xs)/\xs.length<sizeLine/\Q .non (upd H l (.lst (xs++[y])))
def bT:xy X "list.append" yt:=by intro pins s σ H x vs v us Q I rx rv h;obtain⟨l,xs,y,rfl,rfl,hH,hz,q⟩:=h;cases rx;obtain⟨u,rfl,ru⟩:=rv.one;obtain⟨z,its,n,r,hl,e⟩:=I.lstM hH;refine call_meets F.slot_list_append ⟨_,e,rfl⟩ F.entry_list_append (F.args_list_append_2 _ _) (PySem.list_append l its.toArray n u (by rw[Gg];omega)) ⟨e,?_⟩;refine⟨.non,_,I.lset (its':=its++[u]) hH e (by simp) (r.append (.cons ru .nil)) ?_,rfl,q⟩;rw[Gu,List.length_singleton];omega
def Ba:V->List V->Hp->VK->Prop:=λx vs H Q=>∃l b xs zs,x=.ref l/\vs=[.ref b]/\H l=some (.lst xs)/\H b=some (.lst zs)/\xs.length+zs.length<=sizeLine/\Q .non (upd H l (.lst (xs++zs)))
def Dd:xy X "list.extend" Ba:=by
 intro pins s σ H x vs v us Q I rx rv h;obtain⟨l,b,xs,zs,rfl,rfl,hH,hB,hz,q⟩:=h;cases rx;obtain⟨u,rfl,ru⟩:=rv.one;cases ru;obtain⟨z,its,n,r,hl,e⟩:=I.lstM hH;obtain⟨z2,its2,n2,r2,hl2,e2⟩:=I.lstM hB;have hsz:its.toArray.size+its2.toArray.size<=sizeLine:=by rw[Gg,Gg];omega
 have hlong:¬(!its.toArray.isEmpty && Builtin.List.listTooLong (its.toArray.size+its2.toArray.size))=true:=by rw[rX hsz,Bool.and_false];exact Gr
 refine call_meets F.slot_list_extend ⟨_,e,rfl⟩ F.entry_list_extend (F.args_list_extend_2 _ _)
  (AutoSeq1.list_extend_list_list_0 l its.toArray n b its2.toArray n2 hlong (by rw[Gg];omega) (by omega)) ⟨e,e2,?_⟩
 refine⟨.non,_,I.lset (its':=its++its2) hH e (by simp) (r.append r2) ?_,rfl,q⟩;rw[Gu];omega
def tu:R2:=λx y H Q=>∃l b xs zs,x=.ref l/\y=.ref b/\H l=some (.lst xs)/\H b=some (.lst zs)/\xs.length+zs.length<=sizeLine/\∀p,H p=none->Q (.ref p) (upd H p (.lst (xs++zs)))
def oM:bA X (binaryOp .Add) tu:=by
 intro pins s σ H x y v u Q I rx ry h;obtain⟨l,b,xs,zs,rfl,rfl,hH,hB,hz,q⟩:=h;cases rx;cases ry;obtain⟨z,its,n,r,hl,e⟩:=I.lstM hH;obtain⟨z2,its2,n2,r2,hl2,e2⟩:=I.lstM hB;refine PySem.P.add_list e e2 ?_ (by rw[Gg,Gg];omega);have ea:its.toArray++its2.toArray=(its++its2).toArray:=by simp
 rw[ea];exact⟨.ref _,_,I.lnew (t':=s.toks) (r.append r2) (by rw[Gu];omega),rfl,q _ I.fresh⟩
def yw:R2:=λx y H Q=>∃l k xs,x=.ref l/\y=.int k/\H l=some (.lst xs)/\-(2 ^ 63)<=k/\k<2 ^ 63/\xs.length*k.toNat<=sizeLine ∧
 ∀p,H p=none->Q (.ref p) (upd H p (.lst (GU k.toNat xs).flatten))
def len_rep{α:Type}(xs:List α)(k:Nat):(GU k xs).flatten.length=k*xs.length:=by
 induction k with
 | zero=>simp
 | succ k ih=>rw[List.replicate_succ,List.flatten_cons,Gu,ih,Nat.succ_mul,Nat.add_comm]
def pQ:bA X (binaryOp .Mult) yw:=by
 intro pins s σ H x y v u Q I rx ry h;obtain⟨l,k,xs,rfl,rfl,hH,h1,h2,hz,q⟩:=h;cases rx;obtain⟨t,rfl⟩:=ry;obtain⟨z,its,n,r,hl,e⟩:=I.lstM hH;have hlen:its.toArray.size*k.toNat<=sizeLine:=by rw[Gg,←hl];exact hz
 have hcap:¬its.toArray.size*k.toNat>(2 ^ 63-1) / 8:=by
  have:(sizeLine:Nat)<=(2 ^ 63-1) / 8:=by decide
  omega
 have hfit:¬(!Builtin.List.listFitsIndex k)=true:=by rw[fitsIndex_both h1 h2];exact Gr
 have hlong:¬Builtin.List.listTooLong (its.toArray.size*k.toNat)=true:=by rw[rX hlen];exact Gr
 have hnew:List.foldl (λx1 x2=>x1++x2) #[] (GU (if its.toArray.isEmpty=true then 0 else k.toNat) its.toArray)=(GU k.toNat its).flatten.toArray:=by
  have f0:∀m:Nat,List.foldl (λx1 x2=>x1++x2) #[] (GU m its.toArray)=(GU m its).flatten.toArray:=λm=>by have:=foldl_rep its m [];rw[List.nil_append]at this;exact this
  rw[f0];cases its with
  | nil=>simp
  | cons a r'=>rw[He (by simp)]
 refine wpAny_binaryOp_repeat_ref (T:="list") (U:="int") (by decide) ⟨_,e,rfl⟩ (λs'=>typeIs_int s' k t) noFill_list_mul F.fills_int_mul F.slot_int_rmul repeat_list F.slot_int_index.lookup
  (call_meets F.slot_int_rmul (typeIs_int s k t) F.entry_int_rmul (F.args_int_rmul_2 _ _) (int___rmul___int_list k t l its.toArray n)
   ⟨e,rfl,⟨_,e,rfl⟩,call_meets F.slot_list_mul ⟨_,e,rfl⟩ F.entry_list_mul (F.args_list_mul_2 _ _) (AutoListH.list___mul___list_int_3 l its.toArray n k t hfit hcap hlong) ⟨e,?_⟩⟩)
 rw[hnew];exact⟨.ref _,_,I.lnew (t':=s.toks) (r.rep k.toNat) (by rw[len_rep,Nat.mul_comm];exact hz),rfl,q _ I.fresh⟩
end
section
variable {prog:Program} {w:World} {A:Around} {E:Value->Shared->Prop} {s:Shared}
end
section
variable {X:Cx}
end
end L2
namespace Att
open PySem PySem.W PySem.Calls PyProof.Rows
def E2{P:Params}{h:Heap}:∀(ns:List Int) (vs:List Value),WellAll P h vs (ns.map WData.int)->IntsAre vs ns:=by
 intro ns;induction ns with
 | nil=>
  intro vs w;rw[List.map_nil]at w;cases w;exact .nil
 | cons n ns ih=>
  intro vs w;rw[List.map_cons]at w;cases w with
  | cons a b=>
   cases a;exact .cons _ _ (ih _ b)
def yH{l:OpenLaw}{n:Nat}(hn:l.most=some n){P:Params}{h:Heap}{args:List WData}{vals:List Value}
  (hpre:l.row.toRowW.claim.pre args=true) (hwl:WellAll P h vals args) :
  ∃a vs ns,vals=[Value.ref a]/\args=[WData.list (ns.map WData.int)]/\h.get? a=some { cls:=.type "list",data:=.seq vs.toArray }/\IntsAre vs ns/\ns.length<=n:=by
 have hsh:WShape.hasAll [] args [.list .int]=true:=(pre_splitW hpre).1;have hc:l.pre.holds [] { args:=args }=true:=(pre_splitW hpre).2;obtain⟨d,r,rfl,h1,h2⟩:=hasAllW_cons hsh;obtain rfl:=hasAllW_nil h2;obtain⟨xs,rfl,h3⟩:=hasW_list h1;obtain⟨ns,rfl⟩:=items_int h3;have hlen:ns.length<=n:=by
  unfold OpenLaw.pre at hc;have h4:(WTm.not (.lt (.lit (.int (n:Int))) (.len (.arg 0)))).holds [] { args:=[.list (ns.map .int)] }=true:=by have h4:=(holds_andW hc).1;rw[hn]at h4;exact h4
  have h5:=condW_of h4 (w_not (w_lt w_lit (w_len_list (w_arg rfl))));rw[Ga]at h5;refine Nat.le_of_not_lt λq=>?_;have q':(n:Int)<((ns.length:Nat):Int):=by omega
  first
   | (rw[Hd q']at h5;exact absurd h5 (by decide))
   | (simp at h5;omega)
 cases hwl with
 | cons w1 w2=>
  cases w2;cases w1 with
  | list ho hall=>exact⟨_,_,ns,rfl,rfl,ho,E2 ns _ hall,hlen⟩
def Bx(l:OpenLaw)(args:List WData):l.row.toRowW.claim.post args (.bool true) args=true:=
 postW_of (r:=l.row.toRowW) (X:=(true == true))
  (show WShape.has [] (.bool true) .bool=true by first|rfl|decide|simp [WShape.has,WShape.arms,WShape.armsAll])
  (show(WTm.eq .res (.lit (.bool true))).value [] { args:=args,res:=some (.bool true),after:=args }=some (.bool (true == true))from w_eq_bool (w_res rfl) w_lit) rfl
def Fj{l:OpenLaw}{n:Nat}{q:Program}{loose:List Str}{XP:(Str->Option Value)->Heap->Prop}{YP:World->Heap->Prop}{d:DefRec}
  (hn:l.most=some n) (hdf:d.params.defaults=[])
  (call:∀(w:World) (s₀ s₁:Shared) (mg mb:Str->Option Value) (fa:Addr) (o:Obj) (pm cd doc:Value) (a:Addr) (vs:List Value) (ns:List Int),
   Ground q loose [] XP w s₀ mg mb s₁.heap->YP w s₁.heap →
   s₁.heap.get? fa=some o->o.data=.func (docDef d.name d.params d.body d.scope pm cd doc)->s₁.heap.CodeRec cd d.name->mg d.name=some (.ref fa) →
   s₁.heap.get? a=some { cls:=.type "list",data:=.seq vs.toArray }->IntsAre vs ns->ns.length<=n->s₁.gens = #[] →
   codeAny (model l.prog w) callerA (.call (.ref fa) ⟨[.ref a],[]⟩) (λr s'=>r=.ok (.ret (.bool true))/\OldK s₁.heap s'.heap/\s'.os=s₁.os/\AllBare s'.gens) s₁) :
  WalkO q loose XP YP l.row.toRowW d [] (λf vs=>PySem.call f vs):=by
 intro w s₀ s₁ mg mb G Y fa o pm cd doc dV kV ho hd hcd hD hmg hg args vals as hpre hlay hrd hwl hlo;obtain rfl:dV=.none:=Dflts.none hD hdf;obtain rfl:kV=.none:=Dflts.noKw hD;obtain⟨a,vs,ns,rfl,rfl,hobj,hints,hlen⟩:=yH hn hpre hwl;refine enter_call (codeAny_mono (call w s₀ s₁ mg mb fa o pm cd doc a vs ns G Y ho (fd_plain hd) hcd hmg hobj hints hlen hg) λr s' hq=>?_);obtain⟨rfl,h2,h3,h4⟩:=hq;exact⟨.inl ⟨.bool true,.bool true,[],rfl,λ_=>rfl,.bool true,Bx l _,λ_=>⟨List.Pairwise.nil,λ_ hm=>(nomatch hm)⟩⟩,h2,h3,h4⟩
section
variable {prog:Program} {w:World} {A:Around} {E:Value->Shared->Prop} {s:Shared} {K:Frag}
end
end Att
namespace L2
open PySem PySem.Spec PyProof.Rows
def qW:∀{vs:List Value} {ns:List Int},IntsAre vs ns->Vals (ns.map V.int) vs
 | _,_,.nil=>.nil
 | _,_,.cons n t h=>.cons ⟨t,rfl⟩ (qW h)
def f7(s:Stmt):Arguments:=match s with
 | .FunctionDef _ a _ _ _ _ _ _ _ _=>a
 | _=>{ posonlyargs:=[],args:=[],vararg:=none,kwonlyargs:=[],kw_defaults:=[],kwarg:=none,defaults:=[] }
def dQ(s:Stmt):List Stmt:=match s with
 | .FunctionDef _ _ b _ _ _ _ _ _ _=>b
 | _=>[]
def aJ(s:Stmt):Scope:=match s with
 | .FunctionDef _ _ _ _ _ _ sc _ _ _=>sc
 | _=>{ kind:=.function,names:=[],isGenerator:=false,isCoroutine:=false }
abbrev dm:fi:=λ_ _ _ _ _ _=>False
abbrev E0:XK:=λ_ _ _=>False
def Cr{X:Cx}:Passes dm X E0:=λ_ _ _ _ _ _ _ h=>h.elim
structure Fun(K:F6)(x qual:Str)(st:Stmt)(f:Addr)(fd:FuncData):Prop where
 ex:∃(oc:Value) (od:Option Addr) (kV doc pm:Value) (an:Option Addr) (cdv ct:Value) (osl:Array (Option Value)),
  fd=PySem.W.fnOf x qual (f7 st) (dQ st) (aJ st) .none kV doc pm an cdv ct/\K.lookup f=some ⟨oc,od,.func fd,osl⟩/\PySem.W.codeIn K cdv qual=true
 kp:PySem.W.keepIn K (.ref f)=true
section
variable {P:Program} {w:World} {K:F6} {mg:Str->Option Value} {base:Heap}
def Fun.ok{x qual:Str}{st:Stmt}{f:Addr}{fd:FuncData}{N ps:List Str}{k:Nat}{sp:Sp}(F:Fun K x qual st f fd)(S:FnScope N ps (aJ st))(len:∀vs H Q E,sp vs H Q E->vs.length=ps.length)
  (hbody:∀(cdv:Value) (A:Around) (outer:List Env) (s:Shared) (H:Hp) (vs:List V) (Q:VK) (E:XK),Room k (A.deeper (envOfC qual (aJ st) s.heap.objs.size f cdv))->sp vs H Q E →
   ∃t,b8 (bF dm P w K mg base N qual (aJ st) f cdv A outer s H E).nox (dQ st) t/\t { nx:=λ_ H'=>Q .non H',rt:=Q } (start N vs) H):FnOk P w K mg base dm (k+1) f fd ps sp:=by
 obtain⟨oc,od,kV,doc,pm,an,cdv,ct,osl,rfl,lk,hcd⟩:=F.ex;refine oZ lk hcd S len λA outer s H vs Q E hr hsp=>?_;obtain⟨t,h,q⟩:=hbody cdv A outer s H vs Q E hr hsp;exact⟨t,h.nox,q⟩
def Fun.binds{x qual:Str}{st:Stmt}{f:Addr}{fd:FuncData}{ps:List Str}(F:Fun K x qual st f fd)
  (h:∀(kV doc pm:Value) (an:Option Addr) (cdv ct:Value) (us:List Value),us.length=ps.length->bindArgs (PySem.W.fnOf x qual (f7 st) (dQ st) (aJ st) .none kV doc pm an cdv ct) ⟨us,[]⟩=pure (ps.zip us)):Binds K fd ps []:=by
 obtain⟨oc,od,kV,doc,pm,an,cdv,ct,osl,rfl,lk,hcd⟩:=F.ex;exact .all (h kV doc pm an cdv ct)
def w9{x qual:Str}{st:Stmt}{f:Addr}{oc:Value}{od an:Option Addr}{osl:Array (Option Value)}{kV doc pm cdv ct:Value}(l:K.lookup f=some ⟨oc,od,.func (PySem.W.fnOf x qual (f7 st) (dQ st) (aJ st) .none kV doc pm an cdv ct),osl⟩)
  (c:PySem.W.codeIn K cdv qual=true) (k:PySem.W.keepIn K (.ref f)=true):Fun K x qual st f (PySem.W.fnOf x qual (f7 st) (dQ st) (aJ st) .none kV doc pm an cdv ct):=⟨⟨oc,od,kV,doc,pm,an,cdv,ct,osl,rfl,l,c⟩,k⟩
end
def eV{A:Around}{k:Nat}(hr:Room k A):A.units+1<cLine:=Nat.lt_of_le_of_lt (Nat.add_le_add_left (by decide:1<=64) _) hr.units
section
variable {X:Cx}
def pv(i:Nat){x:Str}{pos:Pos}(hN:X.N[i]?=some x:=by rfl)(hv:lx X.env.scope x:=by first|exact Or.inl rfl|exact Or.inr (Or.inl rfl)|exact Or.inr (Or.inr rfl))(hd:(x == ("__debug__":Str))=false:=by decide)
  (hcd:(x == ("__classdict__":Str))=false:=by decide):PE X (.Name x pos) (n8 i):=FY hN hv hd hcd
end
def aC{A B:Prop}(h:B):if false=true then A else B:=by rw[He Gr];exact h
def ay{A B:Prop}(h:A):if true=true then A else B:=by rw[Hf rfl];exact h
def fD{c A B:Prop}[Decidable c](h1:c->A)(h2:¬c->B):if c then A else B:=by
 by_cases h:c
 ·rw[Hf h];exact h1 h
 ·rw[He h];exact h2 h
structure Blk where
 s:Shared
 H:Hp
 fp:List Addr
 C:Addr
def cO(names:List (Str×NameKind))(cells:List (Str×Addr)):List (Str×Addr):=
 names.foldl (λacc p=>if p.2 == .free then(p.1,(cells.lookup p.1).getD 0)::acc else acc) []
def Aq(sc out:Scope):Bool:=sc.names.all λp=>p.2 != .cell && (p.2 != .local || sc.names.lookup p.1 == some .local) && (p.2 != .free || out.names.lookup p.1 == some .cell || out.names.lookup p.1 == some .free)
def lD(sc:Scope)(N:List Str)(js:List Nat):Bool:=js.all λj=>decide (j<N.length) && (sc.names.lookup (N.getD j "") == some .free)
def dh(n:Nat)(js:List Nat)(σ:St):St:=GU n none++js.map λj=>(σ[j]?).join
def lE(cells:List (Str×Addr)):∀(names:List (Str×NameKind)) (acc:List (Str×Addr)) (x:Str) (c:Addr),
  (names.foldl (λacc p=>if p.2 == .free then(p.1,(cells.lookup p.1).getD 0)::acc else acc) acc).lookup x=some c →
  ((x,NameKind.free)∈names/\c=(cells.lookup x).getD 0)\/acc.lookup x=some c
 | [],acc,x,c,h=>.inr h
 | (n,k)::r,acc,x,c,h=>by
  rw[List.foldl_cons]at h;rcases lE cells r _ x c h with⟨h1,h2⟩|h1
  ·exact .inl ⟨Ge _ h1,h2⟩
  ·cases hk:(k == NameKind.free)with
   | false=>
    simp only[hk]at h1;exact .inr h1
   | true=>
    simp only[hk,if_true]at h1;rw[GY]at h1;cases hx:(x == n)with
    | false=>rw[hx]at h1;exact .inr h1
    | true=>
     rw[hx]at h1;have e1:x=n:=by simpa using hx
     have e2:k=.free:=by simpa using hk
     subst e1 e2;exact .inl ⟨Gh,(GQ h1).symm⟩
def uX(cells:List (Str×Addr)):∀(names:List (Str×NameKind)) (acc:List (Str×Addr)) (x:Str),
  ((x,NameKind.free)∈names\/(acc.lookup x).isSome=true)->((names.foldl (λacc p=>if p.2 == .free then(p.1,(cells.lookup p.1).getD 0)::acc else acc) acc).lookup x).isSome=true
 | [],acc,x,h=>by
  rcases h with h|h
  ·simp at h
  ·exact h
 | (n,k)::r,acc,x,h=>by
  rw[List.foldl_cons];apply uX cells r;rcases h with h|h
  ·rcases Gq.mp h with e|h
   ·right;cases e;simp[GY]
   ·exact .inl h
  ·right;cases hk:(k == NameKind.free)with
   | false=>simpa[hk]using h
   | true=>
    simp only[hk,if_true,GY];cases hx:(x == n)with
    | true=>rfl
    | false=>exact h
def ni{env:Env}{sc:Scope}(h:∀p∈sc.names,p.2=.free->∃c,env.cells.lookup p.1=some c):closureFor sc env=pure (cO sc.names env.cells):=by
 have go:∀(names:List (Str×NameKind)) (acc:List (Str×Addr)),(∀p∈names,p.2=NameKind.free->∃c,env.cells.lookup p.1=some c) →
   (forIn names acc λ(p:Str×NameKind) (r:List (Str×Addr))=>(match p with|(name,kind)=>if(kind == NameKind.free)=true then do let c ←cellOf env name;pure (ForInStep.yield ((name,c)::r))else pure (ForInStep.yield r):Sem _)) =
   pure (names.foldl (λacc p=>if p.2 == .free then(p.1,(env.cells.lookup p.1).getD 0)::acc else acc) acc):=by
  intro names;induction names with
  | nil=>intro acc _;rfl
  | cons p r ih=>
   intro acc hp;obtain⟨n,k⟩:=p;rw[List.forIn_cons,List.foldl_cons];cases hk:(k == NameKind.free)with
   | false=>
    simp only[hk,GV,if_false];exact ih acc λq hq=>hp q (Ge _ hq)
   | true=>
    obtain⟨c,hc⟩:=hp (n,k) Gh (by simpa using hk);have e:cellOf env n=pure c:=by unfold cellOf;rw[show env.cells.lookup n=some c from hc]
    simp only[hk,if_true,e];have hc':env.cells.lookup n=some c:=hc;rw[hc'];exact ih _ λq hq=>hp q (Ge _ hq)
 unfold closureFor cO;have:=go sc.names [] h;simp only[this];rfl
def jR(X:Cx)(ifs:List Expr)(t:TT):Prop:=
 ∀(pins:List (Addr×Obj)) (s:Shared) (σ:St) (H:Hp) (Q:Bool->Hp->Prop),Inv X pins σ H s->t σ H Q →
  wpAny (model X.prog X.w) X.A (forIn ifs true λc r=>if r=true then do let ok ←isTrue c X.env (eval c X.env);pure (ForInStep.yield ok)else pure (ForInStep.yield r)) (TP X pins σ Q) X.xe s
def rR:TT:=λ_ H Q=>Q true H
def fJ{X:Cx}:jR X [] rR:=λ_ _ _ H _ I h=>wpAny_tests_nil ⟨H,I,h⟩
def fY{X:Cx}{c:Expr}{t:TT}(h:PT X c t):jR X [c] t:=λpins s σ H Q I hq=>wpAny_tests_one (h pins s σ H Q I hq)
def CV{prog:Program}{w:World}{A:Around}{R:Result->Shared->Prop}{t0:Shared}{elt tgt iter:Expr}{ifs:List Expr}{sc:Scope}{ps:Pos}{itv acc:Value}{ce:Env}(Wd:Nat->Shared->Prop)
  (step:∀k t,Wd k t->wpAny (model prog w) A (pyNext itv) (λgot t1=>
   match got with
   | none=>R (.ok .next) t1
   | some u=>wpAny (model prog w) A (letOwnedTupleGo tgt itv u) (λ_ t2=>wpAny (model prog w) A (assign tgt ce u) (λ_ t3=>
     wpAny (model prog w) A (forIn ifs true λc r=>if r=true then do let ok ←isTrue c ce (eval c ce);pure (ForInStep.yield ok)else pure (ForInStep.yield r)) (λyes t4=>
      if yes=true then wpAny (model prog w) A (eval elt ce) (λval t5=>wpAny (model prog w) A (call (.builtin "list.append") [acc,val]) (λ_ t6=>∃m,m<k/\Wd m t6) (λ_ _=>False) t5) (λ_ _=>False) t4
      else ∃m,m<k/\Wd m t4) (λ_ _=>False) t3) (λ_ _=>False) t2) (λ_ _=>False) t1) (λ_ _=>False) t)
  (k0:Nat) (start:Wd k0 t0):codeAny (model prog w) A (.compLoop (.ListComp elt [⟨tgt,iter,ifs,0⟩] sc ps) 0 itv acc ce) R t0:=by
 refine codeAny_loop rfl Wd (λk t hW=>?turn) k0 start
 case turn=>
  have nox:∀{α:Type} {m:Sem α} {Q:α->Shared->Prop} {E:Value->Shared->Prop} {z:Shared},wpAny (model prog w) A m Q (λ_ _=>False) z->wpAny (model prog w) A m Q E z:=λh=>wpAny_mono h (λ_ _ q=>q) λ_ _ f=>f.elim;show wpAny _ A ((compTurn (.ListComp elt [⟨tgt,iter,ifs,0⟩] sc ps) 0 itv acc ce).onRaise (λx=>do noteFrame x ce;theTreesLotGoes x)) _ _ t;apply wpAny_noted;rw[compTurn_list];refine F4 (wpAny_standAt (F4 (nox (wpAny_mono (step k t hW) (λgot t1 h1=>?_) λ_ _ f=>f))));cases got with
  | none=>exact F5 h1
  | some u=>
   refine F4 (nox (wpAny_mono h1 (λ_ t2 h2=>?_) λ_ _ f=>f));refine F4 (nox (wpAny_mono h2 (λ_ t3 h3=>?_) λ_ _ f=>f));refine F4 (nox (wpAny_mono h3 (λyes t4 h4=>?_) λ_ _ f=>f));cases yes with
   | false=>
    rw[He Gr]at h4;exact F5 ⟨rfl,h4⟩
   | true=>
    rw[Hf rfl]at h4;refine F4 (F4 (nox (wpAny_mono h4 (λval t5 h5=>?_) λ_ _ f=>f)));exact F4 (nox (wpAny_mono h5 (λ_ t6 h6=>F5 (F5 ⟨rfl,h6⟩)) λ_ _ f=>f))
section
variable {X:Cx} {pins:List (Addr×Obj)} {σ:St} {H:Hp} {s:Shared}
def dO(its:List Value)(n:Nat):Obj:={ cls:=.type "list",data:=.seq its.toArray n }
def FZ{sc out:Scope}(h:Aq sc out=true){p:Str×NameKind}(hp:p∈sc.names)(hf:p.2=.free):out.names.lookup p.1=some .cell\/out.names.lookup p.1=some .free:=by have:=GK.mp h p hp;simp only[hf,GO,Bool.or_eq_true,beq_iff_eq,bne_iff_ne,ne_eq,not_true,false_or]at this;exact this.2
def jW{sc:Scope}{env:Env}{x:Str}:∀{names:List (Str×NameKind)} {k:NameKind},(names.map λ(p:Str×NameKind)=>match p with|(n,k)=>if(k == NameKind.free && env.scope.kind == .function && env.kindOf n == some .cell)then(n,NameKind.cell)else(n,k)).lookup x=some k →
  ∃k',names.lookup x=some k'/\(k'=k\/(k'=.free/\k=.cell))
 | [],_,h=>by simp at h
 | (n,q)::r,k,h=>by
  rw[List.map_cons]at h;rw[GY];cases hx:(x == n)with
  | true=>
   refine⟨q,rfl,?_⟩;by_cases hc:(q == NameKind.free && env.scope.kind == .function && env.kindOf n == some .cell)=true
   ·simp only[hc,if_true,GY,hx]at h;right;simp only[GO,beq_iff_eq]at hc;exact⟨hc.1.1,(GQ h).symm⟩
   ·left;have h2:List.lookup x ((n,q)::(r.map λ(p:Str×NameKind)=>match p with|(n,k)=>if(k == NameKind.free && env.scope.kind == .function && env.kindOf n == some .cell)then(n,NameKind.cell)else(n,k)))=some k:=by have h3:=h;dsimp only at h3;rw[He hc]at h3;exact h3
    rw[GY,hx]at h2;exact GQ h2
  | false=>
   have:List.lookup x (r.map λ(p:Str×NameKind)=>match p with|(n,k)=>if(k == NameKind.free && env.scope.kind == .function && env.kindOf n == some .cell)then(n,NameKind.cell)else(n,k))=some k:=by
    by_cases hc:(q == NameKind.free && env.scope.kind == .function && env.kindOf n == some .cell)=true
    ·simpa only[hc,if_true,GY,hx]using h
    ·dsimp only at h;rw[He hc,GY,hx]at h;exact h
   exact jW (sc:=sc) this
def iG{names:List (Str×NameKind)}{x:Str}{k:NameKind}(h:names.lookup x=some k):(x,k)∈names:=PySem.mem_of_lookup h
def vF{sc:Scope}{x:Str}{cells:List (Str×Addr)}(h:(x,NameKind.free)∈sc.names):∃c,(cO sc.names cells).lookup x=some c:=
 Option.isSome_iff_exists.mp (uX cells sc.names [] x (.inl h))
def Inv.stk_lt(I:Inv X pins σ H s){b:Addr}(hb:b∈aX X.stack):b<s.heap.objs.size:=by
 rcases Gq.mp (I.stkSub b hb)with e|h
 ·rw[e];exact I.lt
 ·obtain⟨_,o,ho,_⟩:=I.ok.funs.mem h;exact GH (F9 ho) I.sz
def Inv.cell_lt(I:Inv X pins σ H s){x:Str}{c:Addr}(h:X.env.cells.lookup x=some c):c<s.heap.objs.size:=by obtain⟨v,q⟩:=I.cell x c h;exact q.lt
def Inv.pin_lt(I:Inv X pins σ H s){p:Addr×Obj}(h:p∈X.pn++pins):p.1<s.heap.objs.size:=F9 (I.pin p h).1
def tQ{n:Nat}{js:List Nat}{i:Nat}{v:V}(h:(dh n js σ)[i]?=some (some v)):∃k j,i=n+k/\js[k]?=some j/\σ[j]?=some (some v):=by
 unfold dh at h;by_cases hi:i<n
 ·rw[GC (by simpa using hi),List.getElem?_replicate]at h;split at h<;>cases h
 ·rw[GA (by simpa using Nat.le_of_not_lt hi),List.length_replicate,Gd]at h;cases e:js[i-n]? with
  | none=>rw[e]at h;cases h
  | some j=>
   rw[e]at h;refine⟨i-n,j,by omega,e,?_⟩;have h':(σ[j]?).join=some v:=by simpa using h
   cases q:σ[j]? with
   | none=>rw[q]at h';cases h'
   | some o=>
    rw[q]at h';have:o=some v:=h';rw[this]
def jo(J:It)(n:Nat)(js:List Nat)(g:TG)(tc:TT)(te:TE)(σ:St)(H:Hp)(Q:VK):Prop:=
 ∃W:Nat->Nat->List V->Hp->Prop,(∃m,W 0 m [] H)/\∀i m ys H',W i m ys H' →
  (J.stop i H'/\∀p,H' p=none->Q (.ref p) (upd H' p (.lst ys))) ∨
  (J.go i H'/\ys.length<sizeLine/\∃N:List V->Hp->Prop,(∀ys' H2,N ys' H2->∃m',m'<m/\W (i+1) m' ys' H2)/\∀x H2,J.yld i H' x H2->g x (dh n js σ) H2 λσ2 H3=>tc σ2 H3 λb H4=>
   if b=true then te σ2 H4 λv H5=>N (ys++[v]) H5 else N ys H4)
def oV(n:Nat)(js:List Nat)(wi:TI)(g:TG)(tc:TT)(te:TE):TE:=λσ H Q=>wi σ H λJ H1=>jo J n js g tc te σ H1 Q
structure TurnAt(X:Cx)(tg:Expr)(J:It)(fp:List Addr)(it:Addr)(tn:Nat->Heap->Prop):Prop where
 obj:∀i h,tn i h->∀b∈fp,∃o,h.get? b=some o/\∀v,o.data≠.cell v
 keep:∀i h h',tn i h->(∀b∈fp,∀o,h.get? b=some o->h'.get? b=some o)->tn i h'
 item:∀(i:Nat) (pins:List (Addr×Obj)) (s:Shared) (σ:St) (H:Hp) (E:Value->Shared->Prop),Inv X pins σ H s->(∀b∈fp,cN X pins H b)->tn i s.heap->J.go i H →
  wpAny (model X.prog X.w) X.A (pyNext (.ref it)) (λr s1=>∃u,r=some u ∧
   wpAny (model X.prog X.w) X.A (letOwnedTupleGo tg (.ref it) u) (λ_ s2=>∃x H',Inv X pins σ H' s2/\RelV x u/\J.yld i H x H'/\tn (i+1) s2.heap/\∀b∈fp,H' b=none) E s1) E s
 done:∀(i:Nat) (pins:List (Addr×Obj)) (s:Shared) (σ:St) (H:Hp) (E:Value->Shared->Prop),Inv X pins σ H s->(∀b∈fp,cN X pins H b)->tn i s.heap->J.stop i H →
  wpAny (model X.prog X.w) X.A (pyNext (.ref it)) (λr s1=>r=none/\Inv X pins σ H s1) E s
 self:∀(A:Around) (i:Nat) (s:Shared) (Q:Value->Shared->Prop) (E:Value->Shared->Prop),tn i s.heap->Q (.ref it) s->wpAny (model X.prog X.w) A (pyIter (.ref it)) Q E s
def Turn.at_{Y:Cx}{tg:Expr}{J:It}{fp:List Addr}{it:Addr}{tn:Nat->Heap->Prop}(T:Turn Y.prog Y.w Y.K tg J fp it tn)(hc:Y.calm=true):TurnAt Y tg J fp it tn:=⟨T.obj,T.keep,T.item Y rfl rfl rfl hc,T.done Y rfl rfl rfl hc,T.self⟩
end
def iX{K:F6}{a:Addr}{xs:List V}{n:Nat}{js:List Nat}{g:TG}{tc:TT}{te:TE}{Q:VK}{σ:St}{H:Hp}(Pv:Nat->List V->Hp->Prop)(hz:xs.length<=sizeLine)(h0:Pv 0 [] H)(hl:∀i ys H,i<=xs.length->Pv i ys H->ag K H a xs/\ys.length<=i)
  (hs:∀i x ys H,xs[i]?=some x->Pv i ys H->g x (dh n js σ) H λσ2 H3=>tc σ2 H3 λb H4=>if b=true then te σ2 H4 λv H5=>Pv (i+1) (ys++[v]) H5 else Pv (i+1) ys H4)
  (hd:∀ys H p,Pv xs.length ys H->H p=none->Q (.ref p) (upd H p (.lst ys))):jo (fB K a) n js g tc te σ H Q:=by
 refine⟨λi m ys H=>m=xs.length-i/\i<=xs.length/\Pv i ys H,⟨xs.length,by simp,Nat.zero_le _,h0⟩,?_⟩;rintro i m ys H ⟨rfl,hi,p⟩;have q:=hl i ys H hi p;by_cases hlt:i<xs.length
 ·refine .inr ⟨⟨xs,xs[i],q.1,by simp[hlt]⟩,by have:=q.2;omega,Pv (i+1),λys' H' p'=>⟨xs.length-(i+1),by omega,rfl,hlt,p'⟩,λx H' y=>?_⟩;obtain⟨e,y⟩:=y;subst e;exact hs i x ys _ (y xs q.1) p
 ·have e:i=xs.length:=by omega
  subst e;exact .inl ⟨⟨xs,q.1,Gw _⟩,λp' hp=>hd ys H p' p hp⟩
def mY{K:F6}{a:Addr}{xs:List V}{n:Nat}{js:List Nat}{g:TG}{tc:TT}{te:TE}{Q:VK}{σ:St}{H:Hp}(Pv:Nat->List V->Hp->Prop)(hz:xs.length<=sizeLine)(h0:Pv 0 [] H)(hl:∀i ys H,i<=xs.length->Pv i ys H->aj K H a xs/\ys.length<=i)
  (hs:∀i x ys H,xs[i]?=some x->Pv i ys H->g x (dh n js σ) H λσ2 H3=>tc σ2 H3 λb H4=>if b=true then te σ2 H4 λv H5=>Pv (i+1) (ys++[v]) H5 else Pv (i+1) ys H4)
  (hd:∀ys H p,Pv xs.length ys H->H p=none->Q (.ref p) (upd H p (.lst ys))):jo (dU K a) n js g tc te σ H Q:=by
 refine⟨λi m ys H=>m=xs.length-i/\i<=xs.length/\Pv i ys H,⟨xs.length,by simp,Nat.zero_le _,h0⟩,?_⟩;rintro i m ys H ⟨rfl,hi,p⟩;have q:=hl i ys H hi p;by_cases hlt:i<xs.length
 ·refine .inr ⟨⟨xs,xs[i],q.1,by simp[hlt]⟩,by have:=q.2;omega,Pv (i+1),λys' H' p'=>⟨xs.length-(i+1),by omega,rfl,hlt,p'⟩,λx H' y=>?_⟩;obtain⟨e,y⟩:=y;subst e;exact hs i x ys _ (y xs q.1) p
 ·have e:i=xs.length:=by omega
  subst e;exact .inl ⟨⟨xs,q.1,Gw _⟩,λp' hp=>hd ys H p' p hp⟩
def fz{lo:Int}{N n:Nat}{js:List Nat}{g:TG}{tc:TT}{te:TE}{Q:VK}{σ:St}{H:Hp}(Pv:Nat->List V->Hp->Prop)(hz:N<=sizeLine)(h0:Pv 0 [] H)(hl:∀i ys H,i<=N->Pv i ys H->ys.length<=i)
  (hs:∀i ys H,i<N->Pv i ys H->g (.int (lo+i)) (dh n js σ) H λσ2 H3=>tc σ2 H3 λb H4=>if b=true then te σ2 H4 λv H5=>Pv (i+1) (ys++[v]) H5 else Pv (i+1) ys H4)
  (hd:∀ys H p,Pv N ys H->H p=none->Q (.ref p) (upd H p (.lst ys))):jo (dv lo N) n js g tc te σ H Q:=by
 refine⟨λi m ys H=>m=N-i/\i<=N/\Pv i ys H,⟨N,by simp,Nat.zero_le _,h0⟩,?_⟩;rintro i m ys H ⟨rfl,hi,p⟩;have q:=hl i ys H hi p;by_cases hlt:i<N
 ·refine .inr ⟨hlt,by omega,Pv (i+1),λys' H' p'=>⟨N-(i+1),by omega,rfl,hlt,p'⟩,λx H' y=>?_⟩;obtain⟨e,y⟩:=y;subst e y;exact hs i ys _ hlt p
 ·have e:i=N:=by omega
  subst e;exact .inl ⟨Gw _,λp' hp=>hd ys H p' p hp⟩
structure Cal(P:Program)(w:World)(K:F6)(mg:Str->Option Value)(base:Heap)(x:Str)(k:Nat)(ps:List Str)(sp:Sp):Prop where
 ex:∃(f:Addr) (fd:FuncData),mg x=some (.ref f)/\PySem.W.keepIn K (.ref f)=true/\Binds K fd ps []/\FnOk P w K mg base dm k f fd ps sp
structure Dfn(K:F6)(mg:Str->Option Value)(x:Str)(st:Stmt)(ps:List Str):Prop where
 ex:∃(f:Addr) (fd:FuncData),mg x=some (.ref f)/\Fun K x x st f fd/\Binds K fd ps []
section
variable {P:Program} {w:World} {K:F6} {mg:Str->Option Value} {base:Heap}
def Dfn.ok{x:Str}{st:Stmt}{N ps:List Str}{k:Nat}{sp:Sp}(D:Dfn K mg x st ps)(S:FnScope N ps (aJ st))(len:∀vs H Q E,sp vs H Q E->vs.length=ps.length)
  (hbody:∀(X:Cx) (hX:∃f cdv A outer s H E,X=(bF dm P w K mg base N x (aJ st) f cdv A outer s H E).nox/\Room k X.A) (H:Hp) (vs:List V) (Q:VK) (E:XK),sp vs H Q E →
   ∃t,b8 X (dQ st) t/\t { nx:=λ_ H'=>Q .non H',rt:=Q } (start N vs) H):Cal P w K mg base x (k+1) ps sp:=by
 obtain⟨f,fd,hm,F,hb⟩:=D.ex;exact⟨f,fd,hm,F.kp,hb,F.ok S len λcdv A outer s H vs Q E hr h=>hbody _ ⟨f,cdv,A,outer,s,H,E,rfl,hr⟩ H vs Q E h⟩
end
section
variable {X:Cx}
def aE{x:Str}{k j:Nat}{ps:List Str}{sp:Sp}{e:Expr}{es:List Expr}{t:TA}{p pos:Pos}(C:Cal X.prog X.w X.K X.mg X.base x j ps sp)(hr:Room k X.A)(ha:PA X (e::es) t)(hjk:j<=k:=by decide)(hg:Gl X x:=by rfl)(hdb:(x == ("__debug__":Str))=false:=by decide)
  (he:starEach (e::es) X.env=(false,eval e X.env)::starEach es X.env:=by rfl) (hpl:(backTo pos (starEach es X.env)).any (·.1)=false:=by rfl) :
  PE X (.Call (.Name x p) (e::es) [] pos) (ja sp [] E0 t):=by
 obtain⟨f,fd,hm,hk,hb,F⟩:=C.ex;exact xx F (hr.mono hjk) hg hm hk hb .nil Cr ha hdb he hpl
def v8:bA X (binaryOp .FloorDiv) (rI (λ_ j=>0<j/\j<2 ^ 64) λi j=>.int (i / j)):=lh λi j _ _ _ _ _ hc q=>by
 have h1:(0:Int)<j:=hc.1;have h2:j<2 ^ 64:=hc.2;refine floordiv_int (by omega) (by rw[Int.fdiv_eq_ediv_of_nonneg i (by omega)];exact q) (.inl (PyProof.noPylong_of_log2 ?_));have h0:j.natAbs≠0:=by omega
 have h64:j.natAbs<2 ^ 64:=by omega
 have:=(Nat.log2_lt h0).mpr h64;omega
def dR(H:Hp):V->String->Prop
 | .non,n=>n = "NoneType"
 | .bl _,n=>n = "bool"
 | .int _,n=>n = "int"
 | .str _,n=>n = "str"
 | .ref a,n=>(n = "list"/\∃xs,H a=some (.lst xs))\/(n = "tuple"/\∃xs,H a=some (.tup xs))
 | _,_=>False
def dR.ty{K:F6}{H:Hp}{x:V}{n:String}(h:dR H x n):TyOf K H x (.type n):=by
 cases x with
 | non=>cases(show n = "NoneType" from h);exact .non
 | bl b=>cases(show n = "bool" from h);exact .bl b
 | int i=>cases(show n = "int" from h);exact .int i
 | str z=>cases(show n = "str" from h);exact .str z
 | ref a=>
  rcases h with⟨rfl,xs,e⟩|⟨rfl,xs,e⟩
  ·exact .lst e
  ·exact .tup e
 | _=>exact False.elim h
def gW(a b c d e:Bool):String->Option Bool
 | "tuple"=>some a|"int"=>some b|"bool"=>some c|"list"=>some d|"str"=>some e|_=>none
def fS:String->String->Option Bool
 | "NoneType"=>gW false false false false false
 | "bool"=>gW false true true false false
 | "int"=>gW false true false false false
 | "str"=>gW false false false false true
 | "list"=>gW false false false true false
 | "tuple"=>gW true false false false false
 | _=>λ_=>none
def Dn{K:F6}{n T:String}{b:Bool}(h:fS n T=some b):PySem.W.kitOne K (.type n) (.type T)=some b:=by
 unfold fS at h;split at h<;>first
  | (unfold gW at h;split at h<;>first|(cases h;kernel_rfl)|cases h)
  | cases h
def tZ:List V->Hp->VK->Prop:=λxs H Q=>∃x n T b,xs=[x,.ty T]/\dR H x n/\fS n T=some b/\Q (.bl b) H
def hJ:b7 X (.builtin "isinstance") tZ:=by intro pins s σ H xs us Q I r h;obtain⟨x,n,T,b,rfl,hk,hb,q⟩:=h;obtain⟨u,w',rfl,r1,r2⟩:=vals2 r;cases(show w'=Value.type T from r2);exact FW I r1 hk.ty (Dn hb) λtk=>⟨.bl b,H,I.tok tk,rfl,q⟩
def sL{k:Bool}:∀{bs:List Bool} {us:List Value},Vals (bs.map V.bl) us->us.countP (gO (.bl k))=bs.countP (· == k)
 | [],us,r=>by cases r;rfl
 | b::bs,us,r=>by
  cases r with
  | cons r t=>
   cases r;rw[List.countP_cons,List.countP_cons,sL t];rfl
def wX(K:F6):V->List V->Hp->VK->Prop:=λx xs H Q=>∃(p:Addr) (bs:List Bool) (k:Bool),x=.ref p/\xs=[.bl k]/\ag K H p (bs.map V.bl)/\Q (.int ((bs.countP (· == k):Nat):Int)) H
def AN:ia X "list.count" (wX X.K):=by
 intro pins s σ H x xs v us Q I rx rv h;obtain⟨p,bs,k,rfl,rfl,hq,q⟩:=h;cases rx;obtain⟨u,rfl,ru⟩:=rv.one;cases ru;obtain⟨its,r,pl,hz⟩:=I.list hq;obtain⟨⟨cls,dd,data,sl⟩,n,ho,hc,hdd,hd⟩:=id pl;simp only at hc hd hdd;subst hc hd hdd;refine call_meets PySem.F.slot_list_count ⟨_,ho,rfl⟩ PySem.F.entry_list_count (PySem.F.args_list_count_2 _ _) (SeqAt.list_countAt p its.toArray n none sl (.bool k) (gO (.bl k)))
  ⟨ho,λy hy=>nO (x:=.bl k) rfl rfl r (by rw[List.all_map,GK];intro x _;rfl) y (by simpa using hy),?_⟩
 refine⟨.int _,H,I.tok _,⟨_,rfl⟩,?_⟩;have e:its.toArray.toList.countP (gO (.bl k))=bs.countP (· == k):=sL r;rw[e];exact q
def lB(K:F6):List V->Hp->VK->Prop:=λxs H Q=>∃p ys,xs=[.ref p]/\(ag K H p ys\/aj K H p ys)/\Q (.int ys.length) H
def EZ:b7 X (.builtin "len") (lB X.K):=Ab
def oU(K:F6):List V->Hp->VK->Prop:=λxs H Q=>∃p ys,xs=[.ref p]/\((ag K H p ys/\∀l,H l=none->Q (.ref l) (upd H l (.tup ys)))\/(aj K H p ys/\Q (.ref p) H))
def DX:b7 X (.type "tuple") (oU X.K):=AH
def qQ:List V->Hp->VK->Prop:=λxs H Q=>(∃i,xs=[.int i]/\Q (.int i) H)\/∃k,xs=[.bl k]/\Q (.int (if k then 1 else 0)) H
def Es:b7 X (.type "int") qQ:=BR
def vf:List V->Hp->VK->Prop:=λxs H Q=>∃i j,xs=[.int i,.int j]/\Q (.int (if j>i then j else i)) H
def DG(hc:X.calm=true):b7 X (.builtin "max") vf:=Ee hc
end
def Ext(H H':Hp):Prop:=∀b o,H b=some o->H' b=some o
def Ext.rfl'(H:Hp):Ext H H:=λ_ _ h=>h
def Ext.trans{H H1 H2:Hp}(a:Ext H H1)(b:Ext H1 H2):Ext H H2:=λx o h=>b x o (a x o h)
def Ext.none{H H':Hp}(e:Ext H H'){l:Addr}(h:H' l=Option.none):H l=Option.none:=by
 cases q:H l with
 | none=>rfl
 | some o=>rw[e l o q]at h;cases h
section
variable {X:Cx} (K:F6)
def aH(h:X.K=K:=by rfl):iA X (nz K):=by subst h;exact AI
def aA(h:X.K=K:=by rfl):iA X (nZ K):=by subst h;exact yT
def jO(h:X.K=K:=by rfl):iW X (qr K):=by subst h;exact Ft
def df(h:X.K=K:=by rfl):b7 X (.builtin "len") (lB K):=by subst h;exact EZ
def jH(h:X.K=K:=by rfl):b7 X (.type "tuple") (oU K):=by subst h;exact DX
def DI(h:X.K=K:=by rfl):ia X "list.count" (wX K):=by subst h;exact AN
def cj{tg l:Expr}{tl:TE}(hl:PE X l tl)(h:X.K=K:=by rfl):PI X tg l (lY K tl):=by subst h;exact FV hl
def jX{tg l:Expr}{tl:TE}(hl:PE X l tl)(h:X.K=K:=by rfl):PI X tg l (ow K tl):=by subst h;exact FK hl
def kB{es:List Expr}{k:Nat}{t:dA}{n:Nat}{pos:Pos}(hc:X.calm=true)(hg:iO X es t)(h:X.K=K:=by rfl)
  (hn:(assignEach es X.env).length=n:=by rfl) (hst:(assignEach es X.env).findIdx? (·.1)=none:=by rfl):PG X (.Tuple es k pos) (nG K n t):=by subst h;exact Eh hc hg hn hst
def bG{o e:Expr}{es:List Expr}{to:TE}{t:TA}{name:Str}{apos cpos:Pos}{T id:String}{r:V->List V->Hp->VK->Prop}(pa:PlainAttrs T)(slot:Slot T name id)(hty:typeOf (.builtin id)=pure (.type "method_descriptor"))(hm:ia X id r)(ho:PE X o to)(ha:PA X (e::es) t)(h:X.K=K:=by rfl)
  (hbase:attributeBase o name X.env (eval o X.env)=eval o X.env:=by rfl)
  (hfew:((backTo cpos (starEach (e::es) X.env)).all (λx=>!x.1) && (backToKw cpos (keywordEach [] X.env)).all (λx=>x.1.isSome)
   && decide ((e::es).length+([]:List Keyword).length+(if([]:List Keyword).isEmpty then 0 else 1)<30))=true:=by rfl)
  (hline:(apos.endLine == cpos.line)=true:=by rfl) (hs:starEach (e::es) X.env=(false,eval e X.env)::starEach es X.env:=by rfl) (hplain:(backTo cpos (starEach es X.env)).any (·.1)=false:=by rfl) :
  PE X (.Call (.Attribute o name apos) (e::es) [] cpos) (oB K T r to t):=by subst h;exact E1 pa slot hty hm ho ha hbase hfew hline hs hplain
end
def yE(ns:List Int):TA:=λ_ H Q=>Q (ns.map V.int) H
inductive IntsE:List Expr->List Int->Prop
 | n:IntsE [] []
 | c {i j pos es ns}:IntsE es ns->IntsE (.Constant (.int i) j pos::es) (i::ns)
def iC{X:Cx}{es:List Expr}{ns:List Int}(h:IntsE es ns):PA X es (yE ns):=by
 induction h with
 | n=>exact ae
 | @c i j pos es ns _ ih=>
  intro p pins s σ H Q I hq;exact aa (e:=.Constant (.int i) j pos) af ih rfl p pins s σ H Q I hq
def rd_ints{σ:St}{H:Hp}{ns:List Int}{R:List V->Hp->Prop}(h:R (ns.map V.int) H):yE ns σ H R:=h
def nU(c:TT)(t u:TS):TS:=λD σ H=>∃R:St->Hp->Prop,(c σ H λb H1=>if b=true then t { D with nx:=R } σ H1 else u { D with nx:=R } σ H1)/\∀σ' H',R σ' H'->D.nx σ' H'
def cV{X:Cx}{c:Expr}{a b:List Stmt}{tc:TT}{t u:TS}{pos:Pos}(hc:PT X c tc)(ha:b8 X a t)(hb:b8 X b u):PS X (.If c a b pos) (nU tc t u):=by
 intro pins s σ H D I h;obtain⟨R,h,hR⟩:=h;refine ax (bM hc ha hb pins s σ H { D with nx:=R } I h) λf s1 q=>?_;cases f with
 | next=>
  obtain⟨σ',H',I',q⟩:=q;exact⟨σ',H',I',hR σ' H' q⟩
 | ret v=>exact q
 | brk=>exact q
 | cont=>exact q
def wN(K:F6):V->Hp->(It->Hp->Prop)->Prop:=λx H R=>∃a,x=.ref a/\(∃xs,ag K H a xs)/\R (fB K a) H
def tE(K:F6):V->Hp->(It->Hp->Prop)->Prop:=λx H R=>∃a,x=.ref a/\(∃xs,aj K H a xs)/\R (dU K a) H
def uf:List V->Hp->(It->Hp->Prop)->Prop:=λvs H R=>∃j:Int,vs=[.int j]/\-(2 ^ 62)<=j/\j<2 ^ 62/\R (dv 0 j.toNat) H
def xo:List V->Hp->(It->Hp->Prop)->Prop:=λvs H R=>∃i j:Int,vs=[.int i,.int j]/\(-(2 ^ 62)<=i/\i<2 ^ 62/\-(2 ^ 62)<=j/\j<2 ^ 62)/\R (dv i (j-i).toNat) H
def jv(J:It)(g:TG)(tb:TS)(D:Ends)(σ:St)(H:Hp):Prop:=∃W:Nat->Nat->St->Hp->Prop,(∃m,W 0 m σ H)/\∀i m σ H,W i m σ H →
 (J.stop i H/\D.nx σ H)\/(J.go i H/\∃N:St->Hp->Prop,(∀σ' H',N σ' H'->∃m',m'<m/\W (i+1) m' σ' H')/\∀x H',J.yld i H x H'->g x σ H' λσ2 H2=>tb { D with nx:=N,ct:=N,bk:=D.nx } σ2 H2)
def forL{K:F6}{a:Addr}{xs:List V}{g:TG}{tb:TS}{D:Ends}{σ:St}{H:Hp}(Pv:Nat->St->Hp->Prop)(h0:Pv 0 σ H)(hl:∀i σ H,i<=xs.length->Pv i σ H->ag K H a xs)
  (hs:∀i x σ H,xs[i]?=some x->Pv i σ H->g x σ H λσ2 H2=>tb ⟨Pv (i+1),D.rt,D.nx,Pv (i+1)⟩ σ2 H2) (hd:∀σ H,Pv xs.length σ H->D.nx σ H):jv (fB K a) g tb D σ H:=AA Pv h0 hl hs hd
def zO{K:F6}{a:Addr}{xs:List V}{g:TG}{tb:TS}{D:Ends}{σ:St}{H:Hp}(Pv:Nat->St->Hp->Prop)(h0:Pv 0 σ H)(hl:∀i σ H,i<=xs.length->Pv i σ H->aj K H a xs)
  (hs:∀i x σ H,xs[i]?=some x->Pv i σ H->g x σ H λσ2 H2=>tb ⟨Pv (i+1),D.rt,D.nx,Pv (i+1)⟩ σ2 H2) (hd:∀σ H,Pv xs.length σ H->D.nx σ H):jv (dU K a) g tb D σ H:=zq Pv h0 hl hs hd
def forR{lo:Int}{n:Nat}{g:TG}{tb:TS}{D:Ends}{σ:St}{H:Hp}(Pv:Nat->St->Hp->Prop)(h0:Pv 0 σ H)
  (hs:∀i σ H,i<n->Pv i σ H->g (.int (lo+i)) σ H λσ2 H2=>tb ⟨Pv (i+1),D.rt,D.nx,Pv (i+1)⟩ σ2 H2) (hd:∀σ H,Pv n σ H->D.nx σ H):jv (dv lo n) g tb D σ H:=B8 Pv h0 hs hd
def fg(H:Hp)(o:HO)(R:VK):Prop:=∀p,H p=none->R (.ref p) (upd H p o)
section
variable {K:F6} {D:Ends} {σ:St} {H:Hp} {Q:VK} {ta tb tc te:TE} {t u:TS} {c c':TT}
def rd_seq(h:t ⟨u D,D.rt,D.bk,D.ct⟩ σ H):xN t u D σ H:=h
def rd_next(h:D.nx σ H):yv D σ H:=h
def rd_ret(h:te σ H D.rt):sP te D σ H:=h
def rd_asg{g:TG}(h:te σ H λx H1=>g x σ H1 D.nx):lI te g D σ H:=h
def rd_drop(h:te σ H λ_ H1=>D.nx σ H1):qP te D σ H:=h
def rd_ifS(h:c σ H λb H1=>if b=true then t D σ H1 else u D σ H1):sJ c t u D σ H:=h
def gG(R:St->Hp->Prop)(h:c σ H λb H1=>if b=true then t ⟨R,D.rt,D.bk,D.ct⟩ σ H1 else u ⟨R,D.rt,D.bk,D.ct⟩ σ H1)(k:∀σ' H',R σ' H'->D.nx σ' H'):nU c t u D σ H:=⟨R,h,k⟩
def fj(h:c σ H λb H1=>if b=true then t D σ H1 else u D σ H1):nU c t u D σ H:=⟨D.nx,h,λ_ _ h=>h⟩
def rd_name{i:Nat}{v:V}{R:St->Hp->Prop}(h:R (σ.set i (some v)) H):i7 i v σ H R:=h
def rd_var{i:Nat}{v:V}(e:σ[i]?=some (some v))(h:Q v H):n8 i σ H Q:=⟨v,e,h⟩
def rd_c{v:V}(h:Q v H):tC v σ H Q:=h
def rd_op{r:R2}(h:ta σ H λx H1=>tb σ H1 λy H2=>r x y H2 Q):ie r ta tb σ H Q:=h
def rd_un{r:V->Hp->VK->Prop}(h:ta σ H λx H1=>r x H1 Q):wu r ta σ H Q:=h
def rd_CB{r:List V->Hp->VK->Prop}{a:TA}(h:a σ H λvs H1=>r vs H1 Q):j8 r a σ H Q:=h
def rd_cons{a:TA}{R:List V->Hp->Prop}(h:ta σ H λx H1=>a σ H1 λxs H2=>R (x::xs) H2):lj ta a σ H R:=h
def rd_nil{R:List V->Hp->Prop}(h:R [] H):pJ σ H R:=h
def rd_test{R:Bool->Hp->Prop}(h:te σ H λx H'=>∃k,x=.bl k/\R k H'):x9 te σ H R:=h
def rd_B{R:Bool->Hp->Prop}(h:te σ H λx H'=>∃k,x=.bl k/\R k H'):tB te σ H R:=h
def rd_exb{b:Bool}{R:Bool->Prop}(h:R b):∃k,V.bl b=V.bl k/\R k:=⟨b,rfl,h⟩
def rd_not{R:Bool->Hp->Prop}(h:c σ H λb H1=>R (!b) H1):vk c σ H R:=h
def rd_and{R:Bool->Hp->Prop}(h:c σ H λb H1=>if b=true then c' σ H1 R else R false H1):sH c c' σ H R:=h
def rd_or{R:Bool->Hp->Prop}(h:c σ H λb H1=>if b=true then R true H1 else c' σ H1 R):vd c c' σ H R:=h
def rd_andV(h:ta σ H λx H1=>∃k,x=.bl k/\if k=true then tb σ H1 Q else Q (.bl false) H1):yi ta tb σ H Q:=h
def rd_orV(h:ta σ H λx H1=>∃k,x=.bl k/\if k=true then Q (.bl true) H1 else tb σ H1 Q):vK ta tb σ H Q:=h
def rd_notV(h:ta σ H λx H1=>∃k,x=.bl k/\Q (.bl (!k)) H1):uE ta σ H Q:=h
def rd_yes{R:Bool->Hp->Prop}(h:R true H):rR σ H R:=h
def rd_I0{g:Int->Int->V}{i j:Int}(h:Q (g i j) H):fI g (.int i) (.int j) H Q:=⟨i,j,rfl,rfl,h⟩
def rd_I{C:Int->Int->Prop}{g:Int->Int->V}{i j:Int}(hc:C i j)(h:Q (g i j) H):rI C g (.int i) (.int j) H Q:=⟨i,j,rfl,rfl,hc,h⟩
def rd_U{g:Int->V}{i:Int}(h:Q (g i) H):rU g (.int i) H Q:=⟨i,rfl,h⟩
def rd_EqI{i j:Int}(h:Q (.bl (decide (i=j))) H):jg (.int i) (.int j) H Q:=⟨rfl,by
 have e:decide (V.int i=V.int j)=decide (i=j):=by rw[GN];simp
 rw[e];exact h⟩
def rd_NeI{i j:Int}(h:Q (.bl (!decide (i=j))) H):kH (.int i) (.int j) H Q:=⟨rfl,by
 have e:decide (V.int i=V.int j)=decide (i=j):=by rw[GN];simp
 rw[e];exact h⟩
def rd_EqB{i j:Bool}(h:Q (.bl (i == j)) H):jg (.bl i) (.bl j) H Q:=⟨rfl,by rw[mB];exact h⟩
def aG{p:Addr}{xs:List V}{i:Int}{v:V}(e:ag K H p xs)(a:bC xs i=some v)(h:Q v H):nz K (.ref p) (.int i) H Q:=⟨p,xs,i,v,rfl,rfl,e,a,h⟩
def aB{p:Addr}{xs:List V}{i:Int}{v:V}(e:aj K H p xs)(a:bC xs i=some v)(h:Q v H):nZ K (.ref p) (.int i) H Q:=⟨p,xs,i,v,rfl,rfl,e,a,h⟩
def fo{p:Addr}{xs:List V}(e:ag K H p xs)(h:Q (.int xs.length) H):lB K [.ref p] H Q:=⟨p,xs,rfl,.inl e,h⟩
def iY{p:Addr}{xs:List V}(e:aj K H p xs)(h:Q (.int xs.length) H):lB K [.ref p] H Q:=⟨p,xs,rfl,.inr e,h⟩
def jG{p:Addr}{xs:List V}(e:ag K H p xs)(h:fg H (.tup xs) Q):oU K [.ref p] H Q:=⟨p,xs,rfl,.inl ⟨e,h⟩⟩
def gM{x:V}{n T:String}{b:Bool}(hk:dR H x n)(hb:fS n T=some b)(h:Q (.bl b) H):tZ [x,.ty T] H Q:=⟨x,n,T,b,rfl,hk,hb,h⟩
def rd_intB{k:Bool}(h:Q (.int (if k then 1 else 0)) H):qQ [.bl k] H Q:=.inr ⟨k,rfl,h⟩
def rd_max2{i j:Int}(h:Q (.int (if j>i then j else i)) H):vf [.int i,.int j] H Q:=⟨i,j,rfl,h⟩
def rd_call{sp:Sp}{a:TA}{E:XK}(h:a σ H λvs H1=>sp (vs++[]) H1 Q E):ja sp [] E a σ H Q:=h
def rd_BM{T:String}{r:V->List V->Hp->VK->Prop}{a:TA}(h:te σ H λx H1=>i5 K T x H1/\a σ H1 λxs H2=>r x xs H2 Q):oB K T r te a σ H Q:=h
def rd_tup{a:TA}(h:a σ H λxs H1=>xs.length<=sizeLine/\fg H1 (.tup xs) Q):pK a σ H Q:=h
def rd_lst{a:TA}(h:a σ H λxs H1=>xs.length<=sizeLine/\fg H1 (.lst xs) Q):qZ a σ H Q:=h
def rd_sl{r:V->Option Int->Option Int->Hp->VK->Prop}{tl th:TO}(h:te σ H λx H1=>tl σ H1 λl H2=>th σ H2 λv H3=>r x l v H3 Q):ue r te tl th σ H Q:=h
def rd_noPart{R:Option Int->Hp->Prop}(h:R none H):tK σ H R:=h
def rd_part{R:Option Int->Hp->Prop}(h:te σ H λx H1=>∃i,x=.int i/\R (some i) H1):qX te σ H R:=h
def rd_exi{i:Int}{R:Int->Prop}(h:R i):∃k,V.int i=V.int k/\R k:=⟨i,rfl,h⟩
def rd_chain{r r':R2}(h:ta σ H λx H1=>tb σ H1 λy H2=>r x y H2 λz H3=>∃k,z=.bl k/\(if k=true then tc σ H3 λw' H4=>r' y w' H4 Q else Q (.bl false) H3)):uA r r' ta tb tc σ H Q:=h
def rd_comp{n:Nat}{js:List Nat}{wi:TI}{g:TG}(h:wi σ H λJ H1=>jo J n js g c te σ H1 Q):oV n js wi g c te σ H Q:=h
def rd_iL{R:It->Hp->Prop}(h:te σ H λx H1=>wN K x H1 R):lY K te σ H R:=h
def rd_iT{R:It->Hp->Prop}(h:te σ H λx H1=>tE K x H1 R):ow K te σ H R:=h
def cb{p:Addr}{xs:List V}{R:It->Hp->Prop}(e:ag K H p xs)(h:R (fB K p) H):wN K (.ref p) H R:=⟨p,rfl,⟨xs,e⟩,h⟩
def kM{p:Addr}{xs:List V}{R:It->Hp->Prop}(e:aj K H p xs)(h:R (dU K p) H):tE K (.ref p) H R:=⟨p,rfl,⟨xs,e⟩,h⟩
def rd_i1{a:TA}{R:It->Hp->Prop}(h:a σ H λvs H1=>uf vs H1 R):qO a σ H R:=h
def cw{j:Int}{R:It->Hp->Prop}(h1:-(2 ^ 62)<=j/\j<2 ^ 62)(h:R (dv 0 j.toNat) H):uf [.int j] H R:=⟨j,rfl,h1.1,h1.2,h⟩
def rd_i2{a:TA}{R:It->Hp->Prop}(h:a σ H λvs H1=>xo vs H1 R):vD a σ H R:=h
def Eb{i j:Int}{R:It->Hp->Prop}(h1:-(2 ^ 62)<=i/\i<2 ^ 62/\-(2 ^ 62)<=j/\j<2 ^ 62)(h:R (dv i (j-i).toNat) H):xo [.int i,.int j] H R:=⟨i,j,rfl,h1,h⟩
def rd_for{wi:TI}{g:TG}(h:wi σ H λJ H1=>jv J g t D σ H1):uk wi g t D σ H:=h
def bR{l:Addr}{xs:List V}{y:V}(e:H l=some (.lst xs))(hz:xs.length<sizeLine)(h:Q .non (upd H l (.lst (xs++[y])))):yt (.ref l) [y] H Q:=⟨l,xs,y,rfl,rfl,e,hz,h⟩
def bZ{p:Addr}{xs:List V}(e:ag K H p xs):i5 K "list" (.ref p) H:=.inl ⟨rfl,xs,e⟩
def rd_sub{to ti:TE}{w:kz}{v:V}{R:St->Hp->Prop}(h:to σ H λo H1=>ti σ H1 λi H2=>w o i v H2 λH3=>R σ H3):uD to ti w v σ H R:=h
def jb{p:Addr}{xs:List V}{k:Int}{j:Nat}{v:V}{R:Hp->Prop}(e:H p=some (.lst xs))(a:eS xs.length k=some j)(h:R (upd H p (.lst (xs.set j v)))):qN (.ref p) (.int k) v H R:=⟨p,xs,k,j,rfl,rfl,e,a,h⟩
def ke{n:Nat}{g:dA}{a:Addr}{xs:List V}{R:St->Hp->Prop}(e:aj K H a xs)(hl:xs.length=n)(h:g xs σ H R):nG K n g (.ref a) σ H R:=⟨a,xs,rfl,e,hl,h⟩
def rd_gcons{g:TG}{gs:dA}{v:V}{r:List V}{R:St->Hp->Prop}(h:g v σ H λσ' H'=>gs r σ' H' R):vt g gs (v::r) σ H R:=⟨v,r,rfl,h⟩
def rd_gnil{R:St->Hp->Prop}(h:R σ H):rm [] σ H R:=⟨rfl,h⟩
def qC{l b:Addr}{xs zs:List V}(e1:H l=some (.lst xs))(e2:H b=some (.lst zs))(hz:xs.length+zs.length<=sizeLine)(h:fg H (.lst (xs++zs)) Q):tu (.ref l) (.ref b) H Q:=⟨l,b,xs,zs,rfl,rfl,e1,e2,hz,h⟩
def oi{l:Addr}{k:Int}{xs:List V}(e:H l=some (.lst xs))(hk:0<=k/\k<10 ^ 6)(hz:xs.length*k.toNat<=sizeLine)(h:fg H (.lst (GU k.toNat xs).flatten) Q):yw (.ref l) (.int k) H Q:=
 ⟨l,k,xs,rfl,rfl,e,by omega,by omega,hz,h⟩
def jc{a:Addr}{xs:List V}{lo hi:Option Int}(e:ag K H a xs)(h:fg H (.lst (b5 xs lo hi)) Q):qr K (.ref a) lo hi H Q:=⟨a,xs,rfl,e,h⟩
def cc{o:HO}{R:VK}(h:∀p H',Ext H H'->H' p=some o->H p=none->R (.ref p) H'):fg H o R:=λp hp=>
 h p _ (λb u e=>by rw[az (bW e hp)];exact e) aO hp
def bO{p:Addr}{o:HO}(hp:H p=none):Ext H (upd H p o):=λb u e=>by rw[az (bW e hp)];exact e
def ag.ext{H':Hp}{p:Addr}{xs:List V}(e:Ext H H')(h:ag K H p xs):ag K H' p xs:=by
 rcases h with(h|⟨o,h⟩)|h
 ·exact .inl (.inl (e _ _ h))
 ·exact .inl (.inr ⟨o,e _ _ h⟩)
 ·exact .inr h
end
def eG{α:Type}{xs:List α}{i:Int}{v:α}(h0:0<=i)(h:xs[i.toNat]?=some v):bC xs i=some v:=by
 have:=eE h
 rwa [Int.toNat_of_nonneg h0]at this
def i9{n:Nat}{i:Int}(h0:0<=i)(h:i<n):eS n i=some i.toNat:=by unfold eS;rw[Hf h0,Hf h]
def dH:V->PyData->Prop
 | .non,.none=>True
 | .bl b,.bool c=>b=c
 | .int i,.int j=>i=j
 | .str x,.str y=>x=y/\(PyData.str y).canLay0=true
 | _,_=>False
def aV(H:Hp):Nat->V->PyData->Prop
 | 0,x,d=>dH x d
 | n+1,x,d=>dH x d\/∃a xs ds,x=.ref a/\((H a=some (.tup xs)/\d=.tuple ds)\/(H a=some (.lst xs)/\d=.list ds))/\Paired (aV H n) xs ds
section
variable {X:Cx} {pins:List (Addr×Obj)} {σ:St} {H:Hp} {s:Shared}
def dH.reads{x:V}{d:PyData}{u:Value}(h:dH x d)(r:RelV x u):∃as,Reads s.heap u d as:=by
 cases x with
 | non=>cases d<;>first|exact False.elim h|(cases r;exact⟨_,.none⟩)
 | bl b=>cases d<;>first|exact False.elim h|(cases(show b=_ from h);cases r;exact⟨_,.bool _⟩)
 | int i=>cases d<;>first|exact False.elim h|(cases(show i=_ from h);obtain⟨t,rfl⟩:=r;exact⟨_,.int _ t⟩)
 | str z=>cases d<;>first|exact False.elim h|(cases(show z=_/\_ from h).1;obtain⟨t,rfl⟩:=r;exact⟨_,.str _ t⟩)
 | _=>cases d<;>exact False.elim h
def dH.lay{x:V}{d:PyData}(h:dH x d):d.canLay0=true/\d.depth=0:=by cases x<;>cases d<;>first|exact False.elim h|exact ⟨rfl,rfl⟩|exact ⟨h.2,rfl⟩
def pj{R:V->PyData->Prop}(ih:∀{x:V} {d:PyData} {u:Value},R x d->RelV x u->∃as,Reads s.heap u d as):∀{xs:List V} {ds:List PyData} {us:List Value},Paired R xs ds->Vals xs us->∃as,ReadsAll s.heap us ds as
 | _,_,_,.nil,.nil=>⟨_,.nil⟩
 | _,_,_,.cons h t,.cons r rt=>by obtain⟨as,ha⟩:=ih h r;obtain⟨bs,hb⟩:=pj ih t rt;exact⟨_,.cons ha hb⟩
def aV.reads(I:Inv X pins σ H s):∀(n:Nat) {x:V} {d:PyData} {u:Value},aV H n x d->RelV x u->∃as,Reads s.heap u d as
 | 0,_,_,_,h,r=>dH.reads h r
 | n+1,x,d,u,h,r=>by
  rcases h with h|⟨a,xs,ds,rfl,hh,hp⟩
  ·exact dH.reads h r
  ·cases r;rcases hh with⟨e,rfl⟩|⟨e,rfl⟩
   ·obtain⟨its,rv,⟨o,ho,hc,k,hd⟩,_⟩:=I.tuple (aj.of e);obtain⟨as,ha⟩:=pj (λ{x d u}=>aV.reads I n) hp rv;exact⟨_,.tuple ho hc hd (by simpa using ha)⟩
   ·obtain⟨its,k,rv,ho,_⟩:=I.lst e;obtain⟨as,ha⟩:=pj (λ{x d u}=>aV.reads I n) hp rv;exact⟨_,.list ho rfl rfl (by simpa using ha)⟩
def i8{R:V->PyData->Prop}{m:Nat}(ih:∀{x:V} {d:PyData},R x d->d.canLay0=true/\d.depth<=m):∀{xs:List V} {ds:List PyData},Paired R xs ds->PyData.canLayAll0 ds=true/\PyData.depthAll ds<=m
 | _,_,.nil=>⟨rfl,Nat.zero_le _⟩
 | _,_,.cons h t=>by
  obtain⟨h1,h2⟩:=ih h;obtain⟨h3,h4⟩:=i8 ih t;refine⟨?_,?_⟩
  ·simp only[PyData.canLayAll0,h1,h3,Bool.and_self]
  ·simp only[PyData.depthAll];exact Nat.max_le.mpr ⟨h2,h4⟩
def aV.lay:∀(n:Nat) {x:V} {d:PyData},aV H n x d->d.canLay0=true/\d.depth<=n
 | 0,_,_,h=>⟨(dH.lay h).1,Nat.le_of_eq (dH.lay h).2⟩
 | n+1,x,d,h=>by
  rcases h with h|⟨a,xs,ds,rfl,hh,hp⟩
  ·exact⟨(dH.lay h).1,by rw[(dH.lay h).2];exact Nat.zero_le _⟩
  ·obtain⟨h1,h2⟩:=i8 (λ{x d}=>aV.lay n) hp;rcases hh with⟨e,rfl⟩|⟨e,rfl⟩
   ·exact⟨h1,Nat.succ_le_succ h2⟩
   ·exact⟨h1,Nat.succ_le_succ h2⟩
def sW(neg:Bool):R2:=λx y H Q=>∃n m d e,aV H n x d/\aV H m y e/\n<=50/\Q (.bl (if neg then !PyData.eqv d e else PyData.eqv d e)) H
def F3{k:Nat}(hr:Room k X.A):bA X (compareOp .Eq) (sW false):=by intro pins s σ H x y v u Q I rx ry h;obtain⟨n,m,d,e,h1,h2,hn,q⟩:=h;obtain⟨as,ra⟩:=aV.reads I n h1 rx;obtain⟨bs,rb⟩:=aV.reads I m h2 ry;have l1:=aV.lay n h1;have l2:=aV.lay m h2;have hu:=hr.units;have hm:min d.depth e.depth<=50:=GI (Nat.min_le_left _ _) (GI l1.2 hn);exact SeqAt.compareEq_reads ra rb l1.1 l2.1 (by omega) ⟨.bl _,H,I,rfl,q⟩
def Cc{k:Nat}(hr:Room k X.A):bA X (compareOp .NotEq) (sW true):=by intro pins s σ H x y v u Q I rx ry h;obtain⟨n,m,d,e,h1,h2,hn,q⟩:=h;obtain⟨as,ra⟩:=aV.reads I n h1 rx;obtain⟨bs,rb⟩:=aV.reads I m h2 ry;have l1:=aV.lay n h1;have l2:=aV.lay m h2;have hu:=hr.units;have hm:min d.depth e.depth<=50:=GI (Nat.min_le_left _ _) (GI l1.2 hn);exact SeqAt.compareNe_reads ra rb l1.1 l2.1 (by omega) ⟨.bl _,H,I,rfl,q⟩
end
def FC(K:F6):List V->Hp->VK->Prop:=λxs H Q=>∃(p:Addr) (bs:List Bool),xs=[.ref p]/\ag K H p (bs.map V.bl)/\Q (.bl (bs.all id)) H
def ly:∀{bs:List Bool} {us:List Value},Vals (bs.map V.bl) us->us=bs.map Value.bool
 | [],_,r=>by cases r;rfl
 | b::bs,_,r=>by
  cases r with
  | cons r t=>cases r;rw[ly t];rfl
def all_range(bs:List Bool):((Hb bs.length).all λi=>bs.getD i false)=bs.all id:=by
 rw[GN,GK,GK];constructor
 ·intro h b hb;obtain⟨i,hi,e⟩:=List.mem_iff_getElem.mp hb;have:=h i (List.mem_range.mpr hi);rw[List.getD_eq_getElem?_getD,Gb hi]at this;rw[←e];exact this
 ·intro h i hi;have hi':=List.mem_range.mp hi;rw[List.getD_eq_getElem?_getD,Gb hi'];exact h _ (GD hi')
def B4{X:Cx}(K:F6)(hc:X.calm=true)(hK:X.K=K:=by rfl):b7 X (.builtin "all") (FC K):=by
 subst hK;intro pins s σ H xs us Q I r h;obtain⟨p,bs,rfl,hq,q⟩:=h;obtain⟨u,rfl,rx⟩:=vals1 r;cases rx;obtain⟨its,rv,pl,hz⟩:=I.list hq;have eb:=ly rv;have hne:p≠s.heap.objs.size:=Gv (by obtain⟨o,n,e,_⟩:=pl;exact F9 e);refine call_all_walk (wpAny_pyIter_list pl.isList ?_);have I1:Inv X pins σ H { s with heap:=s.heap.push { cls:=.type "list_iterator",data:=.fields #[.ref p,.int 0 0] } }:=I.kept (t':=s.toks) λb o e=>F7 _ e;have hf:=I.fpOk (H':=H) (Gw s.heap.objs.size) I.fresh;refine⟨s.heap.objs.size,_,_,_,_,_,(λi=>bs.getD i false),rfl,Walks.list (A:=X.A.in1) (I.ok.hd hc) _ p hne its.toArray,⟨⟨_,F8 _ rfl,rfl,rfl⟩,?_⟩,?_,λh' tk hk=>?_⟩
 ·exact pl.isList.push _
 ·intro i v s' Q' E' hv hQ;rw[eb]at hv;have hv':(bs.map Value.bool)[i]?=some v:=by simpa using hv
  rw[Gd]at hv';cases eg:bs[i]? with
  | none=>rw[eg]at hv';cases hv'
  | some b=>
   rw[eg]at hv';cases hv';have eb':bs.getD i false=b:=by rw[List.getD_eq_getElem?_getD,eg];rfl
   have hQ':Q' (bs.getD i false) s':=hQ;rw[eb']at hQ';exact wpAny_truthy_bool hQ'
 ·obtain⟨f0,f1,f2,f3,f4,f5⟩:=hf;have hl:=rv.length;rw[Ga]at hl;refine⟨.bl (bs.all id),H,I1.turned (it:=s.heap.objs.size) (λb o hb e=>hk b o (by simpa using hb) e) f0 f1 f3 f4 f5,?_,q⟩;show Value.bool _=Value.bool _;rw[Gg,←hl,all_range]
def sh(c:TT)(tb:TS):TS:=λD σ H=>∃(W:Nat->St->Hp->Prop) (R:St->Hp->Prop),(∃m,W m σ H)/\(∀m σ H,W m σ H →
 c σ H λb H1=>if b=true then ∃N:St->Hp->Prop,(∀σ' H',N σ' H'->∃m',m'<m/\W m' σ' H')/\tb ⟨N,D.rt,R,N⟩ σ H1 else R σ H1)/\∀σ H,R σ H->D.nx σ H
def gB{X:Cx}{pos:Pos}{c:Expr}{body:List Stmt}{tc:TT}{tb:TS}(hp:PassesOwn (model X.prog X.w) X.A X.env X.xe)(hc:PT X c tc)(hb:b8 X body tb):PS X (.While c body [] pos) (sh tc tb):=by
 intro pins s σ H D I h;obtain⟨W,R,w0,hs,hR⟩:=h;refine ax (ES hp hc hb pins s σ H { D with nx:=R } I ⟨W,w0,hs⟩) λf s1 q=>?_;cases f with
 | next=>
  obtain⟨σ',H',I',q⟩:=q;exact⟨σ',H',I',hR σ' H' q⟩
 | ret v=>exact q
 | brk=>exact q
 | cont=>exact q
section
variable {D:Ends} {σ:St} {H:Hp} {Q:VK} {te:TE} {t:TS} {c:TT}
def gF(W:Nat->St->Hp->Prop)(R:St->Hp->Prop)(m:Nat)(h0:W m σ H)(hs:∀m σ H,W m σ H->c σ H λb H1=>if b=true then ∃N:St->Hp->Prop,(∀σ' H',N σ' H'->∃m',m'<m/\W m' σ' H')/\t ⟨N,D.rt,R,N⟩ σ H1 else R σ H1)(k:∀σ H,R σ H->D.nx σ H):sh c t D σ H:=⟨W,R,⟨m,h0⟩,hs,k⟩
def rd_aug{i:Nat}{ti:jx}{x:V}(e:σ[i]?=some (some x))(h:te σ H λy H1=>ti x y H1 λz H2=>D.nx (σ.set i (some z)) H2):xl i te ti D σ H:=⟨x,e,h⟩
def rd_ipI{f:Int->Int->Int}{i j:Int}(h:Q (.int (f i j)) H):oo f (.int i) (.int j) H Q:=⟨i,j,rfl,rfl,h⟩
end
section
variable {prog:Program} {w:World} {A:Around} {E:Value->Shared->Prop} {s:Shared}
def AR{it t:Addr}{i:Nat}{ys:Array Value}{x:Value}{Q:Value->Shared->Prop}(gi:s.heap.IsTupleIter it t i)(gt:s.heap.IsTuple t ys)(gx:ys[i]?=some x)
  (q:∀h',h'.IsTupleIter it t (i+1)->Heap.SameBut it s.heap h'->Q x { s with heap:=h' }):wpAny (model prog w) A (Builtin.SmallTypes.nextOf (.ref it)) Q E s:=by
 obtain⟨u,gu,gc,gd⟩:=id gi;obtain⟨v,gv,_,k,gk⟩:=gt;unfold Builtin.SmallTypes.nextOf;refine F4 (Ha (name:=GP "__next__") gi.typeIs F.slot_tuple_iterator_next (wpAny_call_entry F.slot_tuple_iterator_next gi.typeIs F.entry_tuple_iterator_next ?_ (F.args_tuple_iterator_next_1 _)));show wpAny _ _ (field (Value.ref it) 0 >>= _) _ _ s;refine F4 (wpAny_field gu gd (x:=Value.ref t) rfl ?_);show wpAny _ _ (if(Value.ref t == Value.none)=true then _ else _) _ _ s;rw[He (show ¬(Value.ref t == Value.none)=true from Gr)];show wpAny _ _ (field (Value.ref it) 1 >>= _) _ _ s;refine F4 (wpAny_field gu gd (x:=Value.int i 0) rfl ?_);show wpAny _ _ (seqItems? (Value.ref t) >>= _) _ _ s;refine F4 (wpAny_seqItems gv gk ?_);simp only[Gp,gx];refine F4 (wpAny_setField gu gd (by simp) (F5 ⟨x,rfl,F5 (q _ ?_ (Heap.SameBut.update ..))⟩));exact⟨_,Heap.get?_update_self _ gu (Obj.isFreed_of_fields (Obj.data_mapFields gd _)),(Obj.cls_mapFields ..).trans gc,by rw[Obj.data_mapFields gd];simp[rawInt]⟩
def uj{it t:Addr}{i:Nat}{ys:Array Value}{Q:Value->Shared->Prop}(hA:A.handled=none)(gi:s.heap.IsTupleIter it t i)(gt:s.heap.IsTuple t ys)(gx:ys[i]?=none)
  (q:∀h' e,Heap.ExtBut it s.heap h'->(∃o,h'.get? e=some o/\o.cls=.type "StopIteration")->E (.ref e) { s with heap:=h' }):wpAny (model prog w) A (Builtin.SmallTypes.nextOf (.ref it)) Q E s:=by
 obtain⟨u,gu,gc,gd⟩:=id gi;obtain⟨v,gv,_,k,gk⟩:=gt;unfold Builtin.SmallTypes.nextOf;refine F4 (Ha (name:=GP "__next__") gi.typeIs F.slot_tuple_iterator_next (wpAny_call_entry F.slot_tuple_iterator_next gi.typeIs F.entry_tuple_iterator_next ?_ (F.args_tuple_iterator_next_1 _)));show wpAny _ _ (field (Value.ref it) 0 >>= _) _ _ s;refine F4 (wpAny_field gu gd (x:=Value.ref t) rfl ?_);show wpAny _ _ (if(Value.ref t == Value.none)=true then _ else _) _ _ s;rw[He (show ¬(Value.ref t == Value.none)=true from Gr)];show wpAny _ _ (field (Value.ref it) 1 >>= _) _ _ s;refine F4 (wpAny_field gu gd (x:=Value.int i 0) rfl ?_);show wpAny _ _ (seqItems? (Value.ref t) >>= _) _ _ s;refine F4 (wpAny_seqItems gv gk ?_);simp only[Gp,gx];refine F4 (wpAny_rule (F4 (wpAny_setField gu gd (by simp) ?_)));show wpAny _ _ (newExc (Value.type "StopIteration") [] >>= _) _ _ _;refine F4 ?_;simp only[newExc,newTuple];refine F4 (wpAny_newObj_type (hd:=by size_fits) ?_);refine F4 (m:=firstArgMember _ _) (wpAny_of_eq (a:=Value.none) (by first|rfl|(unfold firstArgMember;rfl)) ?_);refine wpAny_newObj_type (hd:=by size_fits) ?_;simp only[raiseNew];refine F4 (wpAny_handled ?_)
 first|rw [show Around.handled A.in1=none from hA]|rw [hA]
 refine F4 (F5 (wpAny_throw ?_));exact q _ _ (((Heap.SameBut.update ..).extBut.push _).push _) ⟨_,F8 _ rfl,rfl⟩
end
section
variable {X:Cx} {pins:List (Addr×Obj)} {σ:St} {H:Hp} {s:Shared}
def Inv.same{it:Addr}{k h':Heap}(I:Inv X pins σ H { s with heap:=k })(f:cN X pins H it)(b:Heap.ExtBut it k h'):Inv X pins σ H { s with heap:=h' }:=by obtain⟨f0,f1,f2,f3,f4,f5⟩:=f;exact Inv.turned (s:={ s with heap:=k }) (t':=s.toks) (it:=it) I (λc o hb e=>b c o hb e) f0 f1 f3 f4 f5
end
section
variable {K:F6} {σ:St} {H:Hp} {Q:VK}
end
def Bb{prog:Program}{w:World}{A:Around}{E:Value->Shared->Prop}{s:Shared}{t sl:Addr}{ys:Array Value}{vl vu:Value}{lo hi:Option Int}{Q:Value->Shared->Prop}(gt:IsTup s.heap t ys)(gs:s.heap.IsSliceOf sl vl vu .none)(pl:IsPart vl lo)(pu:IsPart vu hi)
  (gw:HT.aL ys.size 0 lo=0/\HT.aL ys.size ys.size hi=ys.size) (q:Q (.ref t) s):wpAny (model prog w) A (getItem (.ref t) (.ref sl)) Q E s:=by
 obtain⟨u,gu,gc,gd⟩:=id gs;have gT:s.TypeIs (.ref sl) "slice":=⟨u,gu,gc⟩;unfold getItem
 try with_reducible refine wpAny_holding ?_
 first|refine F4 (F5 ?_)|skip
 refine F4 (wpAny_sequenceKey gt.typeIs (by decide) ?_);refine F4 (Ha (name:=GP "__getitem__") gt.typeIs PyProof.Rows.slot_tuple_getitem (wpAny_call_entry PyProof.Rows.slot_tuple_getitem gt.typeIs entry_tuple_getitem ?_ (args_tuple_getitem _ _)));show wpAny _ _ (Builtin.Tuple.tupleItemsOf (Value.ref t) >>= _) _ _ s;refine F4 (tupleItemsOf_ gt ?_);refine F4 (wpAny_typeOf gT ?_);rw[Hf (by decide)];refine F4 (HT.wg gs pl pu ?_);show wpAny _ _ (if(((HT.aL ys.size 0 lo:Nat):Int) == 0 && (1:Int) == 1 && (HT.aL ys.size ys.size hi-HT.aL ys.size 0 lo) == ys.size)=true then _ else _) _ _ s;rw[Hf (by rw[gw.1,gw.2];simp)];show wpAny _ _ (Builtin.Tuple.tupleIsExact (Value.ref t) >>= _) _ _ s;unfold Builtin.Tuple.tupleIsExact;refine F4 (F4 (wpAny_typeOf gt.typeIs (F5 ?_)));rw[Hf (by decide)];refine F4 (wpAny_rule ?_);exact F5 ⟨_,rfl,F5 q⟩
def yl:V->Option Int->Option Int->Hp->VK->Prop:=λx lo hi H Q=>∃a xs,x=.ref a/\H a=some (.tup xs)/\∀p H',Ext H H'->H' p=some (.tup (b5 xs lo hi))->Q (.ref p) H'
def xV{X:Cx}:iW X yl:=by
 intro pins s σ H x v vl vu lo hi sl Q I rx hs pl pu h;obtain⟨a,xs,rfl,hx,q⟩:=h;by_cases gw:HT.aL xs.length 0 lo=0/\HT.aL xs.length xs.length hi=xs.length
 ·cases rx;obtain⟨its,r,ht,hz⟩:=I.tuple (aj.of hx);have hlen:its.toArray.size=xs.length:=by rw[Gg];exact r.length.symm
  refine⟨"tuple",_,PyProof.Rows.slot_tuple_getitem.lookup,ht.typeIs,?_⟩;refine Bb ht hs pl pu (by rw[hlen];exact gw) ⟨.ref a,H,I,rfl,q a H (Ext.rfl' H) ?_⟩;have:b5 xs lo hi=xs:=by unfold b5;rw[gw.1,gw.2,List.drop_zero,Nat.sub_zero,GG]
  rw[this];exact hx
 ·exact Ce pins s σ H (.ref a) v vl vu lo hi sl Q I rx hs pl pu ⟨a,xs,rfl,aj.of hx,gw,λp hp=>q p _ (bO hp) aO⟩
def wM{H:Hp}{Q:VK}{a:Addr}{xs:List V}{lo hi:Option Int}(e:H a=some (.tup xs))(h:∀p H',Ext H H'->H' p=some (.tup (b5 xs lo hi))->Q (.ref p) H'):yl (.ref a) lo hi H Q:=⟨a,xs,rfl,e,h⟩
def wG:R2:=λx y H Q=>∃a b xs ys,x=.ref a/\y=.ref b/\H a=some (.tup xs)/\H b=some (.tup ys)/\xs.length+ys.length<=sizeLine/\∀p H',Ext H H'->H' p=some (.tup (xs++ys))->Q (.ref p) H'
def rB{X:Cx}:bA X (binaryOp .Add) wG:=by
 intro pins s σ H x y v u Q I rx ry h;obtain⟨a,b,xs,ys,rfl,rfl,ha,hb,hz,q⟩:=h;cases rx;cases ry;by_cases hx:xs=[]
 ·subst hx;obtain⟨its,r1,p1,_⟩:=I.tuple (aj.of ha);obtain⟨its2,r2,p2,_⟩:=I.tuple (aj.of hb);have e:=r1.nil_iff.mpr rfl;subst e;obtain⟨⟨cls,dd,data,sl⟩,ho,hc,n,hd⟩:=id p1;obtain⟨⟨cls2,dd2,data2,sl2⟩,ho2,hc2,n2,hd2⟩:=id p2;simp only at hc hd hc2 hd2;subst hc hd hc2 hd2;refine concat_meets ⟨_,ho,rfl⟩ ⟨_,ho2,rfl⟩ noFill_tuple_add seq_tuple_add PySem.F.slot_tuple_add PySem.F.entry_tuple_add (PySem.F.args_tuple_add_2 _ _)
   (tuple_addW0 a b _ _ n n2 dd dd2 sl sl2 (by simp)) ⟨ho,ho2,⟨.ref b,H,I,rfl,q b H (λ_ _ h=>h) (by simpa using hb)⟩⟩
 ·refine FX pins s σ H (.ref a) (.ref b) _ _ Q I rfl rfl ⟨a,b,xs,ys,rfl,rfl,aj.of ha,aj.of hb,hx,hz,λhy=>?_,λhy p hp=>?_⟩
  ·subst hy;exact q a H (λ_ _ h=>h) (by simpa using ha)
  ·exact q p _ (bO hp) aO
def xb{H:Hp}{Q:VK}{a b:Addr}{xs ys:List V}(ha:H a=some (.tup xs))(hb:H b=some (.tup ys))(hz:xs.length+ys.length<=sizeLine)(h:∀p H',Ext H H'->H' p=some (.tup (xs++ys))->Q (.ref p) H'):wG (.ref a) (.ref b) H Q:=⟨a,b,xs,ys,rfl,rfl,ha,hb,hz,h⟩
mutual
inductive LitE:Expr->TE->Prop
 | non {j pos}:LitE (.Constant .none j pos) (tC .non)
 | bl {b j pos}:LitE (.Constant (.bool b) j pos) (tC (.bl b))
 | int {i j pos}:LitE (.Constant (.int i) j pos) (tC (.int i))
 | str {x j pos}:LitE (.Constant (.str x) j pos) (tC (.str x))
 | tup {es ta k pos}:LitsE es ta->LitE (.Tuple es k pos) (pK ta)
inductive LitsE:List Expr->TA->Prop
 | nil:LitsE [] pJ
 | cons {e te es ta}:LitE e te->LitsE es ta->LitsE (e::es) (lj te ta)
end
def LitE.star{e:Expr}{te:TE}(h:LitE e te)(es:List Expr)(env:Env):starEach (e::es) env=(false,eval e env)::starEach es env:=by cases h<;>rfl
def fE(c:Addr)(q:Str):HO:=.ext λh=>h.CodeRec (.ref c) q
def DL{P:Program}{w:World}{H:Hp}{h:Heap}{c:Addr}{q:Str}(r:h.CodeRec (.ref c) q):bp P w H h c (fE c q):=by
 refine⟨r,?_,λh1 h2 r1 k=>?_⟩
 ·obtain⟨c',o,vs,t,e,g,_⟩:=r;cases e;exact⟨o,g⟩
 ·obtain⟨c',o,vs,t,e,g,d⟩:=r1;cases e;exact⟨c,o,vs,t,rfl,k o g,d⟩
section
variable {X:Cx} {pins:List (Addr×Obj)} {σ:St} {H:Hp} {s:Shared}
end
structure Tab(K:F6)(mg:Str->Option Value)(base:Heap)(x:Str)(c T:Addr):Prop where
 tin:PySem.W.tabIn K x=some (c,T)
 hd:PySem.W.CodeHd base c T
 blt:base.BuiltinsAt mg T
 gl:mainGlobals≠T
 kin:K.In base
 ns:base.Ns mainGlobals mg
section
variable {P:Program} {w:World} {K:F6} {mg:Str->Option Value} {base:Heap}
def E6{x:Str}{c T f:Addr}{o:Obj}{fd:FuncData}(ht:PySem.W.tabIn K x=some (c,T))(KX:K.In base)(G:base.Ns mainGlobals mg)(hm:mg x=some (.ref f))(lk:K.lookup f=some o)(hd:o.data=.func fd):fd.code=.ref c:=by
 unfold PySem.W.tabIn at ht;split at ht
 ·rename_i f' hf;have e1:=PySem.W.mg_of KX G hf;rw[hm]at e1;cases e1;split at ht
  ·rename_i hfo;rw[lk]at hfo;cases hfo;cases hd;split at ht
   ·rename_i c2 hc;split at ht
    ·split at ht
     ·cases ht;exact hc
     ·cases ht
    ·cases ht
   ·cases ht
  ·cases ht
 ·cases ht
def Dfn.okL{x:Str}{st:Stmt}{N ps:List Str}{k:Nat}{sp:Sp}{c T:Addr}(D:Dfn K mg x st ps)(B:Tab K mg base x c T)(S:FnScope N ps (aJ st))(len:∀vs H Q E,sp vs H Q E->vs.length=ps.length)
  (hbody:∀(X:Cx) (hX:∃f A outer s H E,X=(bF dm P w K mg base N x (aJ st) f (.ref c) A outer s H E).nox/\Room k X.A) (H:Hp) (vs:List V) (Q:VK) (E:XK),sp vs H Q E →
   ∃t,b8 X (dQ st) t/\t { nx:=λ_ H'=>Q .non H',rt:=Q } (start N vs) H):Cal P w K mg base x (k+1) ps sp:=by
 obtain⟨f,fd,hm,F,hb⟩:=D.ex;refine⟨f,fd,hm,F.kp,hb,?_⟩;obtain⟨oc,od,kV,doc,pm,an,cdv,ct,osl,rfl,lk,hcd⟩:=F.ex;have e:cdv=.ref c:=E6 B.tin B.kin B.ns hm lk rfl;subst e;refine oZ lk hcd S len λA outer s H vs Q E hr hsp=>?_;obtain⟨t,h,q⟩:=hbody _ ⟨f,A,outer,s,H,E,rfl,hr⟩ H vs Q E hsp;exact⟨t,h.nox,q⟩
end
def uW(tabs:List (Addr×Addr))(H:Hp):Prop:=∀q∈tabs,H q.2=some (.tbl #[])
def CZ{P:Program}{w:World}{K:F6}{mg mb:Str->Option Value}{k:Nat}{fa a:Addr}{fd:FuncData}{x:Str}{sp:Sp}{s₁:Shared}{vs:List Value}{ns:List Int}{tabs:List (Addr×Addr)}
  (KX:K.In s₁.heap) (hK:PySem.W.noTabs K=true) (hT:PySem.W.TabsAt tabs s₁.heap) (hns:s₁.heap.Ns mainGlobals mg) (hb:s₁.heap.Ns builtinsNs mb) (hbb:∀x:Str,x≠"__name__"->mb x=bootBuiltins x) (hlim:s₁.heap.NoLimit)
  (hbm:∃bm ob,mg "__builtins__" = some (.ref bm)/\bm≠builtinsNs/\s₁.heap.get? bm=some ob/\ob.cls=.type "module"/\ob.dict=some builtinsNs/\ob.data=.plain) (hg:s₁.gens = #[])
  (ha:s₁.heap.get? a=some { cls:=.type "list",data:=.seq vs.toArray }) (hi:IntsAre vs ns) (hl:ns.length<=sizeLine) (hr:Room k callerA)
  (F:∀base:Heap,K.In base->base.Ns mainGlobals mg->(∀q∈tabs,PySem.W.CodeHd base q.1 q.2/\base.BuiltinsAt mg q.2/\mainGlobals≠q.2)->FnOk P w K mg base dm k fa fd [x] sp) (hbind:∀(s:Shared) (u:Value),BindsTo s fd ⟨[u],[]⟩ [(x,u)])
  (hsp:∀H:Hp,uW tabs H->ag K H a (ns.map V.int)->sp [.ref a] H (λv _=>v=.bl true) λ_ _ _=>False) :
  codeAny (model P w) callerA (.call (.ref fa) ⟨[.ref a],[]⟩) (λr s'=>r=.ok (.ret (.bool true))/\OldK s₁.heap s'.heap/\s'.os=s₁.os/\AllBare s'.gens) s₁:=by
 have rv:=qW hi;have lenV:=hi.length;have na:∀q∈tabs,a≠q.2:=λq hq z=>by have:=(hT q hq).2;rw[←z,ha]at this;cases this
 have noT:∀{b:Addr} {o:Obj},s₁.heap.get? b=some o->o≠PySem.W.tabObj #[]->b∉tabs.map (·.2):=λ{b o} e n hm=>by obtain⟨q,hq,rfl⟩:=List.mem_map.mp hm;have:=(hT q hq).2;rw[e]at this;exact n (GQ this)
 have core:∀H:Hp,uW tabs H->ag K H a (ns.map V.int)->bh P w H s₁.heap->(∀b,H b≠none->b=a\/b∈tabs.map (·.2))->(H a≠none->K.lookup a=none/\∃o xs,H a=some (.frz o (.lst xs))) →
   codeAny (model P w) callerA (.call (.ref fa) ⟨[.ref a],[]⟩) (λr s'=>r=.ok (.ret (.bool true))/\OldK s₁.heap s'.heap/\s'.os=s₁.os/\AllBare s'.gens) s₁:=by
  intro H hO hS hok hA hKa;have free:∀{b:Addr} {o:Obj},s₁.heap.get? b=some o->o≠PySem.W.tabObj #[]->b≠a->H b=none:=λ{b o} e n nb=>by
   cases q:H b with
   | none=>rfl
   | some u=>
    rcases hA b (by rw[q];simp)with z|z
    ·exact absurd z nb
    ·exact absurd z (noT e n)
  have nsK:∀{b:Addr} {m:Str->Option Value},s₁.heap.Ns b m->(fk s₁.heap H).Ns b m:=λ{b m} ⟨o,es,ep,e,d,r⟩=>⟨o,es,ep,kZ e (free e (λz=>by rw[z]at d;cases d) λz=>by rw[z,ha]at e;cases e;cases(show Data.seq vs.toArray _=Data.dict es ep from d)),d,r⟩;have hKb:K.In (fk s₁.heap H):=λb o e=>kZ (KX b o e) (by
   by_cases z:b=a
   ·subst z;cases q:H b with
    | none=>rfl
    | some u=>
     have:=(hKa (by rw[q];simp)).1;rw[this]at e;cases e
   ·refine free (KX b o e) (λz2=>?_) z;have h2:=GK.mp hK (b,o) (PySem.W.mem_of_lookupK e);subst z2;exact absurd (show false=true from h2) Gr)
  have hM:Mod K mg (fk s₁.heap H):=⟨hKb,nsK hns,⟨mb,nsK hb,hbb⟩,let ⟨mc,h1,h2⟩:=hlim;⟨mc,nsK h1,h2⟩⟩;have e0:Env0 P w K mg (fk s₁.heap H) callerA [] s₁ H:=⟨rfl,hM,λb o e=>zL e,Nat.le_of_eq (yY _ _),trivial,λb hb=>absurd (show b∈([]:List Addr)from hb) (by simp),hok,.of_eq hg⟩;have tabsB:∀q∈tabs,PySem.W.CodeHd (fk s₁.heap H) q.1 q.2/\(fk s₁.heap H).BuiltinsAt mg q.2/\mainGlobals≠q.2:=λq hq=>by
   refine⟨?_,?_,?_⟩
   ·obtain⟨o,us,file,tf,flags,tg,inF,text,tt,e,hc,r⟩:=(hT q hq).1;exact⟨o,us,file,tf,flags,tg,inF,text,tt,kZ e (free e (λz=>by rw[z]at hc;cases hc) λz=>by rw[z,ha]at e;cases e;simp at hc),hc,r⟩
   ·obtain⟨bm,ob,a1,a2,a3,a4,a5⟩:=hbm;refine⟨bm,ob,a1,a2,λz=>?_,λz=>?_,kZ a3 (free a3 (λz=>by rw[z]at a4;cases a4) λz=>by rw[z,ha]at a3;cases a3;simp at a4),a4,a5⟩
    ·obtain⟨o,es,ep,e,d,_⟩:=hns;rw[←z,a3]at e;cases e;rw[a5.2]at d;cases d
    ·have:=(hT q hq).2;rw[←z,a3]at this;cases this;cases a4
   ·intro z;obtain⟨o,es,ep,e,d,_⟩:=hns;have:=(hT q hq).2;rw[←z,e]at this;cases this;cases d
  refine codeAny_mono ((F _ hKb (nsK hns) tabsB).run callerA [] s₁ H ⟨[.ref a],[]⟩ [.ref a] [.ref a] _ _ hr e0 (hbind s₁ (.ref a)) (.cons rfl .nil) (hsp H hO hS)) λr s' h=>?_;cases r with
  | error e=>exact False.elim h
  | ok fl=>
   cases fl with
   | next=>exact False.elim h
   | brk=>exact False.elim h
   | cont=>exact False.elim h
   | ret u=>
    obtain⟨v,H',os,bare,un,hok',r',q⟩:=h;have q':v=.bl true:=q;subst q';obtain rfl:u=Value.bool true:=r';have keep:∀b o,s₁.heap.get? b=some o->b∉tabs.map (·.2)->s'.heap.get? b=some o:=λb o e nt=>by
     cases q:H b with
     | none=>exact un.keep b o e q (by intro z;exact absurd (show b∈([]:List Addr)from z) (by simp)) (by simp)
     | some u=>
      rcases hA b (by rw[q];simp)with z|z
      ·subst z;obtain⟨_,ob,xs,z⟩:=hKa (by rw[q];simp);have z2:=un.frzs b ob _ z;obtain⟨e1,_⟩:=hok b _ z;obtain⟨e2,_⟩:=hok' b _ z2;rw[e]at e1;cases e1;exact e2
      ·exact absurd z nt
    have grown:∀q∈tabs,∃more,s'.heap.get? q.2=some (PySem.W.tabObj (#[]++more)):=λq hq=>by obtain⟨more,e⟩:=un.tbls q.2 _ (hO q hq);exact⟨more,hok' q.2 _ e⟩
    refine⟨rfl,⟨λb o e=>?_,λb o e=>?_⟩,os,bare⟩
    ·by_cases hm:b∈tabs.map (·.2)
     ·obtain⟨q,hq,rfl⟩:=List.mem_map.mp hm;obtain⟨more,g⟩:=grown q hq;have e2:=(hT q hq).2;rw[e]at e2;cases e2;exact .inr (.inl ⟨((hT q hq).1.tab (hT q hq).2).isCodeTable,rfl,#[],more,rfl,g⟩)
     ·exact .inl (keep b o e hm)
    ·by_cases hm:b∈tabs.map (·.2)
     ·obtain⟨q,hq,rfl⟩:=List.mem_map.mp hm;obtain⟨more,g⟩:=grown q hq;exact⟨_,g⟩
     ·exact⟨o,keep b o e hm⟩
 have hTok:∀(H:Hp) b,b∈tabs.map (·.2)->bp P w H s₁.heap b (.tbl #[]):=λH b hm=>by obtain⟨q,hq,rfl⟩:=List.mem_map.mp hm;exact(hT q hq).2
 cases hk:K.lookup a with
 | some o=>
  have e:=KX a o hk;rw[ha]at e;cases e;have at_:∀b,(if b∈tabs.map (·.2)then some (HO.tbl #[])else none)=(none:Option HO)\/b∈tabs.map (·.2):=λb=>by
   by_cases hb:b∈tabs.map (·.2)
   ·exact .inr hb
   ·exact .inl (He hb)
  have nota:a∉tabs.map (·.2):=λhm=>by obtain⟨q,hq,e⟩:=List.mem_map.mp hm;exact na q hq e.symm
  refine core (λb=>if b∈tabs.map (·.2)then some (.tbl #[])else none) (λq hq=>Hf (List.mem_map.mpr ⟨q,hq,rfl⟩)) (.inr ⟨_,vs.toArray,_,hk,rfl,rfl,rfl,by rw[Gg,lenV];exact hl,by simpa using rv⟩) (λb u z=>?_) (λb z=>?_) λz=>absurd (He nota) z
  ·by_cases hb:b∈tabs.map (·.2)
   ·have z':=(Hf hb).symm.trans z;cases z';exact hTok _ b hb
   ·have z':=(He hb).symm.trans z;cases z'
  ·rcases at_ b with h|h
   ·exact absurd h z
   ·exact .inr h
 | none=>
  have nota:a∉tabs.map (·.2):=λhm=>by obtain⟨q,hq,e⟩:=List.mem_map.mp hm;exact na q hq e.symm
  refine core (λb=>if b=a then some (.frz { cls:=.type "list",data:=.seq vs.toArray } (.lst (ns.map V.int)))else if b∈tabs.map (·.2)then some (.tbl #[])else none) (λq hq=>?_) (.inl (.inr ⟨{ cls:=.type "list",data:=.seq vs.toArray },Hf rfl⟩)) (λb u z=>?_) (λb z=>?_) λ_=>⟨hk,_,_,Hf rfl⟩
  ·show(if q.2=a then _ else _)=_;rw[He (Ne.symm (na q hq)),Hf (List.mem_map.mpr ⟨q,hq,rfl⟩)]
  ·by_cases hb:b=a
   ·have z':=(Hf hb).symm.trans z;cases z';subst hb;exact⟨ha,by rw[Ga];exact hl,vs,_,rv,ha⟩
   ·have z':=(He hb).symm.trans z;by_cases hb2:b∈tabs.map (·.2)
    ·have z2:=(Hf hb2).symm.trans z';cases z2;exact hTok _ b hb2
    ·have z2:=(He hb2).symm.trans z';cases z2
  ·by_cases hb:b=a
   ·exact .inl hb
   ·by_cases hb2:b∈tabs.map (·.2)
    ·exact .inr hb2
    ·exact absurd ((He hb).trans (He hb2)) z
def zQ{l:PySem.W.OpenLaw}{n k:Nat}{q:Program}{loose:List Str}{XP:(Str->Option Value)->Heap->Prop}{YP:World->Heap->Prop}{d:DefRec}{K:Params->F6}{sp:World->Sp}{x:Str}(xs:List Str)
  (hn:l.most=some n) (hn2:n<=sizeLine) (hdf:d.params.defaults=[]) (hr:Room k callerA)
  (hY:∀(w:World) (h:Heap),YP w h->(K w.params).In h) (hK:∀w:World,PySem.W.noTabs (K w.params)=true) (hrec:∀y∈xs,((recsOf q).find? (λe=>e.name == y)).isSome=true) (htab:∀(w:World),∀y∈xs,(PySem.W.tabIn (K w.params) y).isSome=true)
  (F:∀(w:World) (mg:Str->Option Value) (fa:Addr) (h:Heap),(K w.params).In h->h.Ns mainGlobals mg->mg d.name=some (.ref fa) →
   ∃fd:FuncData,(∀(s:Shared) (u:Value),BindsTo s fd ⟨[u],[]⟩ [(x,u)]) ∧
    ∀base:Heap,(K w.params).In base->base.Ns mainGlobals mg->(∀y∈xs,∃c T,Tab (K w.params) mg base y c T)->FnOk l.prog w (K w.params) mg base dm k fa fd [x] (sp w))
  (hsp:∀(w:World) (H:Hp) (a:Addr) (ns:List Int),ns.length<=n->(∀y∈xs,∀c T,PySem.W.tabIn (K w.params) y=some (c,T)->H T=some (.tbl #[]))->ag (K w.params) H a (ns.map V.int)->sp w [.ref a] H (λv _=>v=.bl true) λ_ _ _=>False) :
  PySem.W.WalkO q loose XP YP l.row.toRowW d [] (λf vs=>PySem.call f vs):=by
 refine Att.Fj hn hdf λw s₀ s₁ mg mb fa o pm cd doc a vs ns G Y ho hd hcd hmg hobj hints hlen hg=>?_;have KX:=hY w _ Y;obtain⟨fd,hb,hF⟩:=F w mg fa _ KX G.T.g hmg;have hT:PySem.W.TabsAt (xs.filterMap (PySem.W.tabIn (K w.params))) s₁.heap:=λp hp=>by obtain⟨y,hy,e⟩:=List.mem_filterMap.mp hp;obtain⟨dr,er⟩:=Option.isSome_iff_exists.mp (hrec y hy);exact PySem.W.tab_of G.T KX er e
 refine CZ KX (hK w) hT G.T.g G.T.b G.T.builtins G.T.nolimit G.T.bmain hg hobj hints (GI hlen hn2) hr (λbase kb nb tb=>hF base kb nb λy hy=>?_) hb λH hO hS=>hsp w H a ns hlen (λy hy c T e=>hO (c,T) (List.mem_filterMap.mpr ⟨y,hy,e⟩)) hS;obtain⟨⟨c,T⟩,e⟩:=Option.isSome_iff_exists.mp (htab w y hy);obtain⟨h1,h2,h3⟩:=tb (c,T) (List.mem_filterMap.mpr ⟨y,hy,e⟩);exact⟨c,T,e,h1,h2,h3,kb,nb⟩
section
variable {prog:Program} {w:World} {A:Around} {E:Value->Shared->Prop}
def xw{it l:Addr}{ys:Array Value}(ne:l≠it):∀(n i:Nat) (s:Shared) (Q:List Value->Shared->Prop),s.heap.IsListIter it l i->s.heap.IsList l ys->i+n<=ys.size →
  (∀h',h'.IsListIter it l (i+n)->Heap.SameBut it s.heap h'->Q ((ys.toList.drop i).take n) { s with heap:=h' })->wpAny (model prog w) A (draw (.ref it) n) Q E s
 | 0,i,s,Q,gi,_,_,q=>by show wpAny _ _ (pure []) Q E s;exact F5 (by simpa using q s.heap gi (Heap.SameBut.refl ..))
 | n+1,i,s,Q,gi,gl,le,q=>by
  have lt:i<ys.size:=by omega
  show wpAny _ _ (pyNext (Value.ref it) >>= _) Q E s;refine F4 (wpAny_pyNext_list_item gi gl (x:=ys[i]) (by simp[lt]) λk1 g1 b1=>?_);refine F4 (wpAny_holding (xw ne n (i+1) _ _ g1 (gl.extBut b1.extBut ne) (by omega) λk2 g2 b2=>F5 ?_));have e:ys.toList.drop i=ys[i]::ys.toList.drop (i+1):=by simp[List.drop_eq_getElem_cons,lt]
  have:=q k2 (by rw[show i+(n+1)=i+1+n by omega];exact g2) (b1.trans b2);rw[e,List.take_succ_cons]at this;exact this
def yJ{s:Shared}{l:Addr}{ys:Array Value}{Q:List Value->Shared->Prop}(hA:A.handled=none)(gl:s.heap.IsList l ys)
  (q:∀h',Heap.ExtBut s.heap.objs.size s.heap h'->Q ys.toList { s with heap:=h' }):wpAny (model prog w) A (unpackItems (.ref l) ys.size none) Q E s:=by
 have lt:l≠s.heap.objs.size:=by obtain⟨o,e,_⟩:=gl;exact Gv (F9 e)
 unfold unpackItems;refine F4 ?_;unfold notIterableAtAll;refine F4 (wpAny_specialOf gl.typeIs slot_list_iter.lookup ?_);refine F5 ?_;simp only[GV,if_false];refine F4 (wpAny_holding (wpAny_pyIter_list gl ?_));refine F4 (wpAny_holding (xw lt ys.size 0 _ _ ⟨_,F8 _ rfl,rfl,rfl⟩ (gl.push _) (by omega) λk1 g1 b1=>?_));rw[show List.take ys.size (List.drop 0 ys.toList)=ys.toList by rw[List.drop_zero];exact List.take_of_length_le (by simp),He (by simp)];refine F4 (wpAny_holding (wpAny_pyNext_list_end hA g1 ((gl.push _).extBut b1.extBut lt) (by simp) λk2 b2=>?_));simp only[Option.isSome_none,GV,if_false];exact F5 (q k2 λb o nb e=>b2 b o nb (b1.extBut b o nb (F7 _ e)))
def Bl{s:Shared}{env:Env}{es:List Expr}{k:Nat}{pos:Pos}{l:Addr}{ys:Array Value}{Q:Unit->Shared->Prop}(hA:A.handled=none)(gl:s.heap.IsList l ys)(hn:(assignEach es env).length=ys.size)(hst:(assignEach es env).findIdx? (·.1)=none)
  (h:∀h',Heap.ExtBut s.heap.objs.size s.heap h'->wpAny (model prog w) A (assignInOrder ((assignEach es env).map (·.2)) ys.toList) Q E { s with heap:=h' }):wpAny (model prog w) A (assign (.Tuple es k pos) env (.ref l)) Q E s:=by
 rw[arm_assign_Tuple];refine F4 (wpAny_standAt ?_);unfold unpack;rw[hn,hst];exact F4 (wpAny_holding (yJ hA gl h))
end
section
variable {X:Cx} {pos:Pos}
def xn(K:F6)(n:Nat)(t:dA):TG:=λv σ H Q=>∃a xs,v=.ref a/\ag K H a xs/\xs.length=n/\t xs σ H Q
def mQ{es:List Expr}{k:Nat}{t:dA}{n:Nat}(K:F6)(hc:X.calm=true)(h:iO X es t)(hK:X.K=K:=by rfl)
  (hn:(assignEach es X.env).length=n:=by rfl) (hst:(assignEach es X.env).findIdx? (·.1)=none:=by rfl):PG X (.Tuple es k pos) (xn K n t):=by
 subst hK;intro pins s σ H v u Q I r hw;obtain⟨a,xs,e1,hq,hl,hw⟩:=hw;subst e1;cases r;obtain⟨its,rv,ht,hz⟩:=I.list hq;refine Bl (I.ok.hd hc) ht.isList (by simp[hn,←hl,rv.length]) hst λh' hx=>?_;have I1:Inv X pins σ H { s with heap:=h' }:=I.kept (t':=s.toks) λb o e=>hx b o (Gv (F9 e)) e;exact h pins _ σ H xs _ Q I1 (by simpa using rv) hw
end
def og{K:F6}{σ:St}{H:Hp}{n:Nat}{g:dA}{a:Addr}{xs:List V}{R:St->Hp->Prop}(e:ag K H a xs)(hl:xs.length=n)(h:g xs σ H R):xn K n g (.ref a) σ H R:=⟨a,xs,rfl,e,hl,h⟩
def rd_par{i j:Nat}{ta:TA}{D:Ends}{σ:St}{H:Hp}(h:ta σ H λvs H1=>∃v w,vs=[v,w]/\D.nx ((σ.set i (some v)).set j (some w)) H1):yy i j ta D σ H:=h
def rd_par2{v w:V}{R:V->V->Prop}(h:R v w):∃a b,[v,w]=[a,b]/\R a b:=⟨v,w,rfl,h⟩
def Et(H H':Hp):Prop:=∀b o,H b=some o->(∀ps,o≠.tbl ps)->H' b=some o
def Ext.et{H H':Hp}(e:Ext H H'):Et H H':=λb o h _=>e b o h
def Et.trans{H H1 H2:Hp}(a:Et H H1)(b:Et H1 H2):Et H H2:=λx o h n=>b x o (a x o h n) n
def dn(K:F6)(x q:Str)(line col:Nat)(H:Hp):Prop:=∀c T,PySem.W.tabIn K x=some (c,T) →
 H T=some (.tbl #[])\/∃c',H T=some (.tbl #[rawInt line,rawInt col,.ref c'])/\H c'=some (fE c' q)
def dn.ext{K:F6}{x q:Str}{line col:Nat}{H H':Hp}(e:Ext H H')(h:dn K x q line col H):dn K x q line col H':=λc T ht=>by
 rcases h c T ht with h|⟨c',h1,h2⟩
 ·exact .inl (e _ _ h)
 ·exact .inr ⟨c',e _ _ h1,e _ _ h2⟩
section
variable {κ:Type} [DecidableEq κ]
def bI(kvs:List (κ×V))(k:κ):Option V:=(kvs.find? λkv=>decide (kv.1=k)).map (·.2)
def putK(kvs:List (κ×V))(k:κ)(v:V):List (κ×V):=
 if(kvs.any λkv=>decide (kv.1=k))=true then kvs.map (λkv=>if kv.1=k then(kv.1,v)else kv)else kvs++[(k,v)]
def lg{p:κ×V}{r:List (κ×V)}{k:κ}(e:p.1=k):bI (p::r) k=some p.2:=by simp[bI,List.find?_cons,e]
def jB{p:κ×V}{r:List (κ×V)}{k:κ}(e:¬p.1=k):bI (p::r) k=bI r k:=by simp[bI,List.find?_cons,e]
def mZ(k:κ):∀kvs:List (κ×V),(kvs.any λkv=>decide (kv.1=k))=(bI kvs k).isSome
 | []=>rfl
 | p::r=>by
  rw[List.any_cons];by_cases e:p.1=k
  ·simp only[lg e,Hd e,Bool.true_or,Option.isSome_some]
  ·rw[jB e,Hc e,Bool.false_or];exact mZ k r
def rd(kvs:List (κ×V))(k:κ)(v:V):(putK kvs k v).length<=kvs.length+1:=by
 unfold putK;split
 ·rw[Ga];omega
 ·rw[Gu,GF,List.length_nil];omega
def ye{kvs:List (κ×V)}{k:κ}(v:V)(h:bI kvs k=none):putK kvs k v=kvs++[(k,v)]:=by unfold putK;rw[mZ,h];exact He (by decide)
def dN.isSome_eq{o:Option V}{u:Option Value}(r:dN o u):o.isSome=u.isSome:=by
 cases o with
 | none=>cases u with
  | none=>rfl
  | some _=>exact(show False from r).elim
 | some _=>cases u with
  | none=>exact(show False from r).elim
  | some _=>rfl
def KV.val{kvs:List (κ×V)}{vs:List (κ×Value)}(r:KV kvs vs)(k:κ):dN (bI kvs k) (valueAt vs k):=by
 unfold KV at r;induction r with
 | nil=>exact True.intro
 | @cons p q ps qs h t ih=>
  obtain⟨h1,h2⟩:=h;by_cases e:p.1=k
  ·have e':q.1=k:=h1.symm.trans e;have b:valueAt (q::qs) k=some q.2:=by simp[valueAt,List.find?_cons,e']
   rw[lg e,b];exact h2
  ·have e':¬q.1=k:=λz=>e (h1.trans z);have b:valueAt (q::qs) k=valueAt qs k:=by simp[valueAt,List.find?_cons,e']
   rw[jB e,b];exact ih
def KV.any{kvs:List (κ×V)}{vs:List (κ×Value)}(r:KV kvs vs)(k:κ):(kvs.any λkv=>decide (kv.1=k))=vs.any λkv=>decide (kv.1=k):=by
 unfold KV at r;induction r with
 | nil=>rfl
 | cons h t ih=>rw[List.any_cons,List.any_cons,ih,h.1]
def KV.repl{kvs:List (κ×V)}{vs:List (κ×Value)}(r:KV kvs vs)(k:κ){y:V}{u:Value}(ry:RelV y u):
  KV (kvs.map λkv=>if kv.1=k then(kv.1,y)else kv) (vs.map λkv=>if kv.1=k then(kv.1,u)else kv):=by
 unfold KV at r ⊢;induction r with
 | nil=>exact .nil
 | @cons p q ps qs h t ih=>
  rw[List.map_cons,List.map_cons];refine .cons ?_ ih;obtain⟨h1,h2⟩:=h;by_cases e:p.1=k
  ·rw[Hf e,Hf (h1.symm.trans e)];exact⟨h1,ry⟩
  ·rw[He e,He (λz=>e (h1.trans z))];exact⟨h1,h2⟩
def KV.put{kvs:List (κ×V)}{vs:List (κ×Value)}(r:KV kvs vs)(k:κ){y:V}{u:Value}(ry:RelV y u):KV (putK kvs k y) (stored vs k u):=by
 unfold putK stored;rw[r.any k];by_cases e:(vs.any λkv=>decide (kv.1=k))=true
 ·rw[Hf e,Hf e];exact r.repl k ry
 ·rw[He e,He e];exact Paired.snoc r ⟨rfl,ry⟩
def KV.keys{kvs:List (κ×V)}{vs:List (κ×Value)}(r:KV kvs vs):kvs.map (·.1)=vs.map (·.1):=by
 unfold KV at r;induction r with
 | nil=>rfl
 | cons h t ih=>rw[List.map_cons,List.map_cons,ih,h.1]
def KV.length{kvs:List (κ×V)}{vs:List (κ×Value)}(r:KV kvs vs):kvs.length=vs.length:=Paired.length r
end
def iI{P:Program}{w:World}{k:Key}{u:Value}(r:RelV (kV k) u):(aN P w).is k u=true:=by
 cases k with
 | inl i=>obtain⟨t,e⟩:=(show ∃t,u=Value.int i t from r);subst e;exact FL P w i t
 | inr x=>obtain⟨t,e⟩:=(show ∃t,u=Value.str x t from r);subst e;exact pX P w x t
def lL{P:Program}{w:World}:∀{ks:List Key} {us:List Value},Vals (ks.map kV) us->ItemsAre (aN P w) ks us
 | [],_,r=>by rw[List.map_nil]at r;cases r;exact .nil
 | k::ks,_,r=>by
  rw[List.map_cons]at r;cases r with
  | cons h t=>exact .cons (iI h) (lL t)
abbrev KT(H:Hp):List (List Key×V)->List (List Key×Addr×Value)->Prop:=Paired λp q=>p.1=q.1/\H q.2.1=some (.tup (p.1.map kV))/\RelV p.2 q.2.2
def KT.val{H:Hp}{kvs:List (List Key×V)}{xs:List (List Key×Addr×Value)}(r:KT H kvs xs)(k:List Key):dN (bI kvs k) ((atKey xs k).map (·.2)):=by
 induction r with
 | nil=>exact True.intro
 | @cons p q ps qs h t ih=>
  obtain⟨h1,_,h2⟩:=h;by_cases e:p.1=k
  ·have e':q.1=k:=h1.symm.trans e;have b:atKey (q::qs) k=some q.2:=by simp[atKey,List.find?_cons,e']
   rw[lg e,b];exact h2
  ·have e':¬q.1=k:=λz=>e (h1.trans z);have b:atKey (q::qs) k=atKey qs k:=by simp[atKey,List.find?_cons,e']
   rw[jB e,b];exact ih
def KT.repl{H:Hp}{kvs:List (List Key×V)}{xs:List (List Key×Addr×Value)}(r:KT H kvs xs)(k:List Key){y:V}{u:Value}(ry:RelV y u):
  KT H (kvs.map λkv=>if kv.1=k then(kv.1,y)else kv) (xs.map (putAt k u)):=by
 induction r with
 | nil=>exact .nil
 | @cons p q ps qs h t ih=>
  rw[List.map_cons,List.map_cons];refine .cons ?_ ih;obtain⟨h1,h2,h3⟩:=h;unfold putAt;by_cases e:p.1=k
  ·rw[Hf e,Hf (h1.symm.trans e)];exact⟨h1,h2,ry⟩
  ·rw[He e,He (λz=>e (h1.trans z))];exact⟨h1,h2,h3⟩
def KT.put{H:Hp}{kvs:List (List Key×V)}{xs:List (List Key×Addr×Value)}(r:KT H kvs xs)(k:List Key){b:Addr}{y:V}{u:Value}(hb:H b=some (.tup (k.map kV)))(ry:RelV y u):
  KT H (putK kvs k y) (storedH xs k b u):=by
 have e:(kvs.any λkv=>decide (kv.1=k))=(atKey xs k).isSome:=by rw[mZ,(r.val k).isSome_eq,Option.isSome_map]
 unfold putK storedH;rw[e];by_cases q:(atKey xs k).isSome=true
 ·rw[Hf q,Hf q];exact r.repl k ry
 ·rw[He q,He q];exact Paired.snoc r ⟨rfl,hb,ry⟩
def KT.keeps{H H':Hp}{kvs:List (List Key×V)}{xs:List (List Key×Addr×Value)}(r:KT H kvs xs)(ht:∀b ys,H b=some (.tup ys)->H' b=some (.tup ys)):KT H' kvs xs:=
 Paired.mapP r λ_ _ z=>⟨z.1,ht _ _ z.2.1,z.2.2⟩
section
variable {P:Program} {w:World} {H:Hp} {h:Heap} {a:Addr}
def yn{u:HO}(ok:bh P w H h)(e:Rd H a u):bp P w H h a u:=e.ok ok
def kU{kvs:List (Key×V)}(ok:bh P w H h)(e:Rd H a (.dK kvs)):kvs.length<=sizeLine/\(a == sysModules)=false/\∃vs,KV kvs vs/\h.DictOf (aN P w) a vs:=
 show bp P w H h a (.dK kvs)from yn ok e
def CM{kvs:List (Key×V)}(ok:bh P w H h)(e:H a=some (.dK kvs)):kvs.length<=sizeLine/\(a == sysModules)=false/\∃vs,KV kvs vs/\h.DictOf (aN P w) a vs:=kU ok (.inl e)
def jy{ks:List Key}(ok:bh P w H h)(e:H a=some (.tup (ks.map kV))):(tupleKind (aN P w)).is h ks a:=by obtain⟨_,its,r,o,h1,h2,n,h3⟩:=(show bp P w H h a (.tup (ks.map kV))from ok a _ e);exact⟨o,its.toArray,n,h1,h2,h3,by simpa using lL r⟩
def kK{kvs:List (List Key×V)}(ok:bh P w H h)(e:Rd H a (.dT kvs)):kvs.length<=sizeLine/\(a == sysModules)=false ∧
  ∃xs,KT H kvs xs/\h.DictOfH (tupleKind (aN P w)) a xs:=by
 obtain⟨z,y,xs,r,o,es,ep,h1,h2,h3,h4,h5⟩:=(show bp P w H h a (.dT kvs)from yn ok e);refine⟨z,y,xs,r,o,es,ep,h1,h2,h3,h4,λx hx=>?_,h5⟩;have all:∀{l:List (List Key×V)} {m:List (List Key×Addr×Value)},KT H l m->∀x∈m,(tupleKind (aN P w)).is h x.1 x.2.1:=by
  intro l m q;induction q with
  | nil=>intro x hx;exact nomatch hx
  | @cons p q ps qs hq t ih=>
   intro x hx;rcases Gq.mp hx with e|hx
   ·subst e;exact jy ok (by rw[←hq.1];exact hq.2.1)
   ·exact ih x hx
 exact all r x hx
def sZ{kvs:List (List Key×V)}(ok:bh P w H h)(e:H a=some (.dT kvs)):kvs.length<=sizeLine/\(a == sysModules)=false ∧
  ∃xs,KT H kvs xs/\h.DictOfH (tupleKind (aN P w)) a xs:=kK ok (.inl e)
end
def cU(H:Hp)(a:Addr)(y:V)(r:Option V):Prop:=
 (∃kvs k,Rd H a (.dK kvs)/\y=kV k/\r=bI kvs k)\/∃kvs k b,Rd H a (.dT kvs)/\y=.ref b/\H b=some (.tup (k.map kV))/\r=bI kvs k
def gg(H:Hp)(a:Addr)(y v:V)(H':Hp):Prop:=
 (∃kvs k,H a=some (.dK kvs)/\y=kV k/\kvs.length<sizeLine/\H'=upd H a (.dK (putK kvs k v))) ∨
 ∃kvs k b,H a=some (.dT kvs)/\y=.ref b/\H b=some (.tup (k.map kV))/\kvs.length<sizeLine/\H'=upd H a (.dT (putK kvs k v))
def cU.t{H:Hp}{a b:Addr}{kvs:List (List Key×V)}{k:List Key}(e:H a=some (.dT kvs))(eb:H b=some (.tup (k.map kV))):cU H a (.ref b) (bI kvs k):=.inr ⟨kvs,k,b,.inl e,rfl,eb,rfl⟩
def gg.t{H:Hp}{a b:Addr}{kvs:List (List Key×V)}{k:List Key}{v:V}(e:H a=some (.dT kvs))(eb:H b=some (.tup (k.map kV)))(hl:kvs.length<sizeLine):
  gg H a (.ref b) v (upd H a (.dT (putK kvs k v))):=.inr ⟨kvs,k,b,e,rfl,eb,hl,rfl⟩
section
variable {X:Cx} {pins:List (Addr×Obj)} {σ:St} {H:Hp} {s:Shared} {a:Addr} {y v:V} {u r:Value} {o:Option V} {A:Around} {E:Value->Shared->Prop}
def Inv.big(I:Inv X pins σ H s):sysModules<s.heap.objs.size:=by have h:mainGlobals<s.heap.objs.size:=(I.mod.glob.keeps I.bk).lt;exact Nat.lt_trans (by decide) h
def DM{Q:Value->Shared->Prop}(hu:A.units+1<cLine)(I:Inv X pins σ H s)(g:cU H a y (some v))(ry:RelV y u)(h:∀w' s',Inv X pins σ H s'->RelV v w'->Q w' s'):
  wpAny (model X.prog X.w) A (getItem (.ref a) u) Q E s:=by
 rcases g with⟨kvs,k,e,ey,l⟩|⟨kvs,k,b,e,ey,eb,l⟩
 ·subst ey;obtain⟨z,hd,vs,rel,dd⟩:=kU I.hok e;obtain⟨w',hw,rw'⟩:=dN.some_of (v:=v) (o:=valueAt vs k) (by rw[l];exact rel.val k);exact wpAny_getItem_of (iI ry) dd.mapOf hw (h w' _ (I.tok _) rw')
 ·subst ey;cases(show u=Value.ref b from ry);obtain⟨z,hd,xs,rel,dd⟩:=kK I.hok e;obtain⟨w',hw,rw'⟩:=dN.some_of (v:=v) (o:=(atKey xs k).map (·.2)) (by rw[l];exact rel.val k);obtain⟨p,hp,hp2⟩:=Gn.mp hw;refine wpAny_getItem_heap (tupleKind_room_in1 hu) (jy I.hok eb) dd hp ?_;rw[hp2];exact h w' _ (I.tok _) rw'
def zt{Q:Value->Shared->Prop}(hu:A.units+1<cLine)(I:Inv X pins σ H s)(g:cU H a y o)(ry:RelV y u)(h:∀s',Inv X pins σ H s'->Q (.bool (!o.isSome)) s'):
  wpAny (model X.prog X.w) A (compareOp .NotIn u (.ref a)) Q E s:=by
 rcases g with⟨kvs,k,e,ey,l⟩|⟨kvs,k,b,e,ey,eb,l⟩
 ·subst ey;obtain⟨z,hd,vs,rel,dd⟩:=kU I.hok e;refine wpAny_notIn_of (iI ry) hd dd.mapOf ?_;rw[←(rel.val k).isSome_eq,←l];exact h _ (I.tok _)
 ·subst ey;cases(show u=Value.ref b from ry);obtain⟨z,hd,xs,rel,dd⟩:=kK I.hok e;refine wpAny_notIn_heap (tupleKind_room_in1 hu) (jy I.hok eb) hd dd ?_;have q:=(rel.val k).isSome_eq;rw[Option.isSome_map]at q;rw[←q,←l];exact h _ (I.tok _)
def qD{h':Heap}{t':Nat}{ob:HO}(I:Inv X pins σ H s)(mu:jF (H a))(hs:Heap.SameBut a s.heap h')(he:∃q,h'.get? a=some q)(new:bp X.prog X.w (upd H a ob) h' a ob):
  Inv X pins σ (upd H a ob) { s with heap:=h',toks:=t' }:=
 I.write (x:=a) (e:=a) mu (.inl rfl) (λb q hb z=>(hs.2 b hb).trans z) he new
def zZ{P:Program}{w:World}{H':Hp}{h':Heap}{kvs:List (Key×V)}{vs:List (Key×Value)}(z:kvs.length<=sizeLine)(hd:(a == sysModules)=false)(rel:KV kvs vs)(dd:h'.DictOf (aN P w) a vs):
  bp P w H' h' a (.dK kvs):=⟨z,hd,vs,rel,dd⟩
def yF{H':Hp}{Q:Unit->Shared->Prop}(hu:A.units+1<cLine)(I:Inv X pins σ H s)(g:gg H a y v H')(ry:RelV y u)(rv:RelV v r)(h:∀s',Inv X pins σ H' s'->Q () s'):
  wpAny (model X.prog X.w) A (setItem (.ref a) u r) Q E s:=by
 rcases g with⟨kvs,k,e,ey,l,eH⟩|⟨kvs,k,b,e,ey,eb,l,eH⟩
 ·subst ey eH;obtain⟨z,hd,vs,rel,dd⟩:=CM I.hok e;have hz:vs.length<=sizeLine:=by rw[←rel.length];exact z
  have hl:(putK kvs k v).length<=sizeLine:=by have:=rd kvs k v;omega
  refine wpAny_setItem_pairs (hsz:=hz) (iI ry) dd λh' dd' hs=>h _ ?_;have he:∃q,h'.get? a=some q:=let ⟨q,_,_,hq,_⟩:=dd';⟨q,hq⟩;exact qD I (by rw[e];exact True.intro) hs he (zZ hl hd (rel.put k rv) dd')
 ·subst ey eH;cases(show u=Value.ref b from ry);obtain⟨z,hd,xs,rel,dd⟩:=sZ I.hok e;have hz:xs.length<=sizeLine:=by rw[←Paired.length rel];exact z
  have hl:(putK kvs k v).length<=sizeLine:=by have:=rd kvs k v;omega
  refine wpAny_setItem_heap (hsz:=hz) (tupleKind_room_in1 hu) (jy I.hok eb) dd λh' dd' hs=>h _ ?_;obtain⟨q,es,ep,hq,h2,h3,h4,_,h5⟩:=dd';refine qD I (by rw[e];exact True.intro) hs ⟨q,hq⟩ ⟨hl,hd,_,(rel.put k eb rv).keeps λc ys ec=>?_,q,es,ep,hq,h2,h3,h4,h5⟩;rw[az (cK ec e (λz=>nomatch z))];exact ec
end
section
variable {X:Cx} {pins:List (Addr×Obj)} {σ:St} {H:Hp} {s:Shared} {a:Addr} {kvs:List (Key×V)} {k:Key} {u:Value} {A:Around} {E:Value->Shared->Prop}
end
def lV(i:Expr):Prop:=∀ov iv,subscripted i false ov iv=operate [ov,iv] (getItem ov iv)
def vi{prog:Program}{w:World}{A:Around}{E:Value->Shared->Prop}{s:Shared}{env:Env}{value slice:Expr}{pos:Pos}{T id:String}{Q:Value->Shared->Prop}
  (hl:typeLookup (.type T) "__getitem__" = pure (some (.builtin id))) (hs:lV slice)
  (h:wpAny (model prog w) A (eval value env) (λo s₁=>wpAny (model prog w) A (eval slice env) (λi s₂=>s₂.TypeIs o T/\wpAny (model prog w) A (getItem o i) Q E s₂) E s₁) E s) :
  wpAny (model prog w) A (eval (.Subscript value slice pos) env) Q E s:=by
 refine Subscript_ (wpAny_mono h (λo s₁ h₁=>wpAny_mono h₁ (λi s₂ h₂=>?_) λ_ _ x=>x) λ_ _ x=>x);obtain⟨hT,h₂⟩:=h₂;unfold subscriptTail;refine F4 ?_;rw[getitemInPython_of_ne hT.not_modules];refine F4 (wpAny_specialOf hT hl ?_);have fin:wpAny (model prog w) A (subscripted slice false o i) (λr s₃=>wpAny (model prog w) A (letTemporaryGo value o r >>= λ_=>pure r) Q E s₃) E s₂:=by rw[hs o i];exact wpAny_operating (wpAny_mono h₂ (λr s₃ h₃=>F4 (wpAny_letTemporaryGo (F5 h₃))) λ_ _ x=>x)
 first
  | exact F5 (F4 fin)
  | exact F4 (F5 (F4 fin))
  | exact F4 fin
def BA{X:Cx}{pins:List (Addr×Obj)}{σ:St}{H:Hp}{s:Shared}{a:Addr}{y:V}{o:Option V}(I:Inv X pins σ H s)(g:cU H a y o):s.TypeIs (.ref a) "dict":=by
 rcases g with⟨kvs,k,e,_,_⟩|⟨kvs,k,b,e,_,_,_⟩
 ·obtain⟨_,_,vs,_,dd⟩:=kU I.hok e;exact dd.typeIs
 ·obtain⟨_,_,xs,_,dd⟩:=kK I.hok e;exact dd.typeIs
def uy(td ty:TE):TE:=λσ H Q=>td σ H λx H1=>ty σ H1 λy H2=>∃a v,x=.ref a/\cU H2 a y (some v)/\Q v H2
def wc(ty td:TE):TE:=λσ H Q=>ty σ H λy H1=>td σ H1 λx H2=>∃a o,x=.ref a/\cU H2 a y o/\Q (.bl (!o.isSome)) H2
def vN(td ty tv:TE):TS:=λD σ H=>tv σ H λv H1=>td σ H1 λx H2=>ty σ H2 λy H3=>∃a H4,x=.ref a/\gg H3 a y v H4/\D.nx σ H4
section
variable {X:Cx} {o i e value:Expr} {pos pos' tpos:Pos} {td ty tv:TE}
def uR(hu:X.A.units+1<cLine)(ho:PE X o td)(hi:PE X i ty)(hs:lV i):PE X (.Subscript o i pos) (uy td ty):=by intro pins s σ H Q I h;refine vi PySem.F.slot_dict_getitem.lookup hs (ax (ho pins s σ H _ I h) λu s1 ⟨x,H1,I1,rx,q1⟩=>ax (hi pins s1 σ H1 _ I1 q1) λiv s2 ⟨y,H2,I2,ry,a,v,ex,g,q2⟩=>?_);subst ex;obtain rfl:u=Value.ref a:=rx;exact⟨BA I2 g,DM hu I2 g ry λw' s3 I3 rw'=>⟨v,H2,I3,rw',q2⟩⟩
def kN(hu:X.A.units+1<cLine)(hi:PE X i ty)(ho:PE X o td):PC X .NotIn i o (wc ty td):=by intro pins s σ H Q I h;refine ax (hi pins s σ H _ I h) λiv s1 ⟨y,H1,I1,ry,q1⟩=>ax (ho pins s1 σ H1 _ I1 q1) λu s2 ⟨x,H2,I2,rx,a,ov,ex,g,q2⟩=>?_;subst ex;obtain rfl:u=Value.ref a:=rx;exact zt hu I2 g ry λs3 I3=>⟨.bl (!ov.isSome),H2,I3,rfl,q2⟩
def vX(hu:X.A.units+1<cLine)(ho:PE X o td)(hi:PE X i ty)(hv:PE X value tv)(hs:swapsWith value (some (.Subscript o i pos')) pos.line X.env=pure false):
  PS X (.Assign [.Subscript o i pos'] value pos) (vN td ty tv):=by
 intro pins s σ H D I h;refine wpAny_Assign_Subscript (ax (hv pins s σ H _ I h) λr s1 ⟨v,H1,I1,rv,q1⟩=>ax (ho pins s1 σ H1 _ I1 q1) λu s2 ⟨x,H2,I2,rx,q2⟩=>ax (hi pins s2 σ H2 _ I2 q2) λiv s3 ⟨y,H3,I3,ry,a,H4,ex,g,q3⟩=>?_) hs;subst ex;obtain rfl:u=Value.ref a:=rx;exact yF hu I3 g ry rv λs4 I4=>⟨σ,H4,I4,q3⟩
end
def E7{P:Program}{w:World}{H:Hp}(h:Heap)(hb:sysModules<h.objs.size):bp P w H (h.push { cls:=.type "dict",data:=.dict #[] }) h.objs.size (.dT []):=
 ⟨Nat.zero_le _,beq_eq_false_iff_ne.mpr (Ne.symm (Gv hb)),[],.nil,_,#[],0,F8 _ rfl,⟨rfl,rfl,rfl⟩,rfl,rfl,List.nodup_nil⟩
section
variable {X:Cx} {pos:Pos}
end
section
variable {X:Cx} {pins:List (Addr×Obj)} {σ:St} {H:Hp} {s:Shared} {a:Addr} {y d:V} {u r:Value} {o:Option V} {A:Around} {E:Value->Shared->Prop}
end
section
variable {X:Cx} {o e f:Expr} {apos cpos:Pos} {td ty tx:TE}
end
section
variable {X:Cx} {pins:List (Addr×Obj)} {σ:St} {H:Hp} {s:Shared} {a:Addr} {kvs:List (Key×V)} {A:Around} {E:Value->Shared->Prop}
end
section
variable {X:Cx} {pins:List (Addr×Obj)} {σ:St} {H:Hp} {s:Shared} {a:Addr} {y:V} {u:Value} {A:Around} {E:Value->Shared->Prop}
end
section
variable {X:Cx}
end
section
variable {κ:Type} [DecidableEq κ]
end
def EU:entryFor table "proto.unchain" = some Builtin.«proto.unchain»:=entryFor_of_fast (by kernel_rfl)
def DR(o:Obj)(f:Array Value->Array Value):(o.mapFields f).dict=o.dict:=by unfold Obj.mapFields;split<;>rfl
def bS(h:Heap)(x:Addr)(dd:Option Addr):Prop:=∃o vs,h.get? x=some o/\o.data=.fields vs/\vs[2]?=some .none/\∀d,dd=some d->o.dict=some d
section
variable {prog:Program} {w:World} {A:Around} {E:Value->Shared->Prop} {s:Shared} {dd:Option Addr}
def zN{e:Value}{x:Addr}{Q:Value->Shared->Prop}(hx:bS s.heap x dd)(q:Q .none s):
  wpAny (model prog w) A (runValue (.builtin "proto.unchain" ⟨[e,.ref x,.ref x,.bool false],[]⟩)) Q E s:=by
 obtain⟨o,vs,h1,h2,h3,_⟩:=hx;refine wpAny_runValue (codeAny_builtin EU ?_);unfold Builtin.«proto.unchain»;refine F4 (wpAny_field h1 h2 h3 ?_);rw[Hf (show(Value.none == Value.none)=true from rfl)];exact F5 q
def DZ{α:Type}{a x:Addr}{o:Obj}{vs:Array Value}{Q:α->Shared->Prop}(hh:A.handled=some (.ref x))(hx:bS s.heap x dd)(hne:x≠a)(ho:s.heap.get? a=some o)(hd:o.data=.fields vs)(hz:2<vs.size)
  (q:∀h',Heap.SameBut a s.heap h'->(∃o',h'.get? a=some o'/\o'.cls=o.cls)->E (.ref a) { s with heap:=h' }):wpAny (model prog w) A (raiseNew (.ref a):Sem α) Q E s:=by
 unfold raiseNew;refine F4 (wpAny_handled ?_);rw[hh];have n1:(Value.ref x != Value.ref a)=true:=by simp[hne]
 dsimp only;rw[Hf n1];refine F4 (wpAny_holding (zN hx ?_));refine F4 ?_;show wpAny _ _ (setField (.ref a) 2 (.ref x)) _ _ s;refine wpAny_setField (i:=2) (x:=.ref x) ho hd hz ?_;refine wpAny_throw (q _ (Heap.SameBut.update ..) ⟨_,Heap.get?_update_self _ ho (Obj.isFreed_of_fields (Obj.data_mapFields hd _)),Obj.cls_mapFields ..⟩)
def bS.keeps{h h':Heap}{x:Addr}(a:bS h x dd)(k:∀b o,h.get? b=some o->h'.get? b=some o):bS h' x dd:=let ⟨o,vs,e,r⟩:=a;⟨o,vs,k _ _ e,r⟩
def Fq{α:Type}{x:Addr}{Q:α->Shared->Prop}(hh:A.handled=some (.ref x))(hx:bS s.heap x dd)
  (q:∀h' e,(∀b o,s.heap.get? b=some o->h'.get? b=some o)->(∃o,h'.get? e=some o/\o.cls=.type "StopIteration")->E (.ref e) { s with heap:=h' }) :
  wpAny (model prog w) A (Builtin.SmallTypes.stopIteration:Sem α) Q E s:=by
 unfold Builtin.SmallTypes.stopIteration;refine F4 ?_;unfold newExc newTuple;refine F4 (wpAny_newObj_type ?_ (by size_fits));refine F4 (wpAny_of_eq (a:=Value.none) (t:=firstArgMember _ _) (by first|rfl|(unfold firstArgMember;rfl)) (wpAny_newObj_type ?_ (by size_fits)));have lt:=F9 hx.choose_spec.choose_spec.1;refine DZ hh (hx.keeps λb o e=>F7 _ (F7 _ e)) (Gv ?_) (F8 _ rfl) rfl (by simp[ownMembersOf]) λh' k z=>?_
 ·rw[Heap.size_push];exact Nat.lt_succ_of_lt lt
 ·obtain⟨o',z1,z2⟩:=z;refine q h' _ (λb o e=>?_) ⟨o',z1,z2⟩;have lb:=F9 e;rw[k.2 b (Gv (by rw[Heap.size_push];exact Nat.lt_succ_of_lt lb))];exact F7 _ (F7 _ e)
def AL{it:Addr}{Q:Option Value->Shared->Prop}
  (h:wpAny (model prog w) A (callSpecial? (.ref it) "__next__") (λ_ _=>False) (λe s'=>∃p o,e=.ref p/\s'.heap.get? p=some o/\o.cls=.type "StopIteration"/\Q none s') s) :
  wpAny (model prog w) A (pyNext (.ref it)) Q E s:=by
 unfold pyNext;refine F4 (wpAny_attempt (wpAny_mono h (λ_ _ z=>z.elim) λe s' z=>?_));obtain⟨p,o,rfl,z1,z2,z3⟩:=z;exact F4 (wpAny_isInstance (T:="StopIteration") (b:=true) ⟨o,z1,z2⟩ isSubtype_stop (F5 z3))
def Bs{it l x:Addr}{i:Nat}{items:Array Value}{Q:Option Value->Shared->Prop}(hh:A.handled=some (.ref x))(hx:bS s.heap x dd)(hxi:x≠it)
  (hit:s.heap.IsListIter it l i) (hl:s.heap.IsList l items) (hi:items[i]?=none) (hQ:∀h',Heap.ExtBut it s.heap h'->Q none { s with heap:=h' }):wpAny (model prog w) A (pyNext (.ref it)) Q E s:=by
 obtain⟨o,ho,hc,hd⟩:=id hit;obtain⟨ol,hol,_,nl,hdl⟩:=hl;refine AL ?_;refine Ha (name:=GP "__next__") hit.typeIs slot_listiter_next (wpAny_call_entry slot_listiter_next hit.typeIs entry_listiter_next ?_ (args_listiter_next _));have n0:¬((Value.ref l == Value.none)=true):=Gr;show wpAny _ _ (field (.ref it) 0 >>= λq=>_) _ _ s;refine F4 (wpAny_field (x:=.ref l) ho hd rfl ?_);show wpAny _ _ (ite ((Value.ref l == Value.none)=true) _ _) _ _ s;rw[He n0];show wpAny _ _ (field (.ref it) 1 >>= λq=>_) _ _ s;refine F4 (wpAny_field (x:=.int i 0) ho hd rfl ?_);show wpAny _ _ (seqItems? (.ref l) >>= λq=>_) _ _ s;refine F4 (wpAny_seqItems hol hdl ?_);simp only[Gp,hi];have S:=Heap.SameBut.update s.heap it (Obj.mapFields (·.setIfInBounds 0 Value.none));refine F4 (wpAny_rule (F4 (wpAny_setField (x:=.none) ho hd (by simp) ?_)));have al:bS (s.heap.update it (Obj.mapFields (·.setIfInBounds 0 Value.none))) x dd:=by obtain⟨ox,vs,e1,r⟩:=hx;exact⟨ox,vs,(S.2 x hxi).trans e1,r⟩
 refine Fq (A:=A.in1) hh al λh' e k z=>?_;obtain⟨oz,z1,z2⟩:=z;exact⟨e,oz,rfl,z1,z2,hQ h' λb o' hb eb=>k b o' ((S.2 b hb).trans eb)⟩
def CQ{x:Addr}{oe:Obj}{vs:Array Value}(hh:A.handled=some (.ref x))(hd:oe.data=.fields vs)(h2:vs[2]?=some .none){it l:Addr}(hne:l≠it)(hxi:x≠it)(items:Array Value):
  Walks prog w A it [it,l,x] [it] items.size (λi v=>items[i]?=some v) (λi h=>(h.IsListIter it l i/\h.IsList l items)/\h.get? x=some oe) where
 sub:=λb hb=>Gq.mpr (.inl (Gm.mp hb))
 frame:=λ_ _ _ st k=>⟨⟨st.1.1.at λo e=>k it (by simp) o e,st.1.2.at λo e=>k l (by simp) o e⟩,k x (by simp) oe st.2⟩
 item:=λi s Q E hi st q=>wpAny_pyNext_list_item st.1.1 st.1.2 (x:=items[i]) (Array.getElem?_eq_getElem hi) λh' a b=>
  q _ h' s.toks (Array.getElem?_eq_getElem hi) ⟨⟨a,st.1.2.extBut b.extBut hne⟩,(b.2 x hxi).trans st.2⟩ λc o hc e=>(b.2 c λz=>hc (by simp[z])).trans e
 done:=λs Q E st q=>Bs (dd:=none) hh ⟨oe,vs,st.2,hd,h2,λ_ z=>by cases z⟩ hxi st.1.1 st.1.2 (Array.getElem?_eq_none (Gw _)) λh' k=>q h' s.toks λb o hb e=>k b o (λz=>hb (by simp[z])) e
 self:=λ_ _ _ _ st q=>wpAny_pyIter_listiter st.1.1 q
end
section
variable {M:Model} {A:Around} {E:Value->Shared->Prop} {s:Shared} {dd:Option Addr}
def bS.eq{h h':Heap}{x:Addr}(a:bS h x dd)(k:h'.get? x=h.get? x):bS h' x dd:=let ⟨o,vs,e,r⟩:=a;⟨o,vs,k.trans e,r⟩
def nF{B:Heap}{l:List Env}{e:Addr}{cls a0 fl:Value}{Q:Unit->Shared->Prop}(k:B.StaysIn s.heap)(hl:s.heap.FunFrames B l)(ht:s.heap.TracedAtW B e cls a0 fl)(al:bS s.heap e dd)
  (q:∀h',B.StaysIn h'->h'.FunFrames B l->h'.TracedW B e cls a0->s.heap.UpToSlots h'->bS h' e dd->Q () { s with heap:=h' }):wpAny M A (setFlight (.ref e) none) Q E s:=by
 obtain⟨oe,vs,T,oT,ts,g1,g2,g3,g4,g5,g6,g7,g8,g9⟩:=ht;have z:3<ts.size:=(Array.getElem?_eq_some_iff.mp g9).1;have S:=Heap.SameBut.update s.heap T (Obj.mapFields (·.setIfInBounds 3 ((none:Option Addr).elim Value.none λf=>rawInt f)));have nT:∀b o,s.heap.get? b=some o->(∀us,o.data≠.fields us)->b≠T:=by rintro b o hb hn rfl;rw[g7]at hb;cases hb;exact hn ts g8
 have n1:(Value.ref T != Value.none)=true:=by simp
 unfold setFlight;refine F4 (wpAny_field g1 g3 g4 ?_);rw[Hf n1];refine wpAny_setField g7 g8 z (q _ (λb o hb=>(S.2 b ?_).trans (k b o hb)) (hl.of_keeps λb o hb hn=>⟨o,(S.2 b (nT b o hb hn)).trans hb,rfl⟩) ?_ (λb o hb hn=>⟨o.slots,(S.2 b (nT b o hb hn)).trans hb⟩) (al.eq (S.2 e (Ne.symm g6))))
 ·rintro rfl;rw[g5]at hb;cases hb
 ·exact⟨oe,vs,T,_,_,(S.2 e (Ne.symm g6)).trans g1,g2,g3,g4,g5,g6,Heap.get?_update_self _ g7 (Obj.isFreed_of_fields (Obj.data_mapFields g8 _)),Obj.data_mapFields g8 _,by simp[z]⟩
def wV{B:Heap}{env:Env}{outer:List Env}{L e:Addr}{oe:Obj}{vs:Array Value}{head a0:Value}{more:Bool}{Q:Unit->Shared->Prop}(hfr:A.frames=some (env::outer))(hl:s.heap.FunFrames B (env::outer))(hf:env.frame=some L)
  (g1:s.heap.get? e=some oe) (k:B.StaysIn s.heap) (hen:B.get? e=none) (g3:oe.data=.fields vs) (z:1<vs.size) (h0:vs[0]?=some a0) (h2:vs[2]?=some .none) (hdd:∀d,dd=some d->oe.dict=some d)
  (q:∀h',Heap.NotedW B (env::outer) e oe.cls a0 (rawInt L) s.heap h'->bS h' e dd->Q () { s with heap:=h' }) :
  wpAny M A (frameOf env >>= λa=>entryPlaceOf L more >>= λpl=>EntryCells.newEntry head a .none (rawInt L) .none pl >>= λb=>setField (.ref e) 1 b) Q E s:=by
 have ne:e∉(env::outer).filterMap (·.frame):=λhm=>by obtain⟨_,o,ho,hn⟩:=hl.mem hm;rw[g1]at ho;cases ho;exact hn vs g3
 refine F4 (wpAny_frameOf_fun hfr hl hf λh1 S1=>F4 (wpAny_entryPlaceOf λpl hpl=>F4 ?_));unfold EntryCells.newEntry newFields;refine wpAny_newObj_type ?_ (hpl.sizeOk5 _ _ _ _ _);have t3:(([head,.ref L,.none,rawInt L,.none]++(if pl.isEmpty then GU 6 Value.none else pl)).toArray)[3]?=some (rawInt L):=by simp
 generalize ([head,.ref L,.none,rawInt L,.none]++(if pl.isEmpty then GU 6 Value.none else pl)).toArray=ts at t3 ⊢;have e1:h1.get? e=some oe:=(S1.2.1 e ne).trans g1;have k1:B.StaysIn h1:=λb o hb=>(S1.2.1 b λhm=>by rw[(hl.mem hm).1]at hb;cases hb).trans (k b o hb);have nT:h1.objs.size≠e:=Nat.ne_of_gt (F9 e1);have e2:=F7 (h:=h1) { cls:=.type "traceback",dict:=none,data:=.fields ts } e1;have eT:=F8 h1 (o:={ cls:=.type "traceback",dict:=none,data:=.fields ts }) rfl;refine wpAny_setField e2 g3 z (q _ ?_ ?_)
 all_goals
  have S2:=Heap.SameBut.update (h1.push { cls:=.type "traceback",dict:=none,data:=.fields ts }) e (Obj.mapFields (·.setIfInBounds 1 (Value.ref h1.objs.size)));have e3:=Heap.get?_update_self (Obj.mapFields (·.setIfInBounds 1 (Value.ref h1.objs.size))) e2 (Obj.isFreed_of_fields (Obj.data_mapFields g3 _));have d3:=Obj.data_mapFields g3 (·.setIfInBounds 1 (Value.ref h1.objs.size))
 ·have up:∀b o,s.heap.get? b=some o->(∀us,o.data≠.fields us)->∃sl,((h1.push { cls:=.type "traceback",dict:=none,data:=.fields ts }).update e (Obj.mapFields (·.setIfInBounds 1 (Value.ref h1.objs.size)))).get? b=some { o with slots:=sl }:=λb o hb hn=>by
   obtain⟨sl,hs⟩:=S1.2.2 b o hb;have nb:b≠e:=by rintro rfl;rw[g1]at hb;cases hb;exact hn vs g3
   exact⟨sl,(S2.2 b nb).trans (F7 _ hs)⟩
  refine⟨λb o hb=>?_,hl.of_keeps λb o hb hn=>?_,⟨_,_,h1.objs.size,_,ts,e3,⟨Obj.cls_mapFields ..,?_⟩,d3,?_,k1.fresh,nT,(S2.2 _ nT).trans eT,rfl,t3⟩,up⟩
  ·have nb:b≠e:=by rintro rfl;rw[hen]at hb;cases hb
   exact(S2.2 b nb).trans (F7 _ (k1 b o hb))
  ·obtain⟨sl,z⟩:=up b o hb hn;exact⟨_,z,rfl⟩
  ·rw[Array.getElem?_setIfInBounds_ne (by decide)];exact h0
  ·simp[z]
 ·refine⟨_,_,e3,d3,by rw[Array.getElem?_setIfInBounds_ne (by decide)];exact h2,λd z=>?_⟩;rw[←hdd d z];exact DR ..
def xG{B:Heap}{env:Env}{outer:List Env}{L e:Addr}{cls a0:Value}{Q:Unit->Shared->Prop}(hfr:A.frames=some (env::outer))(hf:env.frame=some L)(fl:Heap.FlyingW B (env::outer) e cls a0 s.heap)(al:bS s.heap e dd)
  (q:∀h',Heap.HeldW B (env::outer) e cls a0 L h'->s.heap.UpToSlots h'->bS h' e dd->Q () { s with heap:=h' }):wpAny M A (noteFrame (.ref e) env) Q E s:=by
 obtain⟨k,hen,hl,oe,vs,T,oT,ts,g1,⟨rfl,h0⟩,g3,g4,g5,g6,g7,g8,g9⟩:=fl;have h2:vs[2]?=some .none/\∀d,dd=some d->oe.dict=some d:=by obtain⟨o',vs',x1,x2,x3⟩:=al;rw[g1]at x1;cases x1;rw[g3]at x2;cases x2;exact x3
 have z:3<ts.size:=(Array.getElem?_eq_some_iff.mp g9).1;have S:=Heap.SameBut.update s.heap T (Obj.mapFields (·.setIfInBounds 3 Value.none));have nT:∀b o,s.heap.get? b=some o->(∀us,o.data≠.fields us)->b≠T:=by rintro b o hb hn rfl;rw[g7]at hb;cases hb;exact hn ts g8
 have n1:(Value.ref T != Value.none)=true:=by simp
 have n2:¬((Value.none == rawInt L)=true):=by simp[rawInt]
 unfold noteFrame;simp only[hf];refine F4 (wpAny_field g1 g3 g4 ?_);rw[Hf n1];refine F4 (wpAny_field g7 g8 g9 ?_);rw[He n2];refine F4 (wpAny_setField g7 g8 z ?_);refine wV hfr (hl.of_keeps λb o hb hn=>⟨o,(S.2 b (nT b o hb hn)).trans hb,rfl⟩) hf ((S.2 e (Ne.symm g6)).trans g1) (λb o hb=>(S.2 b ?_).trans (k b o hb)) hen g3 (Array.getElem?_eq_some_iff.mp g4).1 h0 h2.1 h2.2 λh' N al'=>?_
 ·rintro rfl;rw[g5]at hb;cases hb
 ·obtain⟨x1,x2,x3,x4⟩:=N;exact q h' ⟨x1,hen,x2,x3⟩ (λb o hb hn=>x4 b o ((S.2 b (nT b o hb hn)).trans hb) hn) al'
def sR{B:Heap}{l:List Env}{e:Addr}{cls a0:Value}{Q:Unit->Shared->Prop}{L:Addr}(fl:Heap.HeldW B l e cls a0 L s.heap)(al:bS s.heap e dd)
  (q:∀h',Heap.FlyingW B l e cls a0 h'->s.heap.UpToSlots h'->bS h' e dd->Q () { s with heap:=h' }):wpAny M A (setFlight (.ref e) none) Q E s:=
 nF fl.1 fl.2.2.1 fl.2.2.2 al λh' a b c d f=>q h' ⟨a,fl.2.1,b,c⟩ d f
def yZ{B:Heap}{l:List Env}{e:Addr}{cls a0:Value}{Q:Unit->Shared->Prop}(fl:Heap.FlyingW B l e cls a0 s.heap)(al:bS s.heap e dd)
  (q:∀h',Heap.FlyingW B l e cls a0 h'->s.heap.UpToSlots h'->bS h' e dd->Q () { s with heap:=h' }):wpAny M A (setFlight (.ref e) none) Q E s:=
 nF fl.1 fl.2.2.1 fl.2.2.2.at al λh' a b c d f=>q h' ⟨a,fl.2.1,b,c⟩ d f
def Dc{B:Heap}{env:Env}{outer:List Env}{L e:Addr}{cls a0:Value}{Q:Unit->Shared->Prop}(hfr:A.frames=some (env::outer))(hf:env.frame=some L)(fl:Heap.FlyingW B (env::outer) e cls a0 s.heap)(al:bS s.heap e dd)
  (q:∀h',Heap.FlyingW B outer e cls a0 h'->s.heap.UpToSlots h'->bS h' e dd->Q () { s with heap:=h' }):wpAny M A (leaving env (.ref e)) Q E s:=by
 unfold leaving;refine F4 (xG hfr hf fl al λh1 H1 u1 a1=>sR (s:={ s with heap:=h1 }) H1 a1 λh2 F2 u2 a2=>?_);obtain⟨x1,x2,⟨_,_,x3⟩,x4⟩:=F2;exact q h2 ⟨x1,x2,x3,x4⟩ (u1.trans u2) a2
structure MadeX(h h':Heap)(e:Addr)(cls:Value)(dd:Option Addr):Prop where
 keeps:∀b o,h.get? b=some o->h'.get? b=some o
 new:h.get? e=none
 there:∃oe vs t,h'.get? e=some oe/\oe.cls=cls/\oe.data=.fields vs/\vs[0]?=some (.ref t)/\vs[1]?=some .none/\vs[2]?=some .none/\1<vs.size/\∀d,dd=some d->oe.dict=some d
def MadeX.of{h h':Heap}{e:Addr}{cls:Value}{args:List Value}(hx:Heap.MadeExcOf h h' e cls args):MadeX h h' e cls none:=by obtain⟨t,he,_,_⟩:=hx.there;exact⟨hx.keeps,hx.new,_,_,t,he,rfl,rfl,rfl,rfl,rfl,by simp,λ_ z=>by cases z⟩
def En{B h:Heap}{env:Env}{outer:List Env}{L e:Addr}{cls:Value}{Q:Unit->Shared->Prop}(hfr:A.frames=some (env::outer))(hf:env.frame=some L)(k:B.StaysIn h)(hl:h.FunFrames B (env::outer))(hx:MadeX h s.heap e cls dd)
  (q:∀h' a0,Heap.FlyingW B outer e cls a0 h'->s.heap.UpToSlots h'->bS h' e dd->Q () { s with heap:=h' }):wpAny M A (leaving env (.ref e)) Q E s:=by
 obtain⟨oe,vs,t,he,rfl,hd,h0,h1,h2,hz,hdd⟩:=hx.there;have fresh:∀b,h.get? b=none->B.get? b=none:=λb hb=>by
  cases hq:B.get? b with
  | none=>rfl
  | some o'=>exact absurd (k b o' hq) (by rw[hb];intro z;cases z)
 unfold leaving noteFrame;simp only[hf];refine F4 (F4 (wpAny_field (x:=.none) he hd h1 ?_));rw[He (by decide)];refine wV (a0:=.ref t) hfr (hl.of_keeps λb o hb _=>⟨o,hx.keeps b o hb,rfl⟩) hf he (λb o hb=>hx.keeps b o (k b o hb)) (fresh e hx.new) hd hz h0 h2 hdd λh1 N a1=>?_;obtain⟨x1,x2,x3,x4⟩:=N;refine nF (s:={ s with heap:=h1 }) x1 x2 x3 a1 λh2 y1 y2 y3 y4 y5=>?_;obtain⟨_,_,y2'⟩:=y2;exact q h2 _ ⟨y1,fresh e hx.new,y2',y3⟩ (Heap.UpToSlots.trans x4 y4) y5
end
def bp.obj{P:Program}{w:World}{H:Hp}{h:Heap}{a:Addr}{o:HO}(x:bp P w H h a o):∃ob,h.get? a=some ob:=by
 cases o with
 | lst xs=>obtain⟨_,_,_,_,e⟩:=x;exact⟨_,e⟩
 | tup xs=>obtain⟨_,_,_,ob,e,_⟩:=x;exact⟨_,e⟩
 | dK kvs=>obtain⟨_,_,_,_,ob,es,ep,e,_⟩:=x;exact⟨_,e⟩
 | dT kvs=>obtain⟨_,_,_,_,ob,es,ep,e,_⟩:=x;exact⟨_,e⟩
 | set S n=>obtain⟨ob,es,ep,t,e,_⟩:=x;exact⟨_,e⟩
 | ins C dx fs=>obtain⟨_,_,_,e,_⟩:=x;exact⟨_,e⟩
 | own y=>exact x
 | xd fs=>obtain⟨mA,hn,_⟩:=x;obtain⟨ob,es,ep,e,_⟩:=hn;exact⟨_,e⟩
 | rng lo hi=>obtain⟨_,_,_,e⟩:=x;exact⟨_,e⟩
 | frz ob u=>exact⟨_,x.1⟩
 | tbl ps=>exact⟨_,x⟩
 | met f y=>exact⟨_,x⟩
 | ext φ=>exact x.2.1
structure Fly(P:Program)(w:World)(outer:List Env)(H:Hp)(s:Shared)(x:Addr)(cls:Value)(da:Option Addr)(H':Hp)(s':Shared):Prop where
 os:s'.os=s.os
 bare:AllBare s'.gens
 un:Un (aX outer) [] H H' s.heap s'.heap
 hok:bh P w H' s'.heap
 new:H' x=none
 alone:bS s'.heap x da
 fly:∃B a0,Heap.FlyingW B outer x cls a0 s'.heap/\(∀b o,s'.heap.get? b=some o->H' b≠none->B.get? b=some o) ∧
  ∀b o o',s.heap.get? b=some o->b∉aX outer->s'.heap.get? b=some o'->B.get? b=some o'
def bQ(P:Program)(w:World):fi:=λouter H s E e s'=>∃x cls da H',e=.ref x/\E cls da H'/\Fly P w outer H s x cls da H' s'
section
variable {P:Program} {w:World} {K:F6} {mg:Str->Option Value} {base:Heap} {N:List Str} {qual:Str} {scope:Scope} {f:Addr} {cd:Value} {A:Around} {outer:List Env} {s₀:Shared} {H₀:Hp} {E:XK}
def vm{l:List Env}{env:Env}{a:Addr}(h:env∈l)(e:env.frame=some a):a∈aX l:=List.mem_filterMap.mpr ⟨env,h,e⟩
def CN{pins:List (Addr×Obj)}{σ:St}{H:Hp}{s:Shared}{h1:Heap}{tk:Nat}{e:Addr}{cls:Value}{da:Option Addr}(I:Inv (bF (bQ P w) P w K mg base N qual scope f cd A outer s₀ H₀ E) pins σ H s)
  (hx:MadeX s.heap h1 e cls da) (hE:E cls da H):(bF (bQ P w) P w K mg base N qual scope f cd A outer s₀ H₀ E).xe (.ref e) { s with heap:=h1,toks:=tk }:=by
 have stk:(bF (bQ P w) P w K mg base N qual scope f cd A outer s₀ H₀ E).stack=envOfC qual scope s₀.heap.objs.size f cd::outer:=rfl;have hL:∀b∈aX (envOfC qual scope s₀.heap.objs.size f cd::outer),b∈aX outer\/b=s₀.heap.objs.size:=λb hb=>by
  have:=I.stkSub b hb;rcases Gq.mp this with z|z
  ·exact .inr z
  ·exact .inl z
 have hfr:∀env∈(envOfC qual scope s₀.heap.objs.size f cd::outer),∀a,env.frame=some a->a∈aX (envOfC qual scope s₀.heap.objs.size f cd::outer):=λenv he a ha=>vm he ha;have hff:=PySem.W.funFrames_hide I.stack hfr;have low:∀b o,s₀.heap.get? b=some o->b∉aX outer->b∉aX (envOfC qual scope s₀.heap.objs.size f cd::outer):=λb o hb hn hm=>by
  rcases hL b hm with z|z
  ·exact hn z
  ·exact absurd (F9 hb) (by rw[z];exact Nat.lt_irrefl _)
 refine En (B:=PySem.W.hideAll s.heap (aX (envOfC qual scope s₀.heap.objs.size f cd::outer))) (h:=s.heap) I.ok.frames rfl (λb o q=>PySem.W.of_hideAll _ q) hff hx λh' t x1 x4 x5=>?_;have up:∀b∈aX (envOfC qual scope s₀.heap.objs.size f cd::outer),∀o,s.heap.get? b=some o->∃sl,h'.get? b=some { o with slots:=sl }:=λb hb o ho=>by obtain⟨_,o',ho',hd⟩:=hff.mem hb;rw[ho]at ho';cases ho';exact x4 b o (hx.keeps b o ho) hd
 have stay:∀b o,b∉aX (envOfC qual scope s₀.heap.objs.size f cd::outer)->s.heap.get? b=some o->h'.get? b=some o:=λb o hn ho=>x1.1 b o (PySem.W.hideAll_get _ ho hn);have fP:∀b,H b≠none->b∉aX (envOfC qual scope s₀.heap.objs.size f cd::outer):=λb hb hm=>hb (I.stkFree b hm);have U:=I.base;have hnew:H e=none:=by
  cases hq:H e with
  | none=>rfl
  | some u=>
   obtain⟨ob,z⟩:=(I.hok e u hq).obj;rw[hx.new]at z;cases z
 refine⟨e,cls,da,H,rfl,hE,I.os,I.bare,⟨λb o q n hb _=>stay b o (low b o q hb) (U.keep b o q n hb (by intro z;cases z)),λb o q n hb _=>?_,λb o q n _=>U.free b o q n (by intro z;cases z),λb o q _=>?_,U.tups,U.frzs,U.tbls⟩,λa o q=>?_,hnew,x5,_,_,x1,λb o q hb=>?_,λb o o' q hb q'=>?_⟩
 ·obtain⟨sl,e1⟩:=U.slot b o q n hb (by intro z;cases z);obtain⟨sl',e2⟩:=up b (by show b∈List.filterMap _ (_::_);exact Ge _ hb) _ e1;exact⟨sl',e2⟩
 ·obtain⟨o1,e1⟩:=U.there b o q (by intro z;cases z);by_cases hb:b∈aX (envOfC qual scope s₀.heap.objs.size f cd::outer)
  ·obtain⟨sl,e2⟩:=up b hb _ e1;exact⟨_,e2⟩
  ·exact⟨_,stay b _ hb e1⟩
 ·refine(I.hok a o q).stay (λb u hb z=>stay b u (fP b ?_) z) (λ_ z=>z) λ_ _ z=>z;rcases hb with rfl|hb
  ·rw[q];intro z;cases z
  ·rw[hb];intro z;cases z
 ·obtain⟨o1,e1⟩:∃o1,s.heap.get? b=some o1:=by
   cases hq:H b with
   | none=>exact absurd hq hb
   | some u=>exact(I.hok b u hq).obj
  have:=stay b o1 (fP b hb) e1;rw[q]at this;cases this;exact PySem.W.hideAll_get _ e1 (fP b hb)
 ·obtain⟨o1,e1⟩:=U.there b o q (by intro z;cases z);have hn:=low b o q hb;have:=stay b o1 hn e1;rw[q']at this;cases this;exact PySem.W.hideAll_get _ e1 hn
def Dw{E':XK}(hEE:∀cls da H,E' cls da H->E cls da H):Passes (bQ P w) (bF (bQ P w) P w K mg base N qual scope f cd A outer s₀ H₀ E) E':=by
 intro pins σ H s e s' I h;obtain⟨x,cls,da,H',rfl,hE,F⟩:=h;obtain⟨B,a0,fl,f1,f2⟩:=F.fly;have hL:∀b∈aX (envOfC qual scope s₀.heap.objs.size f cd::outer),b∈aX outer\/b=s₀.heap.objs.size:=λb hb=>by
  rcases Gq.mp (I.stkSub b hb)with z|z
  ·exact .inr z
  ·exact .inl z
 have low:∀b o,s₀.heap.get? b=some o->b∉aX outer->b∉aX (envOfC qual scope s₀.heap.objs.size f cd::outer):=λb o hb hn hm=>by
  rcases hL b hm with z|z
  ·exact hn z
  ·exact absurd (F9 hb) (by rw[z];exact Nat.lt_irrefl _)
 have U:=I.base;have no:∀b:Addr,b∉([]:List Addr):=λb z=>by cases z
 refine Dc I.ok.frames rfl fl F.alone λh' x1 x2 x3=>?_;have two:∀b o,s₀.heap.get? b=some o->∃o1 o2,s.heap.get? b=some o1/\s'.heap.get? b=some o2:=λb o q=>by obtain⟨o1,e1⟩:=U.there b o q (no b);obtain⟨o2,e2⟩:=F.un.there b o1 e1 (no b);exact⟨o1,o2,e1,e2⟩
 have stay:∀b o o2,s₀.heap.get? b=some o->b∉aX outer->s'.heap.get? b=some o2->B.get? b=some o2:=λb o o2 q hb q2=>by obtain⟨o1,o2',e1,e2⟩:=two b o q;exact f2 b o1 o2 e1 (low b o q hb) q2
 have hff:=fl.2.2.1;refine⟨x,cls,da,H',rfl,hEE _ _ _ hE,F.os.trans I.os,F.bare,⟨λb o q n hb _=>?_,λb o q n hb _=>?_,λb o q n _=>?_,λb o q _=>?_,λb xs q=>F.un.tups b xs (U.tups b xs q),λb o u q=>F.un.frzs b o u (U.frzs b o u q),λb ps q=>?_⟩,λa o q=>?_,F.new,x3,B,a0,x1,λb o q hb=>?_,λb o o' q hb q'=>?_⟩
 ·have e1:=U.keep b o q n hb (no b);have e2:=F.un.keep b o e1 (U.free b o q n (no b)) (low b o q hb) (no b);exact x1.1 b o (stay b o o q hb e2)
 ·obtain⟨sl,e1⟩:=U.slot b o q n hb (no b);have hb':b∈aX (envOfC qual scope s₀.heap.objs.size f cd::outer):=by show b∈List.filterMap _ (_::_);exact Ge _ hb
  obtain⟨sl2,e2⟩:=F.un.slot b _ e1 (U.free b o q n (no b)) hb' (no b);obtain⟨_,o',ho',hd⟩:=hff.mem hb';rw[e2]at ho';cases ho';obtain⟨sl3,e3⟩:=x2 b _ e2 hd;exact⟨sl3,e3⟩
 ·obtain⟨o1,e1⟩:=U.there b o q (no b);exact F.un.free b o1 e1 (U.free b o q n (no b)) (no b)
 ·obtain⟨o1,o2,e1,e2⟩:=two b o q;by_cases hb:b∈aX outer
  ·have hb':b∈aX (envOfC qual scope s₀.heap.objs.size f cd::outer):=by show b∈List.filterMap _ (_::_);exact Ge _ hb
   obtain⟨_,o',ho',hd⟩:=hff.mem hb';obtain⟨sl3,e3⟩:=x2 b _ ho' hd;exact⟨_,e3⟩
  ·exact⟨_,x1.1 b o2 (stay b o o2 q hb e2)⟩
 ·obtain⟨m1,e1⟩:=U.tbls b ps q;obtain⟨m2,e2⟩:=F.un.tbls b _ e1;exact⟨m1++m2,by rw[e2,Array.append_assoc]⟩
 ·refine(F.hok a o q).stay (λb u hb z=>x1.1 b u (f1 b u z ?_)) (λ_ z=>z) λ_ _ z=>z;rcases hb with rfl|hb
  ·rw[q];intro z;cases z
  ·rw[hb];intro z;cases z
 ·obtain⟨o1,e1⟩:∃o1,s'.heap.get? b=some o1:=by
   cases hq:H' b with
   | none=>exact absurd hq hb
   | some u=>exact(F.hok b u hq).obj
  have e2:=f1 b o1 e1 hb;have:=x1.1 b o1 e2;rw[q]at this;cases this;exact e2
 ·obtain⟨o1,o2,e1,e2⟩:=two b o q;have e3:=stay b o o2 q hb e2;have:=x1.1 b o2 e3;rw[q']at this;cases this;exact e3
end
section
variable {prog:Program} {w:World} {A:Around} {E:Value->Shared->Prop} {K:F6} {x D:Addr} {ox:Obj} {s:Shared}
structure InstC(h:Heap)(x:Addr)(ox:Obj)(D:Addr):Prop where
 at_:h.get? x=some ox
 cls:ox.cls=.ref D
def InstC.type{M:Model}{h:Heap}{y C:Addr}{oy:Obj}(I:InstC h y oy C):PySem.W.Looks M h (typeOf (.ref y)) (.ref C):=by
 have z:PySem.W.Looks M h (typeOf (.ref y)) oy.cls:=(PySem.W.Looks.ld I.at_).andThen .now
 rwa [I.cls]at z
def ER{M:Model}{h:Heap}(X:K.In h)(ha:PySem.W.findIn K (.ref D) "__class__" = some (some (.builtin "object.__class__")))(hg:PySem.W.specialIn K (.builtin "object.__class__") "__get__" = some (some (.builtin "getset_descriptor.__get__")))
  (ht:PySem.W.takesIn K (.builtin "object.__class__")=some true):PySem.W.Looks M h (Builtin.ObjectAttr.find (.ref x) (.ref D) "__class__") (.bind (.builtin "getset_descriptor.__get__") (.builtin "object.__class__")):=by
 have L1:=PySem.W.looks_findIn (M:=M) X ha;have L2:PySem.W.Looks M h (Builtin.ObjectAttr.getOf (some (.builtin "object.__class__"))) (some (.builtin "getset_descriptor.__get__")):=PySem.W.looks_specialIn X hg;have L3:=PySem.W.looks_takesIn (M:=M) X ht;refine L1.andThen (L2.andThen ?_);refine PySem.W.Looks.andThen (a:=some (.builtin "getset_descriptor.__get__",.builtin "object.__class__")) (L3.andThen ?_) (PySem.W.Looks.tag .now);rw[Hf rfl];exact .now
def AD{tp:Value}{R:Result->Shared->Prop}(X:K.In s.heap)(I:InstC s.heap x ox D)(hm:PySem.W.mroIn K D (.type "object")=some true)(hq:R (.ok (.ret (.ref D))) s):
  codeAny (model prog w) A (.call (.builtin "getset_descriptor.__get__") ⟨[.builtin "object.__class__",.ref x,tp],[]⟩) R s:=by
 obtain⟨hh,g,d,t,os⟩:=s;have T0:=I.type (M:=model prog w);have T1:=PySem.W.looks_mroIn (M:=model prog w) X hm;refine codeAny_call_builtin PySem.W.KF.slot_gs.plain PySem.W.KF.entry_gs (PySem.W.KF.slot_gs.check _ _ _ _ _ _ _ _ PySem.W.KF.type_class (PySem.W.KF.args_gs _ _ _) ?_);unfold Builtin.«getset_descriptor.__get__» Builtin.Getset_descriptor.descrGet;rw[PySem.W.dga_obj];refine F4 (F5 ?_);unfold Builtin.Getset_descriptor.descrGetter Builtin.Getset_descriptor.descrCheckInstance Builtin.Getset_descriptor.descrNameAndClass isInstance;simp only[PySem.W.KF.owner_class];repeat lk
 refine⟨Code.quiet_builtin _ (by decide +kernel),codeAny_builtin PySem.W.KF.entry_class ?_⟩;unfold Builtin.«object.__class__» shownTypeOf;repeat lk
 exact hq
def E8{tk:Tok}{Q:Fin->Shared->Prop}(X:K.In s.heap)(I:InstC s.heap x ox D)(ha:PySem.W.findIn K (.ref D) "__class__" = some (some (.builtin "object.__class__")))(hg:PySem.W.specialIn K (.builtin "object.__class__") "__get__" = some (some (.builtin "getset_descriptor.__get__")))
  (ht:PySem.W.takesIn K (.builtin "object.__class__")=some true) (hm:PySem.W.mroIn K D (.type "object")=some true)
  (hq:Q (.done (.ret (.ref D))) s):wpAny (model prog w) A (Builtin.«object.__getattribute__» ⟨[.ref x,.str "__class__" tk],[]⟩) Q E s:=by
 obtain⟨hh,g,d,t,os⟩:=s;have L0:=I.type (M:=model prog w);have L1:=ER (M:=model prog w) (x:=x) X ha hg ht;unfold Builtin.«object.__getattribute__»;refine F4 (F5 (F4 (F5 (F4 (L0.at (F4 (L1.at ?_)))))));show wpAny _ _ (holding [Value.builtin "object.__class__"] (call (Value.builtin "getset_descriptor.__get__") [.builtin "object.__class__",.ref x,.ref D]) >>= ret) _ _ _;exact F4 (wpAny_holding (wpAny_call (AD (s:=⟨hh,g,d,t,os⟩) X I hm (F5 hq))))
def Ac{nameV:Value}{M:Model}{Q:Unit->Shared->Prop}(X:K.In s.heap)(I:InstC s.heap x ox D)(hs:PySem.W.subIn K (.ref D) (.type "BaseException")=some true)(hq:Q () s):
  wpAny M A (checkBuiltinCall "BaseException.__getattribute__" ⟨[.ref x,nameV],[]⟩) Q E s:=by
 have k1:builtinKind "BaseException.__getattribute__" = some .slot:=by decide +kernel
 have k2:splitId "BaseException.__getattribute__" = some ("BaseException","__getattribute__"):=by decide +kernel
 have k3:=PySem.F.args_bexc_ga (.ref x) nameV;have LI:PySem.W.Looks M s.heap (isInstance (.ref x) (.type "BaseException")) true:=(I.type (M:=M)).andThen (PySem.W.looks_subIn X hs);obtain⟨hh,g,d,t,os⟩:=s;simp only[checkBuiltinCall,k1,k2];refine F4 (LI.at ?_)
 repeat (any_goals (first|assumption|wp_step))
structure ExcK(K:F6)(D:Addr):Prop where
 lk:∃c d cd sl,K.lookup D=some ⟨c,d,.cls cd,sl⟩
 ga:PySem.W.findIn K (.ref D) "__getattribute__" = some (some (.builtin "BaseException.__getattribute__"))
 gt:PySem.W.findIn K (.ref D) "__getattr__" = some none
 sb:PySem.W.subIn K (.ref D) (.type "BaseException")=some true
 cf:PySem.W.findIn K (.ref D) "__class__" = some (some (.builtin "object.__class__"))
 cg:PySem.W.specialIn K (.builtin "object.__class__") "__get__" = some (some (.builtin "getset_descriptor.__get__"))
 ct:PySem.W.takesIn K (.builtin "object.__class__")=some true
 mo:PySem.W.mroIn K D (.type "object")=some true
def zh{Q:Option Value->Shared->Prop}(X:K.In s.heap)(I:InstC s.heap x ox D)(F:ExcK K D)
  (h:Q (some (.ref D)) { s with toks:=s.toks+1 }):wpAny (model prog w) A (getAttr? (.ref x) "__class__") Q E s:=by
 obtain⟨hh,g,d,t,os⟩:=s;have L0:=I.type (M:=model prog w);have L1:=PySem.W.looks_findIn (M:=model prog w) X F.ga;have L2:=PySem.W.looks_findIn (M:=model prog w) X F.gt;unfold getAttr? getAttrBy? getAttrBy;refine F4 (wpAny_mkText (F4 (wpAny_attempt (wpAny_holding (F4 (L0.at (F4 (L1.at ?_))))))))
 repeat (any_goals (first|assumption|wp_step|lk))
 refine codeAny_call_builtin (PySem.F.excAttr_ValueError).ga.plain PySem.F.entry_bexc_ga (Ac (s:=⟨hh,g,d,t+1,os⟩) X I F.sb (E8 (s:=⟨hh,g,d,t+1,os⟩) X I F.cf F.cg F.ct F.mo ?_))
 repeat (any_goals (first|assumption|wp_step|lk))
def pG(F:ExcK K D):PySem.W.KitX K (.ref x) (.ref D) (λh=>InstC h x ox D) where
 ty:=λ_ _ _ I=>I.type
 it:=λM h X _=>by obtain⟨c,d,cd,sl,ho⟩:=F.lk;intro A' Q' E' s' k q;unfold isType loadHead;exact F4 (wpAny_loadPart (k _ _ (X _ _ ho)) (F5 q))
 ne:=λh tp dd its n sl X htp=>by obtain⟨c,d,cd,sl',ho⟩:=F.lk;rw[Bool.eq_false_iff];intro q;cases(show D=tp from Value.ref.inj (eq_of_beq q));have z:=X _ _ ho;rw[htp]at z;cases z
 ca:=λX I k=>zh X I F k
end
abbrev bx(X:Cx)(x:Addr)(oe:Obj):Cx:={ X with A:=X.A.mark (some (.ref x)),calm:=false,pn:=(x,oe)::X.pn,xe:=λ_ _=>False }
abbrev lZ(X:Cx)(x:Addr):Cx:={ X with A:=X.A.mark (some (.ref x)),calm:=false,xe:=λ_ _=>False }
section
variable {X:Cx} {pins:List (Addr×Obj)} {σ:St} {H:Hp} {s:Shared} {x:Addr} {oe:Obj}
def Cx.Ok.marked(ok:X.Ok)(x:Addr):(lZ X x).Ok:=
 ⟨ok.mod,ok.kind,ok.glob,ok.blt,ok.above,ok.inj,ok.has,ok.cab,(λz=>Bool.noConfusion z),ok.frames,ok.stk,ok.exf,ok.bs,ok.bsz,ok.noex,ok.exfs,ok.funs,ok.frf⟩
def Inv.marked(I:Inv X pins σ H s)(x:Addr):Inv (lZ X x) pins σ H s:=⟨I.ok.marked x,I.os,I.bare,I.base,I.loc,I.cell,I.free,I.freeC,I.pin,I.hok,I.len⟩
def Inv.pinH(I:Inv X pins σ H s)(h1:s.heap.get? x=some oe)(h2:H x=none)(h3:x≠X.env.locals)(h4:x∉X.fs)(h5:∀v,oe.data≠.cell v):Inv (bx X x oe) pins σ H s:=
  ⟨⟨I.ok.mod,I.ok.kind,I.ok.glob,I.ok.blt,I.ok.above,I.ok.inj,I.ok.has,I.ok.cab,(λz=>Bool.noConfusion z),I.ok.frames,I.ok.stk,I.ok.exf,I.ok.bs,I.ok.bsz,I.ok.noex,I.ok.exfs,I.ok.funs,I.ok.frf⟩,I.os,I.bare,I.base,I.loc,I.cell,I.free,I.freeC,
    λp hp=>by
      rcases Gq.mp hp with rfl|hp
      · exact ⟨h1,h2,h3,h4,h5⟩
      · exact I.pin p hp,I.hok,I.len⟩
def Inv.unpinH(ok:X.Ok)(I:Inv (bx X x oe) pins σ H s):Inv X pins σ H s:=⟨ok,I.os,I.bare,I.base,I.loc,I.cell,I.free,I.freeC,λp hp=>I.pin p (Ge _ hp),I.hok,I.len⟩
def kO(K:F6)(x D:Addr):List V->Hp->VK->Prop:=λxs H Q=>∃b:Bool,((∃C,xs=[.ref x,.ref C]/\PySem.W.kitOne K (.ref D) (.ref C)=some b)\/(∃T,xs=[.ref x,.ty T]/\PySem.W.kitOne K (.ref D) (.type T)=some b) ∨
 ∃(p:Addr) (Cs:List Addr),xs=[.ref x,.ref p]/\H p=some (.tup (Cs.map V.ref))/\PySem.W.kitAny K (.ref D) (Cs.map Value.ref)=some b)/\Q (.bl b) H
def uY:∀{Cs:List Addr} {us:List Value},Vals (Cs.map V.ref) us->us=Cs.map Value.ref
 | [],_,r=>by cases r;rfl
 | _::_,_,r=>by
  cases r with
  | cons r t=>cases r;rw[uY t];rfl
def iq{D:Addr}(F:ExcK X.K D)(hc:oe.cls=.ref D):b7 (bx X x oe) (.builtin "isinstance") (kO X.K x D):=by
 intro pins s σ H xs us Q I r h;obtain⟨b,h,q⟩:=h;have p:=(I.pin (x,oe) (GS _ Gh)).1;have J:InstC s.heap x oe D:=⟨p,hc⟩;rcases h with⟨C,rfl,hk⟩|⟨T,rfl,hk⟩|⟨tp,Cs,rfl,ht,hk⟩
 ·obtain⟨u,w',rfl,r1,r2⟩:=vals2 r;cases(show u=Value.ref x from r1);cases(show w'=Value.ref C from r2);exact PySem.W.kia_one (pG F) I.kIn J hk (λz=>nomatch z) λtk=>⟨.bl b,H,I.tok tk,rfl,q⟩
 ·obtain⟨u,w',rfl,r1,r2⟩:=vals2 r;cases(show u=Value.ref x from r1);cases(show w'=Value.type T from r2);exact PySem.W.kia_one (pG F) I.kIn J hk (λz=>nomatch z) λtk=>⟨.bl b,H,I.tok tk,rfl,q⟩
 ·obtain⟨u,w',rfl,r1,r2⟩:=vals2 r;cases(show u=Value.ref x from r1);cases(show w'=Value.ref tp from r2);obtain⟨its,rv,⟨⟨cls,dd,data,sl⟩,ho,hcl,n,hdt⟩,_⟩:=I.tuple (aj.of ht);simp only at hcl hdt;subst hcl hdt;rw[uY rv]at ho;exact PySem.W.kia_tup (pG F) I.kIn J ho hk (λz=>nomatch z) λtk=>⟨.bl b,H,I.tok tk,rfl,q⟩
end
def uw(cls:Value)(E:XK)(t:TA):TS:=λ_ σ H=>t σ H λvs H1=>vs.length<=sizeLine/\E cls none H1
def FR{K:F6}{h:Heap}{mg:Str->Option Value}{x:Str}{C:Addr}{bm:List Value}{nid:String}(X:K.In h)(G:h.Ns mainGlobals mg)(e:PySem.W.nsIn K mainGlobals x=some (some (.ref C)))(q:PySem.W.excIn K C bm nid=true):OwnCls x C bm nid mg h:=by
 constructor
 ·exact PySem.W.mg_of X G e
 ·unfold PySem.W.excIn at q;cases hl:K.lookup C with
  | none=>rw[hl]at q;cases q
  | some o=>
   rw[hl]at q;obtain⟨cl,dd,data,sl⟩:=o;split at q
   ·rename_i hh;cases hh;split at q
    ·rename_i _ cd _ _ C' bm' k0 k1 k2 k3 n k5 hm hs;simp only[GO,beq_iff_eq,Bool.not_eq_true']at q;obtain⟨⟨⟨⟨⟨rfl,rfl⟩,d0⟩,t0⟩,o0⟩,i0⟩:=q;obtain⟨nm,bs,mro,ns,qn,hd,sn,sub,ab,col,del⟩:=cd
     try dsimp only at hm d0 o0 i0
     subst hm d0;obtain⟨l⟩:=sl;simp only at hs;subst hs;exact⟨_,_,_,_,_,_,_,_,_,_,_,_,_,_,_,_,_,X _ _ hl,.of_isNs (PySem.W.isNs_of_in X o0),PySem.W.nsMap_none_of_in X o0 i0,PySem.W.tail_of_in X t0⟩
    ·cases q
   ·cases q
section
variable {P:Program} {w:World} {K:F6} {mg:Str->Option Value} {base:Heap} {N:List Str} {qual:Str} {scope:Scope} {f:Addr} {cd:Value} {A:Around} {outer:List Env} {s₀:Shared} {H₀:Hp} {E:XK}
def nB{x:Str}{C:Addr}{B nid iid:String}{bm:List Value}{np cpos pos:Pos}{e:Expr}{es:List Expr}{t:TA}(O:OwnCls x C bm nid mg base)(FB:ExcBaseFacts B nid iid bm)
  (ha:PA (bF (bQ P w) P w K mg base N qual scope f cd A outer s₀ H₀ E) (e::es) t) (hg:Gl (bF (bQ P w) P w K mg base N qual scope f cd A outer s₀ H₀ E) x:=by rfl) (hd:(x == ("__debug__":Str))=false:=by decide)
  (he:starEach (e::es) (bF (bQ P w) P w K mg base N qual scope f cd A outer s₀ H₀ E).env=(false,eval e (bF (bQ P w) P w K mg base N qual scope f cd A outer s₀ H₀ E).env)::starEach es (bF (bQ P w) P w K mg base N qual scope f cd A outer s₀ H₀ E).env:=by rfl)
  (hpl:(backTo cpos (starEach es (bF (bQ P w) P w K mg base N qual scope f cd A outer s₀ H₀ E).env)).any (·.1)=false:=by rfl) :
  PS (bF (bQ P w) P w K mg base N qual scope f cd A outer s₀ H₀ E) (.Raise (some (.Call (.Name x np) (e::es) [] cpos)) none pos) (uw (.ref C) E t):=by
 intro pins s σ H D I h;obtain⟨tl,Nn,nm,q,bs,hdct,sn,sub,ab,col,dd,k0,k1,k2,k3,k5,mN,hC,hN,hni,T⟩:=O.obj;refine wpAny_Raise_call_subT (newId:=nid) (k5:=k5) (k3:=k3) (k2:=k2) (k1:=k1) (k0:=k0) (dd:=dd) (col:=col) (ab:=ab) (sub:=sub) (sn:=sn) (hdct:=hdct) (bs:=bs) (q:=q) (nm:=nm) (C:=C) (N:=Nn) (bm:=tl) FB (mN:=mN) (T.hasType FB.hasBase) (I.ok.hd rfl) (by rw[he];show(false || (backTo cpos (starEach es _)).any (·.1))=false;rw[hpl];rfl) hni (fU I hg O.bound ⟨rfl,?_⟩ hd);rw[he];have ha':=ha cpos pins s σ H _ I h;rw[he]at ha';exact Calls.evalArgs_plain (ax ha' λus s1 ⟨vs,H1,I1,r,z,q⟩=>⟨rfl,by rw[←r.length];exact z,I1.bk _ _ hC,hN.keeps I1.bk,T.keeps I1.bk,λh' e hx=>CN (tk:=s1.toks) I1 (MadeX.of hx) q⟩)
end
def yo(a:Str)(te:TE):TE:=λσ H Q=>te σ H λv H1=>∃i:Int,v=.int i/\i.natAbs.log2<1920/\(Str.empty++a++(toString i:Str)).length<=sizeLine/\∀z,Q (.str z) H1
def yK{X:Cx}{a:Str}{j:Nat}{e:Expr}{te:TE}{p1 p2 pos:Pos}(he:PE X e te)(hz:(Str.empty++a).length<=sizeLine:=by decide +kernel):PE X (.JoinedStr [.Constant (.str a) j p1,.FormattedValue e (-1) none p2] pos) (yo a te):=by intro pins s σ H Q I h;refine JoinedStr_many (joinParts_cons (ax ((aF:PE X (.Constant (.str a) j p1) (tC (.str a))) pins s σ H (λv H1=>v=V.str a/\H1=H) I ⟨rfl,rfl⟩) λv s1 ⟨x,H1,I1,r1,q1,q2⟩=>?_));subst q1 q2;obtain⟨t,rfl⟩:=r1;refine⟨hz,joinParts_cons (FormattedValue_plain (ax (he pins s1 σ H1 _ I1 h) λv s2 ⟨y,H2,I2,r2,i,e2,hl,hz2,q⟩=>?_))⟩;subst e2;obtain⟨t2,rfl⟩:=r2;refine formatField_int_small hl ⟨hz2,joinParts_nil ⟨.str _,H2,I2.tok _,⟨_,rfl⟩,q _⟩ hz2⟩
def kP{X:Cx}{pins:List (Addr×Obj)}{σ:St}{H:Hp}{s:Shared}{M:Model}{A:Around}{E:Value->Shared->Prop}{i:Nat}{x:Str}{pos:Pos}{Q:Unit->Shared->Prop}(I:Inv X pins σ H s)(hN:X.N.Nodup)(hi:X.N[i]?=some x)(hk:X.env.kindOf x=some .local)
  (h:∀s',Inv X pins (σ.set i none) H s'->Q () s'):wpAny M A (do bindName X.env x .none;unbindBehindTheSuite X.env x pos) Q E s:=by
 obtain⟨m,hn,hl⟩:=id I.loc;have hiσ:i<σ.length:=by rw[I.len];exact(Gj.mp hi).1
 have cne:=I.cne;refine wpAny_nameGoes_keeps hk hn (by rw[I.ok.kind];rfl) λh' v hn' hs=>?_;obtain⟨oL,_,_,hoL,_⟩:=id hn;have low:∀{b:Addr} {o:Obj},X.s₀.heap.get? b=some o->b≠X.env.locals:=λe=>Gv (GH (F9 e) I.ok.above);refine h _ ⟨I.ok,I.os,I.bare,⟨λb o e n hb hx=>(hs.2 b (low e)).trans (I.base.keep b o e n hb hx),λb o e n hb hx=>?_,I.base.free,λb o e hx=>?_,I.base.tups,I.base.frzs,I.base.tbls⟩,⟨_,hn',λj y v' e1 e2 e3=>?_⟩,λy c e=>?_,I.free,I.freeC,λp hp=>?_,λb ob e=>?_,by simpa using I.len⟩
 ·obtain⟨sl,e1⟩:=I.base.slot b o e n hb hx;exact⟨sl,(hs.2 b (low e)).trans e1⟩
 ·obtain⟨o',e1⟩:=I.base.there b o e hx;exact⟨o',(hs.2 b (low e)).trans e1⟩
 ·by_cases hj:j=i
  ·subst hj;rw[List.getElem?_set_self hiσ]at e2;cases e2
  ·rw[List.getElem?_set_ne (Ne.symm hj)]at e2;obtain⟨u',r',q⟩:=hl j y v' e1 e2 e3;refine⟨u',r',?_⟩;rcases q with⟨k,e⟩|⟨k,c,e,z⟩
   ·refine .inl ⟨k,?_⟩;have:y≠x:=λe=>hj (pE hN e1 (e ▸ hi));simp[this,e]
   ·exact .inr ⟨k,c,e,z.sameBut hs (cne y c e)⟩
 ·obtain⟨w',z⟩:=I.cell y c e;exact⟨w',z.sameBut hs (cne y c e)⟩
 ·obtain⟨e,n,ne,nf,d⟩:=I.pin p hp;exact⟨(hs.2 p.1 ne).trans e,n,ne,nf,d⟩
 ·refine(I.hok b ob e).stay (λc w' hc q=>(hs.2 c ?_).trans q) (λ_ q=>q) λ_ _ q=>q;rintro rfl;rcases hc with rfl|hc
  ·rw[I.free]at e;cases e
  ·rw[I.free]at hc;cases hc
section
def PB(Y:Cx)(st:Stmt)(t:Ends->(St->XK)->St->Hp->Prop):Prop:=
 ∀(pins:List (Addr×Obj)) (s:Shared) (σ:St) (H:Hp) (D:Ends) (E:St->XK),Inv Y.nox pins σ H s->t D E σ H →
  wpAny (model Y.prog Y.w) Y.A (exec st Y.env) (SP Y.nox pins D) (λe s'=>∃σ1 H1 s1,Inv Y.nox pins σ1 H1 s1/\bQ Y.prog Y.w Y.stack H1 s1 (E σ1) e s') s
def ib(Y:Cx)(st:List Stmt)(t:Ends->(St->XK)->St->Hp->Prop):Prop:=
 ∀(pins:List (Addr×Obj)) (s:Shared) (σ:St) (H:Hp) (D:Ends) (E:St->XK),Inv Y.nox pins σ H s->t D E σ H →
  wpAny (model Y.prog Y.w) Y.A (execs st Y.env) (SP Y.nox pins D) (λe s'=>∃σ1 H1 s1,Inv Y.nox pins σ1 H1 s1/\bQ Y.prog Y.w Y.stack H1 s1 (E σ1) e s') s
def yp:Ends->(St->XK)->St->Hp->Prop:=λD _ σ H=>D.nx σ H
def m6{Y:Cx}:ib Y [] yp:=λ_ _ σ H _ _ I h=>wpAny_execs_nil ⟨σ,H,I,h⟩
def r9(t u:Ends->(St->XK)->St->Hp->Prop):Ends->(St->XK)->St->Hp->Prop:=λD E σ H=>t ⟨u D E,D.rt,D.bk,D.ct⟩ E σ H
def pW{Y:Cx}{st:Stmt}{rest:List Stmt}{t u:Ends->(St->XK)->St->Hp->Prop}(h1:PB Y st t)(h2:ib Y rest u):ib Y (st::rest) (r9 t u):=by
 intro pins s σ H D E I h;refine wpAny_execs_cons (ax (h1 pins s σ H ⟨u D E,D.rt,D.bk,D.ct⟩ E I h) λf s1 q=>?_);cases f with
 | next=>
  obtain⟨σ',H',I',q⟩:=q;exact h2 pins s1 σ' H' D E I' q
 | brk=>exact q
 | cont=>exact q
 | ret v=>exact q
def tR(c:TT)(t u:Ends->(St->XK)->St->Hp->Prop):Ends->(St->XK)->St->Hp->Prop:=λD E σ H=>c σ H λb H1=>if b=true then t D E σ H1 else u D E σ H1
def DW{Y:Cx}{c:Expr}{a b:List Stmt}{tc:TT}{t u:Ends->(St->XK)->St->Hp->Prop}{pos:Pos}(hc:PT Y.nox c tc)(ha:ib Y a t)(hb:ib Y b u):PB Y (.If c a b pos) (tR tc t u):=by
 intro pins s σ H D E I h;refine wpAny_If (wpAny_mono (hc pins s σ H _ I h) (λk s1 ⟨H1,I1,q⟩=>?_) λ_ _ z=>z.elim);cases k with
 | true=>exact ha pins s1 σ H1 D E I1 (by simpa using q)
 | false=>exact hb pins s1 σ H1 D E I1 (by simpa using q)
def qY(sp:Sp)(t:TA):Ends->(St->XK)->St->Hp->Prop:=λD E σ H=>t σ H λvs H1=>sp vs H1 (λ_ H2=>D.nx σ H2) (E σ)
end
structure CalX(P:Program)(w:World)(K:F6)(mg:Str->Option Value)(base:Heap)(x:Str)(k:Nat)(ps:List Str)(sp:Sp):Prop where
 ex:∃(f:Addr) (fd:FuncData),mg x=some (.ref f)/\PySem.W.keepIn K (.ref f)=true/\Binds K fd ps []/\FnOk P w K mg base (bQ P w) k f fd ps sp
def yq{Y:Cx}{x:Str}{k j:Nat}{ps:List Str}{sp:Sp}{e:Expr}{es:List Expr}{t:TA}{p pos pos2:Pos}(C:CalX Y.prog Y.w Y.K Y.mg Y.base x j ps sp)(hr:Room k Y.A)(ha:PA Y.nox (e::es) t)(hjk:j<=k:=by decide)(hg:Gl Y x:=by rfl)(hdb:(x == ("__debug__":Str))=false:=by decide)
  (he:starEach (e::es) Y.env=(false,eval e Y.env)::starEach es Y.env:=by rfl) (hpl:(backTo pos (starEach es Y.env)).any (·.1)=false:=by rfl) (hs:swapsWith (.Call (.Name x p) (e::es) [] pos) none pos2.line Y.env=pure false:=by rfl) :
  PB Y (.Expr (.Call (.Name x p) (e::es) [] pos) pos2) (qY sp t):=by
 intro pins s σ H D E I h;obtain⟨f,fd,hm,hk,hb,F⟩:=C.ex;refine wpAny_Expr_any (wpAny_Call_Name_kw (fU (X:=Y.nox) I hg hm ?_ hdb)) I.quiet hs;refine PySem.W.callWith_K (h₀:=Y.base) I.ok.mod.kin hk (wpAny_mono (ha pos pins s σ H _ I h) (λus s1 ⟨vs,H1,I1,r,q⟩=>⟨I1.kIn,?_⟩) λ_ _ z=>z.elim) he hpl;have hl:us.length=ps.length:=by rw[←r.length];exact F.len _ _ _ _ q
 have hb':=hb s1 us I1.kIn (by rw[List.append_nil];exact hl);rw[List.append_nil]at hb';refine wpAny_call (codeAny_mono (F.run Y.A Y.stack s1 H1 ⟨us,[]⟩ us vs _ (E σ) (hr.mono hjk) I1.env0 hb' r q) λr s' hq=>?_);cases r with
 | error e=>exact⟨σ,H1,s1,I1,hq⟩
 | ok fl=>
  cases fl with
  | ret u=>
   obtain⟨v,H2,I2,_,q2⟩:=I1.after hq;exact⟨σ,H2,I2,q2⟩
  | next=>exact False.elim hq
  | brk=>exact False.elim hq
  | cont=>exact False.elim hq
def Fly.lands{P:Program}{w:World}{l:List Env}{H:Hp}{s:Shared}{x:Addr}{cls a0:Value}{H':Hp}{s':Shared}{B h5:Heap}{da:Option Addr}(F:Fly P w l H s x cls da H' s')(fl:Heap.FlyingW B l x cls a0 s'.heap)(f1:∀b o,s'.heap.get? b=some o->H' b≠none->B.get? b=some o)
  (f2:∀b o o',s.heap.get? b=some o->b∉aX l->s'.heap.get? b=some o'->B.get? b=some o') (fl5:Heap.FlyingW B l x cls a0 h5) (sm:s'.heap.UpToSlots h5):Un (aX l) [] H H' s.heap h5/\bh P w H' h5:=by
 have no:∀b:Addr,b∉([]:List Addr):=λb z=>by cases z
 have hff:=fl.2.2.1;have up:∀b∈aX l,∀o,s'.heap.get? b=some o->∃sl,h5.get? b=some { o with slots:=sl }:=λb hb o ho=>by obtain⟨_,o',ho',hd⟩:=hff.mem hb;rw[ho]at ho';cases ho';exact sm b o ho hd
 refine⟨⟨λb o q n hb _=>fl5.1 b o (f2 b o o q hb (F.un.keep b o q n hb (no b))),λb o q n hb _=>?_,F.un.free,λb o q _=>?_,F.un.tups,F.un.frzs,F.un.tbls⟩,λa o q=>?_⟩
 ·obtain⟨sl,e1⟩:=F.un.slot b o q n hb (no b);obtain⟨sl',e2⟩:=up b hb _ e1;exact⟨sl',e2⟩
 ·obtain⟨o2,e2⟩:=F.un.there b o q (no b);by_cases hb:b∈aX l
  ·obtain⟨sl,e3⟩:=up b hb _ e2;exact⟨_,e3⟩
  ·exact⟨_,fl5.1 b o2 (f2 b o o2 q hb e2)⟩
 ·refine(F.hok a o q).stay (λb u hb z=>fl5.1 b u (f1 b u z ?_)) (λ_ z=>z) λ_ _ z=>z;rcases hb with rfl|hb
  ·rw[q];intro z;cases z
  ·rw[hb];intro z;cases z
def vn(K:F6)(C:Addr)(i:Nat)(tb:Ends->(St->XK)->St->Hp->Prop)(ts:Addr->Addr->Option Addr->TS):TS:=λD σ H=>
 tb D (λσ1 cls da H1=>∃Dx,cls=.ref Dx/\PySem.W.exmOne K (.ref Dx) (.ref C)=some true/\ExcK K Dx/\∀x,H1 x=none →
  ts x Dx da ⟨λσ' H'=>D.nx (σ'.set i none) H',D.rt,λσ' H'=>D.bk (σ'.set i none) H',λσ' H'=>D.ct (σ'.set i none) H'⟩ (σ1.set i (some (.ref x))) H1) σ H
def zf{Y:Cx}{i:Nat}{c n:Str}{C:Addr}{body:List Stmt}{b0:Stmt}{suite:List Stmt}{np hpos pos:Pos}{tb:Ends->(St->XK)->St->Hp->Prop}{ts:Addr->Addr->Option Addr->TS}
  (hstk:Y.stack=Y.env::Y.outer) (hfrm:Y.env.frame=some Y.env.locals) (hN:Y.N.Nodup) (hi:Y.N[i]?=some n) (hk:Y.env.kindOf n=some .local) (hx:Y.env.scope.names.lookup n=some .local) (hm:Y.mg c=some (.ref C)) (hg:Gl Y c) (hd:(c == ("__debug__":Str))=false)
  (hb:ib Y body tb) (hs:∀(x:Addr) (oe:Obj) (Dx:Addr) (da:Option Addr),ExcK Y.K Dx->oe.cls=.ref Dx->(∃vs,oe.data=.fields vs/\vs[2]?=some .none)->(∀d,da=some d->oe.dict=some d)->b8 (bx Y x oe) (b0::suite) (ts x Dx da)) :
  PS Y.nox (.Try body [.ExceptHandler (some (.Name c np)) (some n) (b0::suite) hpos] [] [] pos) (vn Y.K C i tb ts):=by
 intro pins s σ H D I h;refine wpAny_Try_except (wpAny_mono (hb pins s σ H _ _ I h) (λf s1 q=>?_) λe s1 q=>?_)
 ·cases f with
  | next=>exact wpAny_execs_nil q
  | brk=>exact q
  | cont=>exact q
  | ret v=>exact q
 obtain⟨σ1,H1,s2,I1,x,cls,da,H',rfl,⟨Dx,rfl,hex,hK,hts⟩,F⟩:=q;obtain⟨B,a0,fl,f1,f2⟩:=F.fly;have ok:Y.nox.Ok:=I1.ok;have hfr:Y.A.frames=some (Y.env::Y.outer):=by rw[←hstk];exact ok.frames
 have fl':Heap.FlyingW B (Y.env::Y.outer) x (.ref Dx) a0 s1.heap:=by rw[←hstk];exact fl
 refine xG hfr hfrm fl' F.alone λh4 hd4 sm4 al4=>sR (s:={ s1 with heap:=h4 }) hd4 al4 λh5 fl5 sm5 al5=>?_;have sm45:s1.heap.UpToSlots h5:=sm4.trans sm5;have lnd:∀h6,Heap.FlyingW B (Y.env::Y.outer) x (.ref Dx) a0 h6->s1.heap.UpToSlots h6->∀g tk dr,g=s1.gens->Inv Y.nox pins σ1 H' ⟨h6,g,dr,tk,s1.os⟩:=λh6 fl6 sm6 g tk dr eg=>by obtain⟨un,hok⟩:=F.lands fl f1 f2 (by rw[hstk];exact fl6) sm6;exact I1.call' (s':=⟨h6,g,dr,tk,s1.os⟩) F.os un hok (by rw[eg];exact F.bare) (λb z=>by cases z)
 have I5:=lnd h5 fl5 sm45 s1.gens s1.toks s1.drawn rfl;have ty5:PySem.W.Looks (model Y.prog Y.w) h5 (typeOf (.ref x)) (.ref Dx):=by obtain⟨ob,hob,hc⟩:=fl5.there;exact InstC.type ⟨hob,hc⟩
 refine wpAny_handleBy_cons (codeAny_handlers_test ?_) (by intro q;cases q);refine fU (X:=lZ Y.nox x) (I5.marked x) hg hm ?_ hd;refine(PySem.W.exm_one (M:=model Y.prog Y.w) I5.kIn ty5 hex).here ?_;dsimp only;rw[Hf rfl];refine codeAny_handlers_suite_as (yZ (s:={ s1 with heap:=h5 }) fl5 al5 λh6 fl6 sm6 al6=>?_);have I6:=lnd h6 fl6 (sm45.trans sm6) s1.gens s1.toks s1.drawn rfl;obtain⟨oe,vs,he,hc,hdt,_⟩:=fl6.first;have nfr:x∉aX (Y.env::Y.outer):=λhm'=>by obtain⟨_,o,ho,hnf⟩:=fl6.2.2.1.mem hm';rw[he]at ho;cases ho;exact hnf vs hdt
 have I7:=I6.pinH (x:=x) he F.new (λz=>nfr (vm (env:=Y.env) Gh (by rw[hfrm,z]))) (λz=>nfr (by show x∈List.filterMap _ _;rw[List.filterMap_cons,hfrm];exact Ge _ z)) (λv z=>by rw[hdt]at z;cases z);refine iz (X:=bx Y.nox x oe) (v:=.ref x) I7 hN hi (.inl hx) rfl (λs8 I8=>?_) (.inr hx);refine wpAny_mono (hs x oe Dx da hK hc (by obtain⟨o',vs',x1,x2,x3,_⟩:=al6;rw[he]at x1;cases x1;exact⟨vs',x2,x3⟩) (by obtain⟨o',vs',x1,_,_,x4⟩:=al6;rw[he]at x1;cases x1;exact x4) pins s8 _ H' _ I8 (hts x F.new)) (λf s9 q=>?_) λ_ _ z=>z.elim;cases f with
 | next=>
  obtain⟨σ',H9,I9,q⟩:=q;exact kP (X:=Y.nox) (Inv.unpinH ok I9) hN hi hk λs10 I10=>⟨_,H9,I10,q⟩
 | brk=>
  obtain⟨σ',H9,I9,q⟩:=q;exact kP (X:=Y.nox) (Inv.unpinH ok I9) hN hi hk λs10 I10=>⟨_,H9,I10,q⟩
 | cont=>
  obtain⟨σ',H9,I9,q⟩:=q;exact kP (X:=Y.nox) (Inv.unpinH ok I9) hN hi hk λs10 I10=>⟨_,H9,I10,q⟩
 | ret u=>
  obtain⟨v,σ',H9,I9,rv,q⟩:=q;exact kP (X:=Y.nox) (Inv.unpinH ok I9) hN hi hk λs10 I10=>⟨v,_,H9,I10,rv,q⟩
def Dfn.okX{P:Program}{w:World}{K:F6}{mg:Str->Option Value}{base:Heap}{x:Str}{st:Stmt}{N ps:List Str}{k:Nat}{sp:Sp}(D:Dfn K mg x st ps)(S:FnScope N ps (aJ st))(len:∀vs H Q E,sp vs H Q E->vs.length=ps.length)
  (hbody:∀(f:Addr) (cdv:Value) (A:Around) (outer:List Env) (s:Shared) (H:Hp) (vs:List V) (Q:VK) (E:XK),Room k (A.deeper (envOfC x (aJ st) s.heap.objs.size f cdv))->sp vs H Q E →
   ∃t,b8 (bF (bQ P w) P w K mg base N x (aJ st) f cdv A outer s H E) (dQ st) t/\t { nx:=λ_ H'=>Q .non H',rt:=Q } (start N vs) H):CalX P w K mg base x (k+1) ps sp:=by
 obtain⟨f,fd,hm,F,hb⟩:=D.ex;obtain⟨oc,od,kV,doc,pm,an,cdv,ct,osl,rfl,lk,hcd⟩:=F.ex;exact⟨f,_,hm,F.kp,hb,oZ lk hcd S len λA outer s H vs Q E hr h=>hbody f cdv A outer s H vs Q E hr h⟩
section
variable {P:Program} {w:World} {K:F6} {mg:Str->Option Value} {base:Heap} {N:List Str} {qual:Str} {scope:Scope} {f:Addr} {cd:Value} {A:Around} {outer:List Env} {s₀:Shared} {H₀:Hp} {E:XK}
def fK{x:Str}{k j:Nat}{ps:List Str}{sp:Sp}{e:Expr}{es:List Expr}{t:TA}{p pos:Pos}(C:CalX P w K mg base x j ps sp)(hr:Room k (bF (bQ P w) P w K mg base N qual scope f cd A outer s₀ H₀ E).A)
  (ha:PA (bF (bQ P w) P w K mg base N qual scope f cd A outer s₀ H₀ E) (e::es) t) (hjk:j<=k:=by decide) (hg:Gl (bF (bQ P w) P w K mg base N qual scope f cd A outer s₀ H₀ E) x:=by rfl) (hdb:(x == ("__debug__":Str))=false:=by decide)
  (he:starEach (e::es) (bF (bQ P w) P w K mg base N qual scope f cd A outer s₀ H₀ E).env=(false,eval e (bF (bQ P w) P w K mg base N qual scope f cd A outer s₀ H₀ E).env)::starEach es (bF (bQ P w) P w K mg base N qual scope f cd A outer s₀ H₀ E).env:=by rfl)
  (hpl:(backTo pos (starEach es (bF (bQ P w) P w K mg base N qual scope f cd A outer s₀ H₀ E).env)).any (·.1)=false:=by rfl) :
  PE (bF (bQ P w) P w K mg base N qual scope f cd A outer s₀ H₀ E) (.Call (.Name x p) (e::es) [] pos) (ja sp [] E t):=by
 obtain⟨f',fd,hm,hk,hb,F⟩:=C.ex;exact xx F (hr.mono hjk) hg hm hk hb .nil (Dw λ_ _ _ h=>h) ha hdb he hpl
end
abbrev pI:List Value:=[.type "ValueError",.type "Exception",.type "BaseException",.type "object"]
def cA(K:F6)(x:Str):Addr:=match PySem.W.nsIn K mainGlobals x with
 | some (some (.ref C))=>C
 | _=>0
def om(K:F6)(x:Str):Bool:=
 PySem.W.excIn K (cA K x) pI "ValueError.__new__" && (match K.lookup (cA K x)with|some ⟨_,_,.cls _,_⟩=>true|_=>false) && PySem.W.findIn K (.ref (cA K x)) "__getattribute__" == some (some (.builtin "BaseException.__getattribute__")) &&
 PySem.W.findIn K (.ref (cA K x)) "__getattr__" == some none && PySem.W.subIn K (.ref (cA K x)) (.type "BaseException") == some true && PySem.W.findIn K (.ref (cA K x)) "__class__" == some (some (.builtin "object.__class__")) &&
 PySem.W.specialIn K (.builtin "object.__class__") "__get__" == some (some (.builtin "getset_descriptor.__get__")) && PySem.W.takesIn K (.builtin "object.__class__") == some true && PySem.W.mroIn K (cA K x) (.type "object") == some true
structure Xf(K:F6)(mg:Str->Option Value)(base:Heap)(all raised:List Str):Prop where
 cl:∀x∈all,mg x=some (.ref (cA K x))
 own:∀x∈raised,OwnCls x (cA K x) pI "ValueError.__new__" mg base
 exk:∀x∈raised,ExcK K (cA K x)
 up:∀x∈raised,PySem.W.exmOne K (.ref (cA K x)) (.ref (cA K "StairError"))=some true
 kv:∀x∈raised,PySem.W.kitOne K (.ref (cA K x)) (.type "ValueError")=some true
 kc:∀x∈raised,∀y∈all,PySem.W.kitOne K (.ref (cA K x)) (.ref (cA K y))=some (x == y || y == ("StairError":Str))
def o4(K:F6)(all raised:List Str):Bool:=
 all.all (λx=>PySem.W.nsIn K mainGlobals x == some (some (.ref (cA K x)))) && raised.all (λx=>all.contains x && om K x && PySem.W.exmOne K (.ref (cA K x)) (.ref (cA K "StairError")) == some true && PySem.W.kitOne K (.ref (cA K x)) (.type "ValueError") == some true &&
  all.all λy=>PySem.W.kitOne K (.ref (cA K x)) (.ref (cA K y)) == some (x == y || y == ("StairError":Str)))
def Ef{K:F6}{mg:Str->Option Value}{base:Heap}{all raised:List Str}(X:K.In base)(G:base.Ns mainGlobals mg)(h:o4 K all raised=true):Xf K mg base all raised:=by
 unfold o4 at h;rw[GO,GK,GK]at h;obtain⟨h1,h2⟩:=h;have n1:∀x∈all,PySem.W.nsIn K mainGlobals x=some (some (.ref (cA K x))):=λx hx=>eq_of_beq (h1 x hx);have h3:∀x∈raised,((((x∈all/\om K x=true)/\PySem.W.exmOne K (.ref (cA K x)) (.ref (cA K "StairError"))=some true)/\PySem.W.kitOne K (.ref (cA K x)) (.type "ValueError")=some true)/\∀y∈all,PySem.W.kitOne K (.ref (cA K x)) (.ref (cA K y))=some (x == y || y == ("StairError":Str))):=λx hx=>by have:=h2 x hx;simp only[GO,beq_iff_eq,List.contains_iff_mem,GK]at this;exact this
 have e1:∀x∈raised,PySem.W.excIn K (cA K x) pI "ValueError.__new__" = true/\ExcK K (cA K x):=λx hx=>by
  have:=(h3 x hx).1.1.1.2;unfold om at this;simp only[GO,beq_iff_eq]at this;obtain⟨⟨⟨⟨⟨⟨⟨⟨a1,a2⟩,a3⟩,a4⟩,a5⟩,a6⟩,a7⟩,a8⟩,a9⟩:=this;refine⟨a1,?_,a3,a4,a5,a6,a7,a8,a9⟩;cases hl:K.lookup (cA K x)with
  | none=>rw[hl]at a2;cases a2
  | some o=>
   rw[hl]at a2;obtain⟨c,d,data,sl⟩:=o;cases data<;>first|exact ⟨_,_,_,_,rfl⟩|cases a2
 exact⟨λx hx=>PySem.W.mg_of X G (n1 x hx),λx hx=>FR X G (n1 x (h3 x hx).1.1.1.1) (e1 x hx).1,λx hx=>(e1 x hx).2,λx hx=>(h3 x hx).1.1.2,λx hx=>(h3 x hx).1.2,λx hx=>(h3 x hx).2⟩
def gm{K:F6}{t:Value}:∀{Cs:List Addr},(∀C∈Cs,PySem.W.kitOne K t (.ref C)=some false)->PySem.W.kitAny K t (Cs.map Value.ref)=some false
 | [],_=>rfl
 | C::Cs,h=>by show(match PySem.W.kitOne K t (.ref C)with|some true=>some true|some false=>PySem.W.kitAny K t (Cs.map Value.ref)|none=>none)=some false;rw[h C Gh];exact gm λD hD=>h D (Ge _ hD)
section
variable {K:F6} {D:Ends} {σ:St} {H:Hp} {Q:VK} {E:XK} {C x:Addr}
def rd_raise{t:TA}{cls:Value}(h:t σ H λvs H1=>vs.length<=sizeLine/\E cls none H1):uw cls E t D σ H:=h
def rd_fs{a:Str}{te:TE}(h:te σ H λv H1=>∃i:Int,v=.int i/\i.natAbs.log2<1920/\(Str.empty++a++(toString i:Str)).length<=sizeLine/\∀z,Q (.str z) H1):yo a te σ H Q:=h
def fG{C':Addr}{b:Bool}(hk:PySem.W.kitOne K (.ref C) (.ref C')=some b)(h:Q (.bl b) H):kO K x C [.ref x,.ref C'] H Q:=⟨b,.inl ⟨C',rfl,hk⟩,h⟩
def pw{T:String}{b:Bool}(hk:PySem.W.kitOne K (.ref C) (.type T)=some b)(h:Q (.bl b) H):kO K x C [.ref x,.ty T] H Q:=⟨b,.inr (.inl ⟨T,rfl,hk⟩),h⟩
def il{p:Addr}{Cs:List Addr}{b:Bool}(ht:H p=some (.tup (Cs.map V.ref)))(hk:PySem.W.kitAny K (.ref C) (Cs.map Value.ref)=some b)(h:Q (.bl b) H):kO K x C [.ref x,.ref p] H Q:=⟨b,.inr (.inr ⟨p,Cs,rfl,ht,hk⟩),h⟩
end
def CalX.cal{P:Program}{w:World}{K:F6}{mg:Str->Option Value}{base:Heap}{x:Str}{k:Nat}{ps:List Str}{sp:Sp}(C:CalX P w K mg base x k ps sp):Cal P w K mg base x k ps (λvs H Q _=>sp vs H Q E0):=by
 obtain⟨f,fd,hm,hk,hb,F⟩:=C.ex;refine⟨f,fd,hm,hk,hb,λvs H Q E h=>F.len vs H Q E0 h,λA outer s H args us vs Q E hr he hbt hv hs=>codeAny_mono (F.run A outer s H args us vs Q E0 hr he hbt hv hs) λr s' hq=>?_⟩;cases r with
 | error e=>
  obtain⟨_,_,_,_,_,hE,_⟩:=hq;exact hE.elim
 | ok fl=>cases fl<;>exact hq
section
variable {K:F6} {D:Ends} {σ:St} {H:Hp} {E:St->XK} {C:Addr} {i:Nat} {t u tb:Ends->(St->XK)->St->Hp->Prop} {ts:Addr->Addr->Option Addr->TS} {c:TT}
def rd_bseq(h:t ⟨u D E,D.rt,D.bk,D.ct⟩ E σ H):r9 t u D E σ H:=h
def rd_bnext(h:D.nx σ H):yp D E σ H:=h
def rd_bif(h:c σ H λb H1=>if b=true then t D E σ H1 else u D E σ H1):tR c t u D E σ H:=h
def rd_bcall{sp:Sp}{a:TA}(h:a σ H λvs H1=>sp vs H1 (λ_ H2=>D.nx σ H2) (E σ)):qY sp a D E σ H:=h
end
end L2
namespace Tb
open PySem
def nx(m i:Nat):Nat:=(i*5+1) % (m+1)
def it(m:Nat):Nat->Nat->Nat
 | 0,i=>i
 | n+1,i=>it m n (nx m i)
def iR(m:Nat):∀a b i,it m (a+b) i=it m b (it m a i)
 | 0,b,i=>by rw[Nat.zero_add];rfl
 | a+1,b,i=>by rw[Nat.succ_add];exact iR m a b (nx m i)
def zU(m n i:Nat):it m (n+1) i=nx m (it m n i):=by rw[iR m n 1 i];rfl
def qg(m:Nat):Nat->Nat->List Nat
 | 0,_=>[]
 | n+1,i=>i::qg m n (nx m i)
def qT{m:Nat}:∀{n i j:Nat},j∈qg m n i->∃k,k<n/\it m k i=j
 | 0,_,_,h=>by cases h
 | n+1,i,j,h=>by
  rcases Gq.mp h with rfl|h
  ·exact⟨0,Nat.succ_pos _,rfl⟩
  ·obtain⟨k,hk,e⟩:=qT h;exact⟨k+1,Nat.succ_lt_succ hk,e⟩
def good(m:Nat):Bool:=(Hb (m+1)).all (λj=>(qg m (m+1) 0).contains j) && it m (m+1) 0 == 0
def Ds:good 7=true:=by decide +kernel
def zW:good 31=true:=by decide +kernel
def Df:good 127=true:=by decide +kernel
def zx:good 511=true:=by decide +kernel
def Full(N:Nat):Prop:=(∀j,j<N->∃k,k<N/\it (N-1) k 0=j)/\it (N-1) N 0=0
def kC{m:Nat}(h:good m=true):Full (m+1):=by unfold Tb.good at h;rw[GO,GK]at h;refine⟨λj hj=>?_,eq_of_beq h.2⟩;have h1:=h.1 j (List.mem_range.mpr hj);rw[List.contains_iff_mem]at h1;exact qT h1
def co:Nat->Nat
 | 0=>0
 | n+1=>5*co n+1
def vx(m:Nat):∀n i,it m n i % (m+1)=(5 ^ n*i+co n) % (m+1)
 | 0,i=>by simp[it,co]
 | n+1,i=>by
  rw[zU];unfold nx;rw[Nat.mod_mod,Nat.add_mod,Nat.mul_mod,vx m n i,←Nat.mul_mod,←Nat.add_mod];congr 1;show(5 ^ n*i+co n)*5+1=5 ^ (n+1)*i+(5*co n+1);rw[Nat.pow_succ,Nat.add_mul];have:5 ^ n*i*5=5 ^ n*5*i:=by rw[Nat.mul_assoc,Nat.mul_comm i 5,Nat.mul_assoc]
  omega
def oQ(m:Nat):∀n i,i<=m->it m n i<=m
 | 0,i,h=>h
 | n+1,i,h=>by refine oQ m n _ ?_;unfold nx;have:=Nat.mod_lt (i*5+1) (show 0<m+1 by omega);omega
def sX{m n i:Nat}(h:i<=m):it m n i=(5 ^ n*i+co n) % (m+1):=by rw[←vx,Nat.mod_eq_of_lt (Nat.lt_succ_of_le (oQ m n i h))]
def zV(n:Nat):5 ^ n % 2=1:=by
 induction n with
 | zero=>rfl
 | succ n ih=>rw[Nat.pow_succ,Nat.mul_mod,ih]
def wF:∀n,4*co n+1=5 ^ n
 | 0=>rfl
 | n+1=>by have:=wF n;show 4*(5*co n+1)+1=5 ^ (n+1);rw[Nat.pow_succ];omega
def AY{a N:Nat}(h:a % 2=1)(r:Nat):(a*N+r) % (2*N)=(N+r) % (2*N):=by
 obtain⟨c,rfl⟩:∃c,a=2*c+1:=⟨a / 2,by omega⟩;have:(2*c+1)*N+r=(N+r)+2*N*c:=by rw[Nat.add_mul,Nat.one_mul,Nat.mul_assoc,Nat.mul_comm c N,←Nat.mul_assoc];omega
 rw[this,Nat.add_mul_mod_self_left]
def two{x N:Nat}(h:x<2*N)(hN:0<N):x=x % N\/x=N+x % N:=by
 rcases GW x N with a|a
 ·exact .inl (Nat.mod_eq_of_lt a).symm
 ·refine .inr ?_;rw[Nat.mod_eq_sub_mod a,Nat.mod_eq_of_lt (by omega)];omega
def Full.double{N:Nat}(hN:0<N)(h:Full N)(hc:co N % (2*N)=N):Full (2*N):=by
 obtain⟨h1,h2⟩:=h;have hm:2*N-1+1=2*N:=by omega
 have hm1:N-1+1=N:=by omega
 have val:∀n i,i<=2*N-1->it (2*N-1) n i=(5 ^ n*i+co n) % (2*N):=λn i hi=>by rw[sX hi,hm]
 have eN:it (2*N-1) N 0=N:=by rw[val N 0 (by omega),Nat.mul_zero,Nat.zero_add,hc]
 have up:∀k,it (2*N-1) (N+k) 0=(N+it (2*N-1) k 0) % (2*N):=λk=>by rw[iR,eN,val k N (by omega),val k 0 (by omega),Nat.mul_zero,Nat.zero_add,AY (zV k)];rw[Nat.add_mod_mod]
 refine⟨λj hj=>?_,?_⟩
 ·obtain⟨k,hk,ek⟩:=h1 (j % N) (Nat.mod_lt _ hN);have e1:it (2*N-1) k 0 % N=j % N:=by rw[val k 0 (by omega),Nat.mul_zero,Nat.zero_add,Nat.mod_mul_left_mod,←ek,sX (Nat.zero_le _),hm1,Nat.mul_zero,Nat.zero_add]
  have e2:it (2*N-1) k 0<2*N:=by have:=oQ (2*N-1) k 0 (Nat.zero_le _);omega
  by_cases e:it (2*N-1) k 0=j
  ·exact⟨k,by omega,e⟩
  ·refine⟨N+k,by omega,?_⟩;rw[up k];have t1:=two hj hN;have t2:=two e2 hN;rw[e1]at t2;generalize it (2*N-1) k 0=x at *;generalize j % N=r at *;rcases t1 with a|a<;>rcases t2 with b|b
   ·omega
   ·have:N+x=j+2*N:=by omega
    rw[this,Nat.add_mod_right,Nat.mod_eq_of_lt hj]
   ·have:N+x=j:=by omega
    rw[this,Nat.mod_eq_of_lt hj]
   ·omega
 ·rw[show 2*N=N+N by omega,show N+N-1=2*N-1 by omega,up N,eN,show N+N=2*N by omega,Nat.mod_self]
def lr{N c:Nat}(h:4*c+1=5 ^ N):co N=c:=by have:=wF N;omega
def AM:Full 8:=kC Ds
def AU:Full 32:=kC zW
def BU:Full 128:=kC Df
def sO:Full 512:=kC zx
def Bv:co 512 % (2*512)=512:=by rw[lr (c:=(5 ^ 512-1) / 4) (by decide +kernel)];decide +kernel
def AG:co 1024 % (2*1024)=1024:=by rw[lr (c:=(5 ^ 1024-1) / 4) (by decide +kernel)];decide +kernel
def yO:co 2048 % (2*2048)=2048:=by rw[lr (c:=(5 ^ 2048-1) / 4) (by decide +kernel)];decide +kernel
def yN:co 4096 % (2*4096)=4096:=by rw[lr (c:=(5 ^ 4096-1) / 4) (by decide +kernel)];decide +kernel
def rO:Full 2048:=Full.double (N:=1024) (by decide) (sO.double (by decide) Bv) AG
def DK:Full 8192:=Full.double (N:=4096) (by decide) (rO.double (by decide) yO) yN
def Mask(m:Nat):Prop:=m=7\/m=31\/m=127\/m=511\/m=2047\/m=8191
def Mask.full{m:Nat}(h:Mask m):Full (m+1):=by
 rcases h with rfl|rfl|rfl|rfl|rfl|rfl
 ·exact AM
 ·exact AU
 ·exact BU
 ·exact sO
 ·exact rO
 ·exact DK
def uv{m:Nat}(h:Mask m){j:Nat}(hj:j<=m):∃k,k<=m/\it m k 0=j:=by obtain⟨k,hk,e⟩:=h.full.1 j (by omega);exact⟨k,by omega,e⟩
def round0{m:Nat}(h:Mask m):it m (m+1) 0=0:=h.full.2
def reach{m:Nat}(h:Mask m){i j:Nat}(hi:i<=m)(hj:j<=m):∃k,k<=m/\it m k i=j:=by
 obtain⟨a,ha,ea⟩:=uv h hi;obtain⟨b,hb,eb⟩:=uv h hj;rcases GW b a with hlt|hge
 ·refine⟨m+1-a+b,by omega,?_⟩;rw[←ea,←iR,show a+(m+1-a+b)=(m+1)+b by omega,iR,round0 h];exact eb
 ·refine⟨b-a,by omega,?_⟩;rw[←ea,←iR,show a+(b-a)=b by omega];exact eb
def lp(m:Nat):Nat->Nat×Nat->Nat×Nat
 | 0,s=>s
 | n+1,s=>lp m n (SetTable.leap m s.1 s.2)
def qe(m:Nat):∀n s,lp m (n+1) s=SetTable.leap m (lp m n s).1 (lp m n s).2
 | 0,s=>rfl
 | n+1,s=>by show lp m (n+1) (SetTable.leap m s.1 s.2)=_;rw[qe m n];rfl
def yb(m:Nat):∀n s,(lp m n s).2=s.2 / 32 ^ n
 | 0,s=>by simp[lp]
 | n+1,s=>by rw[qe m n s];show(lp m n s).2 / 32=_;rw[yb m n s,Nat.div_div_eq_div_mul,Nat.pow_succ]
def ur(m:Nat):∀n s,s.1<=m->(lp m n s).1<=m
 | 0,s,h=>h
 | n+1,s,h=>by rw[qe m n s];show(_ % (m+1))<=m;have:=Nat.mod_lt ((lp m n s).1*5+1+(lp m n s).2 / 32) (show 0<m+1 by omega);omega
def wH(m:Nat):∀n i,(lp m n (i,0)).1=it m n i
 | 0,i=>rfl
 | n+1,i=>by show(lp m n (SetTable.leap m i 0)).1=it m n (nx m i);have:SetTable.leap m i 0=(nx m i,0):=rfl;rw[this];exact wH m n _
def ua(m:Nat):∀a b s,lp m (a+b) s=lp m b (lp m a s)
 | 0,b,s=>by rw[Nat.zero_add];rfl
 | a+1,b,s=>by rw[Nat.succ_add];exact ua m a b _
def we{m:Nat}(h:Mask m){i p j:Nat}(hi:i<=m)(hp:p<2 ^ 64)(hj:j<=m):∃n,n<=m+13/\(lp m n (i,p)).1=j:=by
 have hz:(lp m 13 (i,p)).2=0:=by rw[yb];exact Nat.div_eq_of_lt (GH hp (by decide))
 obtain⟨k,hk,e⟩:=reach h (ur m 13 (i,p) hi) hj;refine⟨13+k,by omega,?_⟩;rw[ua];have:lp m 13 (i,p)=((lp m 13 (i,p)).1,0):=by rw[←hz]
 rw[this,wH];exact e
def ve(h:Int):SetTable.bits h<2 ^ 64:=by unfold SetTable.bits;have h1:=Int.emod_lt_of_pos h (show(0:Int)<2 ^ 64 by decide);have h2:=Int.emod_nonneg h (show(2:Int) ^ 64≠0 by decide);omega
def aK(t:SetTable):Nat->SetTable.Probe->SetTable.Probe
 | 0,p=>p
 | n+1,p=>aK t n (t.advance p)
def gQ(t:SetTable):∀a b p,aK t (a+b) p=aK t b (aK t a p)
 | 0,b,p=>by rw[Nat.zero_add];rfl
 | a+1,b,p=>by rw[Nat.succ_add];exact gQ t a b _
def at_(t:SetTable)(s:Nat×Nat):SetTable.Probe:={ j:=s.1,more:=SetTable.runEnd t.mask s.1-s.1,i:=s.1,perturb:=s.2,dummy:=none }
def qo(t:SetTable):∀(r:Nat) (p:SetTable.Probe),p.more=r->aK t (r+1) p={ p with j:=(SetTable.leap t.mask p.i p.perturb).1,more:=SetTable.runEnd t.mask (SetTable.leap t.mask p.i p.perturb).1-(SetTable.leap t.mask p.i p.perturb).1,i:=(SetTable.leap t.mask p.i p.perturb).1,perturb:=(SetTable.leap t.mask p.i p.perturb).2 }
 | 0,p,h=>by show t.advance p=_;unfold SetTable.advance;rw[He (by omega)]
 | r+1,p,h=>by
  show aK t (r+1) (t.advance p)=_;have e:t.advance p={ p with j:=p.j+1,more:=p.more-1 }:=by unfold SetTable.advance;rw[Hf (by omega)]
  rw[e,qo t r _ (by show p.more-1=r;omega)]
def BF(t:SetTable)(s:Nat×Nat):∃k,k<=10/\aK t k (at_ t s)=at_ t (SetTable.leap t.mask s.1 s.2):=by
 refine⟨SetTable.runEnd t.mask s.1-s.1+1,?_,?_⟩
 ·unfold SetTable.runEnd;split<;>omega
 ·exact(qo t (SetTable.runEnd t.mask s.1-s.1) (at_ t s) rfl).trans rfl
def xT(t:SetTable):∀(n:Nat) (s:Nat×Nat),∃k,k<=10*n/\aK t k (at_ t s)=at_ t (lp t.mask n s)
 | 0,s=>⟨0,Gw _,rfl⟩
 | n+1,s=>by obtain⟨k1,h1,e1⟩:=BF t s;obtain⟨k2,h2,e2⟩:=xT t n (SetTable.leap t.mask s.1 s.2);refine⟨k1+k2,by omega,?_⟩;rw[gQ,e1,e2];rfl
def Dl(t:SetTable)(h:Int):t.probeStart h=at_ t (SetTable.bits h % (t.mask+1),SetTable.bits h):=rfl
def zc{t:SetTable}(hm:Mask t.mask){j:Nat}(hj:j<=t.mask)(h:Int):∃K,K<10*SetTable.turns t.mask/\(aK t K (t.probeStart h)).j=j:=by
 have h1:SetTable.bits h % (t.mask+1)<=t.mask:=by have:=Nat.mod_lt (SetTable.bits h) (show 0<t.mask+1 by omega);omega
 obtain⟨n,hn,e⟩:=we hm h1 (ve h) hj;obtain⟨K,hK,eK⟩:=xT t n (SetTable.bits h % (t.mask+1),SetTable.bits h);refine⟨K,by unfold SetTable.turns;omega,?_⟩;rw[Dl,eK];exact e
def lG{t:SetTable}{j i:Nat}(h:t.slot j=.live i):t.place[i]?=some j:=by
 unfold SetTable.slot at h;dsimp only at h;split at h
 ·rename_i hq;cases h;exact eq_of_beq hq
 ·split at h<;>cases h
def vQ(j:Nat):SetTable.has #[] j=false:=rfl
def o7{t:SetTable}(hd:t.dummies = #[])(j:Nat):t.slot j=.empty\/∃i,t.slot j=.live i:=by
 unfold SetTable.slot;dsimp only;split
 ·exact .inr ⟨_,rfl⟩
 ·rw[hd,vQ];exact .inl rfl
def uJ:∀(n:Nat) (l:List Nat),(∀j,j<n->j∈l)->n<=l.length
 | 0,l,_=>Nat.zero_le _
 | n+1,l,h=>by have hn:=h n (Nat.lt_succ_self n);have:=uJ n (l.erase n) λj hj=>(List.mem_erase_of_ne (by omega)).mpr (h j (by omega));rw[List.length_erase_of_mem hn]at this;have:0<l.length:=List.length_pos_of_mem hn;omega
def AJ{t:SetTable}(hd:t.dummies = #[])(h:t.place.size<=t.mask):∃j,j<=t.mask/\t.slot j=.empty:=by
 rcases Classical.em (∃j,j<=t.mask/\t.slot j=.empty)with h1|h1
 ·exact h1
 ·exfalso;have:=uJ (t.mask+1) t.place.toList λj hj=>by
   rcases o7 hd j with h2|⟨i,h2⟩
   ·exact absurd ⟨j,by omega,h2⟩ h1
   ·have:=lG h2;rw[←Array.getElem?_toList]at this;exact Gk this
  rw[Gf]at this;omega
def jk(t:SetTable):∀n p,(aK t n p).dummy=p.dummy
 | 0,p=>rfl
 | n+1,p=>by show(aK t n (t.advance p)).dummy=_;rw[jk t n];unfold SetTable.advance;split<;>rfl
def uQ{α:Type}:∀{l:List (Option α)} {j:Nat} {k:α},l[j]?=some none->((l.set j (some k)).filterMap id).Perm (k::l.filterMap id)
 | [],j,k,h=>by cases h
 | x::l,0,k,h=>by
  have:x=none:=by simpa using h
  subst this;exact .refl _
 | x::l,j+1,k,h=>by
  have h':l[j]?=some none:=by simpa using h
  have ih:=uQ (k:=k) h';cases x with
  | none=>exact ih
  | some y=>exact(List.Perm.cons y ih).trans (.swap _ _ _)
def AB{α:Type}(l:List (Option α)):(l.filterMap id).length+(l.filter (·.isNone)).length=l.length:=by
 induction l with
 | nil=>rfl
 | cons x l ih=>
  cases x<;>simp at ih ⊢<;>omega
def B9{m:Nat}(hm:Mask m)(owner:Array (Option Nat))(hz:owner.size=m+1){j:Nat}(hj:owner[j]?=some none):∀(fuel n i p:Nat),i<=m->n<fuel->(lp m n (i,p)).1=j →
  ∃j',SetTable.layClean.free m owner fuel i p=some j'/\owner[j']?=some none:=by
 intro fuel;induction fuel with
 | zero=>intro n i p _ h;omega
 | succ fuel ih=>
  intro n i p hi hn he;unfold SetTable.layClean.free;split
  ·rename_i k hk;have h1:=List.find?_some hk;have h2:=List.mem_range.mp (List.mem_of_find?_eq_some hk);refine⟨i+k,rfl,?_⟩;have hb:i+k<owner.size:=by rw[hz];unfold SetTable.runEnd at h2;split at h2<;>omega
   rw[Array.getElem?_eq_getElem hb];have:owner.getD (i+k) (some 0)=owner[i+k]:=by rw[Array.getD_eq_getD_getElem?,Array.getElem?_eq_getElem hb];rfl
   rw[this]at h1;congr 1;cases hq:owner[i+k]with
   | none=>rfl
   | some y=>rw[hq]at h1;cases h1
  ·rename_i hk;cases n with
   | zero=>
    exfalso;have h0:i=j:=he;have:=List.find?_eq_none.mp hk 0 (List.mem_range.mpr (by unfold SetTable.runEnd;split<;>omega));rw[Nat.add_zero,h0,Array.getD_eq_getD_getElem?,hj]at this;simp at this
   | succ n=>
    have:=ur m 1 (i,p) hi;exact ih n (SetTable.leap m i p).1 (SetTable.leap m i p).2 this (by omega) he
def ko(mask:Nat)(acc:Option (Array (Option Nat)×Nat))(h:Int):Option (Array (Option Nat)×Nat):=do
 let (owner,k) ←acc;let j ←SetTable.layClean.free mask owner (SetTable.turns mask) (SetTable.bits h % (mask+1)) (SetTable.bits h)
 pure (owner.setIfInBounds j (some k),k+1)
def BD{l:List (Option Nat)}(h:(l.filterMap id).length<l.length):∃j:Nat,l[j]?=some none:=by
 have:=AB l;have h1:0<(l.filter (·.isNone)).length:=by omega
 obtain⟨x,hx⟩:=List.exists_mem_of_length_pos h1;obtain⟨hx1,hx2⟩:=List.mem_filter.mp hx;have:x=none:=by cases x<;>simp_all
 subst this;obtain⟨j,hj⟩:=GX hx1;exact⟨j,hj⟩
def mW{α:Type}(xs:Array α)(p:Nat)(x:α):(SetTable.insertAt xs p x).size=xs.size+1:=by unfold SetTable.insertAt;simp;omega
def FU{α:Type}{xs:Array α}{p:Nat}{x e:α}(h:e∈(SetTable.insertAt xs p x).toList):e=x\/e∈xs.toList:=by
 unfold SetTable.insertAt at h;simp only[Array.toList_append,Array.toList_push,Array.toList_extract,Gz,Gm]at h;rcases h with(h|h)|h
 ·exact .inr (List.mem_of_mem_take (by simpa using h))
 ·exact .inl h
 ·exact .inr (List.mem_of_mem_drop (List.mem_of_mem_take h))
def Cf:SetTable.sizeAbove 20-1=31:=by decide +kernel
def Du:SetTable.sizeAbove 76-1=127:=by decide +kernel
def Be:SetTable.sizeAbove 308-1=511:=by decide +kernel
def By:SetTable.sizeAbove 1228-1=2047:=by decide +kernel
def DD:SetTable.sizeAbove 4916-1=8191:=by decide +kernel
end Tb
namespace Tb
open PySem
def least{P:Nat->Prop}:∀n,P n->∃m,m<=n/\P m/\∀k,k<m->¬P k:=by
 intro n;induction n using Nat.strongRecOn with
 | ind n ih=>
  intro h;rcases Classical.em (∃k,k<n/\P k)with⟨k,hk,pk⟩|hn
  ·obtain⟨m,h1,h2,h3⟩:=ih k hk pk;exact⟨m,by omega,h2,h3⟩
  ·exact⟨n,Gw _,h,λk hk pk=>hn ⟨k,hk,pk⟩⟩
def oW{xs:Array Nat}(h:xs.toList.Pairwise (· < ·)){a b x y:Nat}(ha:xs[a]?=some x)(hb:xs[b]?=some y)(hab:a<b):x<y:=by obtain⟨h1,e1⟩:=Array.getElem?_eq_some_iff.mp ha;obtain⟨h2,e2⟩:=Array.getElem?_eq_some_iff.mp hb;have:=List.pairwise_iff_getElem.mp h a b (by simpa using h1) (by simpa using h2) hab;simp only[Array.getElem_toList]at this;rw[e1,e2]at this;exact this
def qx(xs:Array Nat)(j:Nat)(hs:xs.toList.Pairwise (· < ·)):∀fuel lo hi,hi-lo<=fuel->lo<=hi->hi<=xs.size->(∀k x,k<lo->xs[k]?=some x->x<j)->(∀k x,hi<=k->xs[k]?=some x->j<=x) →
  SetTable.below.go xs j fuel lo hi<=xs.size/\(∀k x,k<SetTable.below.go xs j fuel lo hi->xs[k]?=some x->x<j)/\(∀k x,SetTable.below.go xs j fuel lo hi<=k->xs[k]?=some x->j<=x)
 | 0,lo,hi,h1,h2,h3,h4,h5=>by
  have:lo=hi:=by omega
  subst this;exact⟨h3,h4,h5⟩
 | fuel+1,lo,hi,h1,h2,h3,h4,h5=>by
  unfold SetTable.below.go;by_cases hlt:lo<hi
  ·rw[Hf hlt];dsimp only;have hm:(lo+hi) / 2<xs.size:=by omega
   have em:xs[(lo+hi) / 2]?=some xs[(lo+hi) / 2]:=getElem?_pos xs _ hm;have eg:xs.getD ((lo+hi) / 2) j=xs[(lo+hi) / 2]:=by rw[Array.getD_eq_getD_getElem?,em];rfl
   rw[eg];by_cases hc:xs[(lo+hi) / 2]<j
   ·rw[Hf hc];refine qx xs j hs fuel _ _ (by omega) (by omega) h3 (λk x hk ek=>?_) h5;rcases GW k ((lo+hi) / 2)with a|a
    ·have:=oW hs ek em a;omega
    ·have:k=(lo+hi) / 2:=by omega
     subst this;rw[em]at ek;cases ek;exact hc
   ·rw[He hc];refine qx xs j hs fuel _ _ (by omega) (by omega) (by omega) h4 (λk x hk ek=>?_);rcases GW ((lo+hi) / 2) k with a|a
    ·have:=oW hs em ek a;omega
    ·have:k=(lo+hi) / 2:=by omega
     subst this;rw[em]at ek;cases ek;omega
  ·rw[He hlt];have:lo=hi:=by omega
   subst this;exact⟨h3,h4,h5⟩
def oN{xs:Array Nat}(hs:xs.toList.Pairwise (· < ·))(j:Nat):SetTable.below xs j<=xs.size/\(∀k x,k<SetTable.below xs j->xs[k]?=some x->x<j)/\(∀k x,SetTable.below xs j<=k->xs[k]?=some x->j<=x):=
 qx xs j hs xs.size 0 xs.size (by omega) (Nat.zero_le _) (Gw _) (λk x hk=>by omega) (λk x hk e=>by have:=(Array.getElem?_eq_some_iff.mp e).1;omega)
def slot_mem{t:SetTable}(hs:t.place.toList.Pairwise (· < ·)){j i:Nat}(h:t.place[i]?=some j):t.slot j=.live i:=by
 obtain⟨h1,h2,h3⟩:=oN hs j;have e:SetTable.below t.place j=i:=by
  have hi:=(Array.getElem?_eq_some_iff.mp h).1;rcases GW i (SetTable.below t.place j)with a|a
  ·have:=h2 i j a h;omega
  ·rcases GW (SetTable.below t.place j) i with b|b
   ·have eb:t.place[SetTable.below t.place j]?=some t.place[SetTable.below t.place j]:=getElem?_pos t.place _ (by omega);have c1:=h3 _ _ (Gw _) eb;have c2:=oW hs eb h b;omega
   ·omega
 unfold SetTable.slot;dsimp only;rw[e,h,Hf (beq_self_eq_true _)]
def iE{α:Type}(xs:Array α)(p:Nat)(x:α):(SetTable.insertAt xs p x).toList=xs.toList.take p++(x::xs.toList.drop p):=by unfold SetTable.insertAt;rw[Array.toList_append,Array.toList_push,Array.toList_extract,Array.toList_extract];show List.take (p-0) (xs.toList.drop 0)++[x]++List.take (xs.size-p) (xs.toList.drop p)=_;rw[List.take_of_length_le (l:=xs.toList.drop p) (by rw[List.length_drop,Gf];exact Gw _),List.append_assoc];rfl
def vY{α:Type}(xs:Array α){p:Nat}(hp:p<=xs.size)(x:α)(i:Nat):(SetTable.insertAt xs p x)[i]?=if i<p then xs[i]? else if i=p then some x else xs[i-1]?:=by
 rw[←Array.getElem?_toList,iE,List.getElem?_append,GZ,Gf,show min p xs.size=p by omega];by_cases h:i<p
 ·rw[Hf h,Hf h,List.getElem?_take_of_lt h,Array.getElem?_toList]
 ·rw[He h,He h];by_cases e:i=p
  ·rw[Hf e,e,Nat.sub_self];rfl
  ·rw[He e];obtain⟨k,rfl⟩:∃k,i=p+(k+1):=⟨i-p-1,by omega⟩;rw[show p+(k+1)-p=k+1 by omega,List.getElem?_cons_succ,List.getElem?_drop,Array.getElem?_toList];congr 1
def AF{xs:Array Nat}(hs:xs.toList.Pairwise (· < ·)){j:Nat}(hn:j∉xs.toList):(SetTable.insertAt xs (SetTable.below xs j) j).toList.Pairwise (· < ·):=by
 obtain⟨h1,h2,h3⟩:=oN hs j;rw[iE];have hs':=hs;rw[←List.take_append_drop (SetTable.below xs j) xs.toList,List.pairwise_append]at hs';rw[List.pairwise_append,List.pairwise_cons];refine⟨hs'.1,⟨λy hy=>?_,hs'.2.1⟩,λx hx y hy=>?_⟩
 ·obtain⟨k,hk,e⟩:=List.mem_iff_getElem.mp hy;rw[List.length_drop,Gf]at hk;rw[List.getElem_drop,Array.getElem_toList]at e;have ex:xs[SetTable.below xs j+k]?=some y:=by rw[getElem?_pos xs _ (by omega),e]
  have:=h3 _ _ (by omega) ex;have ne:y≠j:=λz=>hn (by rw[←z];exact Array.mem_toList_iff.mpr (Array.mem_of_getElem? ex));omega
 ·have hxj:x<j:=by obtain⟨k,hk,e⟩:=List.mem_iff_getElem.mp hx;rw[GZ,Gf]at hk;rw[List.getElem_take,Array.getElem_toList]at e;exact h2 k x (by omega) (by rw[getElem?_pos xs _ (by omega),e])
  rcases Gq.mp hy with rfl|hy
  ·exact hxj
  ·exact hs'.2.2 x hx y hy
abbrev tM(m:Nat):SetTable:={ mask:=m,place:=#[],dummies:=#[],finger:=0,led:=false,moves:=0,plain:=false }
def pm(m:Nat)(h:Int)(k:Nat):Nat:=(aK (tM m) k ((tM m).probeStart h)).j
def tD(t:SetTable):∀k p,aK t k p=aK (tM t.mask) k p
 | 0,p=>rfl
 | k+1,p=>tD t k _
def sU(t:SetTable)(h:Int)(k:Nat):(aK t k (t.probeStart h)).j=pm t.mask h k:=by rw[tD];rfl
structure TOk(m:Nat)(pl:Array Nat)(hs:Array Int):Prop where
 len:pl.size=hs.size
 inc:pl.toList.Pairwise (· < ·)
 rch:∀(i j:Nat) (h:Int),pl[i]?=some j->hs[i]?=some h->∃K,K<10*SetTable.turns m/\pm m h K=j/\∀k,k<K->pm m h k∈pl.toList
def TOk.nil(m:Nat):TOk m #[] #[]:=⟨rfl,.nil,λi j h e=>by simp at e⟩
def TOk.put{m:Nat}{pl:Array Nat}{hs:Array Int}(T:TOk m pl hs){h:Int}{K:Nat}(hK:K<10*SetTable.turns m)(hn:pm m h K∉pl.toList)(hb:∀k,k<K->pm m h k∈pl.toList):
  TOk m (SetTable.insertAt pl (SetTable.below pl (pm m h K)) (pm m h K)) (SetTable.insertAt hs (SetTable.below pl (pm m h K)) h):=by
 have hle:=(oN T.inc (pm m h K)).1;have more:∀x,x∈pl.toList->x∈(SetTable.insertAt pl (SetTable.below pl (pm m h K)) (pm m h K)).toList:=λx hx=>by
  rw[iE];rw[←List.take_append_drop (SetTable.below pl (pm m h K)) pl.toList]at hx;rcases Gz.mp hx with a|a
  ·exact GS _ a
  ·exact GR _ (Ge _ a)
 have old:∀(i j:Nat) (h':Int),pl[i]?=some j->hs[i]?=some h'->∃K',K'<10*SetTable.turns m/\pm m h' K'=j/\∀k,k<K'->pm m h' k∈(SetTable.insertAt pl (SetTable.below pl (pm m h K)) (pm m h K)).toList:=λi j h' e1 e2=>by obtain⟨K',h1,h2,h3⟩:=T.rch i j h' e1 e2;exact⟨K',h1,h2,λk hk=>more _ (h3 k hk)⟩
 refine⟨by rw[mW,mW,T.len],AF T.inc hn,λi j h' e1 e2=>?_⟩;rw[vY pl hle]at e1;rw[vY hs (by rw[←T.len];exact hle)]at e2;by_cases c1:i<SetTable.below pl (pm m h K)
 ·rw[Hf c1]at e1 e2;exact old i j h' e1 e2
 ·rw[He c1]at e1 e2;by_cases c2:i=SetTable.below pl (pm m h K)
  ·rw[Hf c2]at e1 e2;cases e1;cases e2;exact⟨K,hK,rfl,λk hk=>more _ (hb k hk)⟩
  ·rw[He c2]at e1 e2;exact old _ j h' e1 e2
def BM{t:SetTable}(hd:t.dummies = #[]){j:Nat}(h:t.slot j≠.empty):j∈t.place.toList:=by
 rcases o7 hd j with e|⟨i,e⟩
 ·exact absurd e h
 ·exact Array.mem_toList_iff.mpr (Array.mem_of_getElem? (lG e))
def wj{t:SetTable}(hs:t.place.toList.Pairwise (· < ·)){j:Nat}(h:j∈t.place.toList):∃i,t.slot j=.live i/\t.place[i]?=some j:=by obtain⟨i,hi⟩:=GX h;rw[Array.getElem?_toList]at hi;exact⟨i,slot_mem hs hi,hi⟩
def Au{t:SetTable}(hs:t.place.toList.Pairwise (· < ·)){j:Nat}(h:t.slot j=.empty):j∉t.place.toList:=λhm=>by obtain⟨i,e,_⟩:=wj hs hm;rw[h]at e;cases e
def DF{t:SetTable}(hd:t.dummies = #[])(hm:Mask t.mask)(hp:t.place.size<=t.mask)(h:Int):∃K,K<10*SetTable.turns t.mask/\t.slot (pm t.mask h K)=.empty/\∀k,k<K->t.slot (pm t.mask h k)≠.empty:=by obtain⟨j0,hj0,hs0⟩:=AJ hd hp;obtain⟨N,hN,eN⟩:=zc hm hj0 h;rw[sU]at eN;obtain⟨K,h1,h2,h3⟩:=least (P:=λn=>t.slot (pm t.mask h n)=.empty) N (by show t.slot (pm t.mask h N)=_;rw[eN];exact hs0);exact⟨K,by omega,h2,h3⟩
def uK{t:SetTable}(hd:t.dummies = #[])(hash:Nat->Int)(h:Int):∀(K fuel:Nat) (p:SetTable.Probe),K<fuel->p.dummy=none->(∀k,k<K->t.slot (aK t k p).j≠.empty) →
  (∃k i,k<K/\SetTable.probe.go t hash h fuel p=some (.candidate (aK t k p).j i (aK t (k+1) p))/\t.slot (aK t k p).j=.live i)\/SetTable.probe.go t hash h fuel p=SetTable.probe.go t hash h (fuel-K) (aK t K p):=by
 intro K;induction K with
 | zero=>intro fuel p _ _ _;exact .inr rfl
 | succ K ih=>
  intro fuel p hf hp hs;obtain⟨f,rfl⟩:∃f,fuel=f+1:=⟨fuel-1,by omega⟩;have h0:t.slot p.j≠.empty:=hs 0 (by omega);rcases o7 hd p.j with h1|⟨i,h1⟩
  ·exact absurd h1 h0
  ·by_cases hq:(hash i == h)=true
   ·refine .inl ⟨0,i,by omega,?_,h1⟩
    conv=>lhs;unfold SetTable.probe.go
    rw[h1];dsimp only;rw[Hf hq];rfl
   ·have e:SetTable.probe.go t hash h (f+1) p=SetTable.probe.go t hash h f (t.advance p):=by
     conv=>lhs;unfold SetTable.probe.go
     rw[h1];dsimp only;rw[He hq]
    rw[e];have hp':(t.advance p).dummy=none:=by have:=jk t 1 p;rw[hp]at this;exact this
    rcases ih f (t.advance p) (by omega) hp' (λk hk=>hs (k+1) (by omega))with⟨k,i',hk,e',hl⟩|e'
    ·exact .inl ⟨k+1,i',by omega,e',hl⟩
    ·refine .inr ?_;rw[e',show f+1-(K+1)=f-K by omega];rfl
def As{t:SetTable}(hd:t.dummies = #[])(hash:Nat->Int)(h:Int){K fuel:Nat}{p:SetTable.Probe}(hf:K<fuel)(hp:p.dummy=none)(hs:∀k,k<K->t.slot (aK t k p).j≠.empty)(he:t.slot (aK t K p).j=.empty):
  (∃k i,k<K/\SetTable.probe.go t hash h fuel p=some (.candidate (aK t k p).j i (aK t (k+1) p))/\t.slot (aK t k p).j=.live i)\/SetTable.probe.go t hash h fuel p=some (.empty (aK t K p).j none):=by
 rcases uK hd hash h K fuel p hf hp hs with a|a
 ·exact .inl a
 ·refine .inr ?_;rw[a];obtain⟨f,hf'⟩:∃f,fuel-K=f+1:=⟨fuel-K-1,by omega⟩;rw[hf'];unfold SetTable.probe.go;rw[he];dsimp only;rw[jk,hp]
def A7{t:SetTable}(hd:t.dummies = #[])(hash:Nat->Int)(h:Int){K fuel i0:Nat}{p:SetTable.Probe}(hf:K<fuel)(hp:p.dummy=none)(hs:∀k,k<K->t.slot (aK t k p).j≠.empty)(he:t.slot (aK t K p).j=.live i0)(hh:hash i0=h):
  ∃k i,k<=K/\SetTable.probe.go t hash h fuel p=some (.candidate (aK t k p).j i (aK t (k+1) p))/\t.slot (aK t k p).j=.live i:=by
 rcases uK hd hash h K fuel p hf hp hs with⟨k,i,hk,e,hl⟩|a
 ·exact⟨k,i,by omega,e,hl⟩
 ·refine⟨K,i0,Gw _,?_,he⟩;rw[a];obtain⟨f,hf'⟩:∃f,fuel-K=f+1:=⟨fuel-K-1,by omega⟩;rw[hf']
  conv=>lhs;unfold SetTable.probe.go
  rw[he];dsimp only;rw[Hf (by rw[hh];exact beq_self_eq_true _)];rw[gQ];rfl
def xg(t:SetTable):∀(k:Nat) (p:SetTable.Probe),k<=p.more->aK t k p={ p with j:=p.j+k,more:=p.more-k }
 | 0,p,h=>rfl
 | k+1,p,h=>by
  show aK t k (t.advance p)=_;have e:t.advance p={ p with j:=p.j+1,more:=p.more-1 }:=by unfold SetTable.advance;rw[Hf (by omega)]
  rw[e,xg t k _ (by show k<=p.more-1;omega)];simp only[SetTable.Probe.mk.injEq,true_and,and_true];omega
def Bp{m i:Nat}(h:i<=m):SetTable.runEnd m i<=m/\i<=SetTable.runEnd m i/\SetTable.runEnd m i<=i+9:=by unfold SetTable.runEnd;split<;>omega
def nE{t:SetTable}{i p k:Nat}(h:k<=SetTable.runEnd t.mask i-i):(aK t k (at_ t (i,p))).j=i+k:=by rw[xg t k _ h];rfl
def xr{owner:Array (Option Nat)}{j:Nat}(hj:j<owner.size)(h:(owner.getD j (some 0)).isNone=false):∃x,owner[j]?=some (some x):=by
 rw[Array.getD_eq_getD_getElem?,getElem?_pos owner j hj]at h;rw[getElem?_pos owner j hj];cases e:owner[j]with
 | none=>rw[e]at h;cases h
 | some x=>exact⟨x,rfl⟩
def sC{t:SetTable}(owner:Array (Option Nat))(hz:owner.size=t.mask+1):∀(fuel i p j':Nat),i<=t.mask->SetTable.layClean.free t.mask owner fuel i p=some j' →
  ∃K,K<10*fuel/\(aK t K (at_ t (i,p))).j=j'/\∀k,k<K->∃x,owner[(aK t k (at_ t (i,p))).j]?=some (some x)
 | 0,i,p,j',hi,h=>by cases h
 | fuel+1,i,p,j',hi,h=>by
  obtain⟨r1,r2,r3⟩:=Bp hi;unfold SetTable.layClean.free at h;split at h
  ·rename_i k0 hk;cases h;rw[List.find?_range_eq_some]at hk;obtain⟨hk1,hk2,hk3⟩:=hk;have hk2:=List.mem_range.mp hk2;refine⟨k0,by omega,nE (by omega),λk hk=>?_⟩;rw[nE (by omega)];refine xr (by omega) ?_;have:=hk3 k hk;simpa using this
  ·rename_i hk;rw[List.find?_range_eq_none]at hk;have hnx:(SetTable.leap t.mask i p).1<=t.mask:=by show(_ % (t.mask+1))<=t.mask;have:=Nat.mod_lt (i*5+1+p / 32) (show 0<t.mask+1 by omega);omega
   obtain⟨K,h1,h2,h3⟩:=sC owner hz fuel _ _ j' hnx h;have hr:aK t (SetTable.runEnd t.mask i-i+1) (at_ t (i,p))=at_ t (SetTable.leap t.mask i p):=(qo t (SetTable.runEnd t.mask i-i) (at_ t (i,p)) rfl).trans rfl;refine⟨SetTable.runEnd t.mask i-i+1+K,by omega,?_,λk hk'=>?_⟩
   ·rw[gQ,hr];exact h2
   ·rcases GW k (SetTable.runEnd t.mask i-i+1)with a|a
    ·rw[nE (by omega)];refine xr (by omega) ?_;have:=hk k (by omega);simpa using this
    ·obtain⟨k',rfl⟩:∃k',k=SetTable.runEnd t.mask i-i+1+k':=⟨k-(SetTable.runEnd t.mask i-i+1),by omega⟩;rw[gQ,hr];exact h3 k' (by omega)
def mR(m:Nat)(F:Nat->Int)(owner:Array (Option Nat)):Prop:=∀j x:Nat,owner[j]?=some (some x)->∃K,K<10*SetTable.turns m/\pm m (F x) K=j/\∀k,k<K->∃y,owner[pm m (F x) k]?=some (some y)
def sD{m:Nat}(hm:Mask m)(F:Nat->Int):∀(hs:List Int) (owner:Array (Option Nat)) (k:Nat),owner.size=m+1->(owner.toList.filterMap id).Perm (Hb k)->k+hs.length<=m->(∀i h,hs[i]?=some h->F (k+i)=h)->mR m F owner →
  ∃owner',hs.foldl (ko m) (some (owner,k))=some (owner',k+hs.length)/\owner'.size=m+1/\(owner'.toList.filterMap id).Perm (Hb (k+hs.length))/\mR m F owner'
 | [],owner,k,h1,h2,h3,h4,h5=>⟨owner,rfl,h1,h2,h5⟩
 | h::hs,owner,k,h1,h2,h3,h4,h5=>by
  rw[GF]at h3 ⊢;have hlt:(owner.toList.filterMap id).length<owner.toList.length:=by rw[h2.length_eq,List.length_range,Gf,h1];omega
  obtain⟨j,hj⟩:=BD hlt;rw[Array.getElem?_toList]at hj;have hjm:j<=m:=by have:=(Array.getElem?_eq_some_iff.mp hj).1;omega
  have hi:SetTable.bits h % (m+1)<=m:=by have:=Nat.mod_lt (SetTable.bits h) (show 0<m+1 by omega);omega
  obtain⟨n,hn,en⟩:=we hm hi (ve h) hjm;obtain⟨j',e',hj'⟩:=B9 hm owner h1 hj (SetTable.turns m) n _ _ hi (by unfold SetTable.turns;omega) en;obtain⟨K,K1,K2,K3⟩:=sC (t:=tM m) owner h1 (SetTable.turns m) _ _ j' hi e';have step:ko m (some (owner,k)) h=some (owner.setIfInBounds j' (some k),k+1):=by unfold ko;simp[e']
  rw[List.foldl_cons,step];have hp:((owner.setIfInBounds j' (some k)).toList.filterMap id).Perm (Hb (k+1)):=by rw[Array.toList_setIfInBounds];rw[←Array.getElem?_toList]at hj';refine(uQ hj').trans ?_;rw[List.range_succ];exact(List.Perm.cons k h2).trans (List.perm_append_comm (l₁:=[k]) (l₂:=Hb k))
  have hj's:j'<owner.size:=(Array.getElem?_eq_some_iff.mp hj').1;have keep:∀i x,owner[i]?=some (some x)->(owner.setIfInBounds j' (some k))[i]?=some (some x):=λi x e=>by
   rw[Array.getElem?_setIfInBounds,He]
   ·exact e
   ·rintro rfl;rw[hj']at e;cases e
  have hR:mR m F (owner.setIfInBounds j' (some k)):=λi x e=>by
   rw[Array.getElem?_setIfInBounds]at e;by_cases c:j'=i
   ·rw[Hf c,Hf hj's]at e;cases e;have eF:F k=h:=by
     have:=h4 0 h rfl
     rwa [Nat.add_zero]at this
    rw[eF];refine⟨K,K1,?_,λk' hk'=>?_⟩
    ·rw[←c];exact K2
    ·obtain⟨y,hy⟩:=K3 k' hk';exact⟨y,keep _ _ hy⟩
   ·rw[He c]at e;obtain⟨K',q1,q2,q3⟩:=h5 i x e;refine⟨K',q1,q2,λk' hk'=>?_⟩;obtain⟨y,hy⟩:=q3 k' hk';exact⟨y,keep _ _ hy⟩
  obtain⟨o',f1,f2,f3,f4⟩:=sD hm F hs (owner.setIfInBounds j' (some k)) (k+1) (by simpa using h1) hp (by omega) (λi h' e=>by
   have:=h4 (i+1) h' e
   rwa [show k+(i+1)=k+1+i by omega]at this) hR
  exact⟨o',by rw[f1];congr 2;omega,f2,by rw[show k+(hs.length+1)=k+1+hs.length by omega];exact f3,f4⟩
def pC{α:Type}(es:Array α):∀(l:List Nat),(∀i∈l,i<es.size)->∀n:Nat,(l.filterMap (es[·]?))[n]?=(l[n]?).bind (es[·]?)
 | [],_,n=>by simp
 | x::l,h,n=>by
  have hx:=h x Gh;have e:(x::l).filterMap (es[·]?)=es[x]::l.filterMap (es[·]?):=by rw[List.filterMap_cons];simp[hx]
  rw[e];cases n with
  | zero=>simp[hx]
  | succ n=>simpa using pC es l (λi hi=>h i (Ge _ hi)) n
def xa{f:Nat->Option (Nat×Nat)}(hf:∀j x,f j=some x->x.1=j):∀(l:List Nat),(∀x∈(l.filterMap f),f x.1=some x)/\((l.filterMap f).map (·.1))=l.filter (λj=>(f j).isSome)
 | []=>⟨λx hx=>(by cases hx),rfl⟩
 | a::l=>by
  obtain⟨i1,i2⟩:=xa hf l;cases e:f a with
  | none=>
   rw[List.filterMap_cons_none e,List.filter_cons_of_neg (by rw[e];simp)];exact⟨i1,i2⟩
  | some x=>
   rw[List.filterMap_cons_some e,List.filter_cons_of_pos (by rw[e];rfl),List.map_cons,i2,hf a x e];refine⟨λy hy=>?_,rfl⟩;rcases Gq.mp hy with rfl|hy
   ·rw[hf a y e];exact e
   ·exact i1 y hy
def DU(t:SetTable){es:Array (Int×Value)}{wanted m:Nat}(hm:Mask m)(hw:SetTable.sizeAbove wanted-1=m)(hn:es.size<=m):
  ∃t' order,t.relaid (es.map (·.1)) wanted=some (t',order)/\t'.place.size=es.size/\t'.dummies = #[]/\t'.mask=m/\order.toList.Perm (Hb es.size)/\t'.led=t.led/\t'.plain=t.plain/\TOk m t'.place ((order.filterMap (es[·]?)).map (·.1)):=by
 obtain⟨o',f1,f2,f3,f4⟩:=sD hm (λi=>((es[i]?).map (·.1)).getD 0) (es.map (·.1)).toList (Array.replicate (m+1) none) 0 (by simp) (by simp) (by rw[Gf,Array.size_map];omega) (λi h e=>by
   rw[Array.getElem?_toList,Array.getElem?_map]at e;show((es[0+i]?).map (·.1)).getD 0=h;rw[Nat.zero_add,e];rfl) (λj x e=>by
   rw[Array.getElem?_replicate]at e;split at e<;>cases e)
 rw[Gf,Nat.zero_add,Array.size_map]at f1 f3;have hlay:SetTable.layClean m (es.map (·.1))=some o':=by show((es.map (·.1)).foldl (ko m) (some (Array.replicate (m+1) none,0))).map (·.1)=some o';rw[←Array.foldl_toList,f1];rfl
 have hsnd:((Hb (m+1)).filterMap λj=>(o'.getD j none).map (j,·)).map (·.2)=o'.toList.filterMap id:=by
  rw[List.map_filterMap];have:o'.toList=(Hb (m+1)).map λj=>o'.getD j none:=by
   apply List.ext_getElem
   ·rw[Gf,Ga,List.length_range,f2]
   ·intro i h1 h2;rw[Gf]at h1;simp[h1]
  rw[this,List.filterMap_map];congr 1;funext j;show((o'.getD j none).map (j,·)).map (·.2)=o'.getD j none;cases o'.getD j none<;>rfl
 have hrel:t.relaid (es.map (·.1)) wanted=some (({ mask:=m,place:=(((Hb (m+1)).filterMap λj=>(o'.getD j none).map (j,·)).map (·.1)).toArray,dummies:=#[],finger:=t.finger,led:=t.led,moves:=t.movedTo m,plain:=t.plain }:SetTable),(((Hb (m+1)).filterMap λj=>(o'.getD j none).map (j,·)).map (·.2)).toArray):=by unfold SetTable.relaid;rw[hw];unfold SetTable.laid;rw[hlay];rfl
 obtain⟨lv1,lv2⟩:=xa (f:=λj=>(o'.getD j none).map (j,·)) (λj x e=>by obtain⟨y,_,rfl⟩:=Gn.mp e;rfl) (Hb (m+1))
 have hlen:((Hb (m+1)).filterMap λj=>(o'.getD j none).map (j,·)).length=es.size:=by
  have:=congrArg List.length hsnd
  rwa [Ga,f3.length_eq,List.length_range]at this
 have hall:∀i∈((Hb (m+1)).filterMap λj=>(o'.getD j none).map (j,·)).map (·.2),i<es.size:=λi hi=>by rw[hsnd]at hi;exact List.mem_range.mp (f3.mem_iff.mp hi)
 refine⟨_,_,hrel,?_,rfl,rfl,?_,rfl,rfl,?_⟩
 ·show(((Hb (m+1)).filterMap λj=>(o'.getD j none).map (j,·)).map (·.1)).toArray.size=_;rw[Gg,Ga,hlen]
 ·show(((Hb (m+1)).filterMap λj=>(o'.getD j none).map (j,·)).map (·.2)).toArray.toList.Perm _;rw[List.toList_toArray,hsnd];exact f3
 ·generalize hlv:((Hb (m+1)).filterMap λj=>(o'.getD j none).map (j,·))=lv at lv1 lv2 hlen hall;show TOk m (lv.map (·.1)).toArray (((lv.map (·.2)).toArray.filterMap (es[·]?)).map (·.1));have mem:∀j,(∃y,o'[j]?=some (some y))->j∈(lv.map (·.1)).toArray.toList:=λj ⟨y,hy⟩=>by rw[List.toList_toArray,lv2,List.mem_filter];have hj:=(Array.getElem?_eq_some_iff.mp hy).1;refine⟨List.mem_range.mpr (by omega),?_⟩;rw[Array.getD_eq_getD_getElem?,hy];rfl
  have hes:∀n:Nat,((((lv.map (·.2)).toArray.filterMap (es[·]?)).map (·.1)))[n]?=(((lv.map (·.2))[n]?).bind (es[·]?)).map (·.1):=λn=>by rw[Array.getElem?_map,←Array.getElem?_toList,Array.toList_filterMap,List.toList_toArray,pC es _ hall]
  refine⟨?_,?_,λi j h e1 e2=>?_⟩
  ·rw[Array.size_map,←Gf,←Gf,Array.toList_filterMap,List.toList_toArray,List.toList_toArray,Ga];have key:∀l:List Nat,(∀i∈l,i<es.size)->(l.filterMap (es[·]?)).length=l.length:=by
    intro l;induction l with
    | nil=>intro _;rfl
    | cons x l ih=>
     intro hl;have hx:=hl x Gh;rw[List.filterMap_cons,getElem?_pos es x hx,GF,GF,ih λi hi=>hl i (Ge _ hi)]
   rw[key _ hall,Ga]
  ·rw[List.toList_toArray,lv2];exact List.Pairwise.filter _ List.pairwise_lt_range
  ·rw[hes]at e2;rw[List.getElem?_toArray,Gd]at e1;rw[Gd]at e2;obtain⟨⟨j',x⟩,hx,rfl⟩:=Gn.mp e1;rw[hx]at e2;have hf:=lv1 _ (Gk hx);have hx':o'.getD j' none=some x:=by obtain⟨y,hy,ey⟩:=Gn.mp hf;cases ey;exact hy
   have ho:o'[j']?=some (some x):=by
    rw[Array.getD_eq_getD_getElem?]at hx';cases q:o'[j']? with
    | none=>rw[q]at hx';cases hx'
    | some y=>rw[q]at hx';cases hx';rfl
   obtain⟨K,q1,q2,q3⟩:=f4 j' x ho;have eF:((es[x]?).map (·.1)).getD 0=h:=by have:(es[x]?).map (·.1)=some h:=e2;rw[this];rfl
   dsimp only at q2 q3;rw[eF]at q2 q3;exact⟨K,q1,q2,λk hk=>mem _ (q3 k hk)⟩
end Tb
namespace L2
open PySem PySem.Spec PyProof.Rows
section
variable {P:Program} {w:World} {A:Around} {E:Value->Shared->Prop} {s:Shared} {K:Type} [DecidableEq K] {knd:KeyKind P w K}
def pP{ks:List K}{vs:List Value}(h:ItemsAre knd ks vs):∀v∈vs,∀b,v≠.ref b:=λv hv b e=>by have:=h.byValue v hv;subst e;cases this
def y8(n:Nat){v:Value}(h:∀b,v≠.ref b):ofAClassStatement n v=pure false:=by
 cases v with
 | ref b=>exact absurd rfl (h b)
 | _=>unfold ofAClassStatement;rfl
def ui{ks:List K}{b:Addr}{Q:Bool->Shared->Prop}(hk:IsTupleKey knd s.heap ks b)(h:Q false s):wpAny (model P w) A (ofAClassStatement 8 (.ref b)) Q E s:=by
 have hT:=hk.typeIs;obtain⟨o,items,n,ho,hc,hd,hi⟩:=hk;unfold ofAClassStatement;refine F4 (wpAny_typeOf hT ?_);dsimp only;refine F4 (F5 ?_);simp only[Bool.not_true,GV,if_false];refine F4 (wpAny_seqItems ho hd ?_);dsimp only;refine F4 ?_;rw[←Array.forIn_toList];refine wpAny_forIn_list _ (λrest r s'=>r.1=none/\s'=s/\∀v∈rest,∀b,v≠.ref b) _ ?_ ?_ _ _ ⟨rfl,rfl,pP hi⟩
 ·rintro v rest r s' ⟨hr,rfl,hall⟩;rw[y8 _ (hall v Gh)];refine F4 (F5 ?_);simp only[GV,if_false];exact F5 ⟨rfl,rfl,λu hu=>hall u (Ge _ hu)⟩
 ·rintro⟨r1,r2⟩ s' ⟨hr,rfl,_⟩;simp only at hr;subst hr;exact F5 h
def qM{ks:List K}{b:Addr}{l:List Value}{Q:Bool->Shared->Prop}(hk:IsTupleKey knd s.heap ks b)(hl:∀y∈l,∃b' k',y=.ref b'/\IsTupleKey knd s.heap k' b')(h:Q false s):wpAny (model P w) A (searchCouldBeSeen (.ref b) l) Q E s:=by
 unfold searchCouldBeSeen;refine F4 ?_;refine wpAny_forIn_list _ (λrest r s'=>r.1=none/\s'=s/\∀y∈rest,∃b' k',y=.ref b'/\IsTupleKey knd s.heap k' b') _ ?_ ?_ _ _ ⟨rfl,rfl,hl⟩
 ·rintro v rest r s' ⟨hr,rfl,hall⟩;obtain⟨b',k',rfl,hk'⟩:=hall v Gh;have next:∀y∈rest,∃b' k',y=.ref b'/\IsTupleKey knd s'.heap k' b':=λy hy=>hall y (Ge _ hy)
  dsimp only;split
  ·exact F5 ⟨rfl,rfl,next⟩
  ·refine F4 (wpAny_eqIsQuiet_tuple hk ?_);simp only[Bool.not_true,GV,if_false];refine F4 (wpAny_eqIsQuiet_tuple hk' ?_);simp only[Bool.not_true,GV,if_false];refine F4 (ui hk ?_);simp only[GV,if_false];refine F4 (ui hk' ?_);simp only[GV,if_false];exact F5 ⟨rfl,rfl,next⟩
 ·rintro⟨r1,r2⟩ s' ⟨hr,rfl,_⟩;simp only at hr;subst hr;exact F5 h
def wd{t:SetTable}(hm:Tb.Mask t.mask):t.gaveWay=false:=by unfold SetTable.gaveWay;rcases hm with e|e|e|e|e|e<;>rw[e]<;>rfl
def Bw{a b:Addr}{k:List K}{h:Int}{o:Obj}{es:Array (Int×Value)}{ep:Nat}{t:SetTable}(hu:A.units<cLine)(hk:IsTupleKey knd s.heap k b)(ho:s.heap.get? a=some o)(hd:o.data=.set es ep t)(hf:t.fits es.size=true)(hm:Tb.Mask t.mask)(hdm:t.dummies = #[])
  (hall:∀e∈es.toList,∃b' k',e.2=.ref b'/\IsTupleKey knd s.heap k' b'/\k'≠k) {Q:SetFound->Shared->Prop} :
  ∀(K fuel:Nat) (stand:Option SetTable.Probe),K<fuel->K<10*SetTable.turns t.mask->(stand.getD (t.probeStart h)).dummy=none->(∀k',k'<K->t.slot (Tb.aK t k' (stand.getD (t.probeStart h))).j≠.empty)->t.slot (Tb.aK t K (stand.getD (t.probeStart h))).j=.empty →
   Q (.free (Tb.aK t K (stand.getD (t.probeStart h))).j false) s->wpAny (model P w) A (setSearchFrom a (.ref b) h true fuel stand) Q E s:=by
 intro K;induction K using Nat.strongRecOn with
 | ind K ih=>
  intro fuel stand hfu hK hdu hne hs hQ;obtain⟨f,rfl⟩:∃f,fuel=f+1:=⟨fuel-1,by omega⟩;unfold setSearchFrom;refine F4 (G0 ho hd hf ?_);dsimp only;have hg:=wd hm;have hsz:t.place.size=es.size:=by simp only[SetTable.fits,GO,beq_iff_eq]at hf;exact hf.1
  have hsm:t.sameMemory t.moves t.mask=some true:=by unfold SetTable.sameMemory;rw[Hf (beq_self_eq_true _)]
  rw[hg];simp only[GV,if_false];generalize hr:t.probe _ h (stand.getD (t.probeStart h))=r;obtain⟨g,hr⟩:∃g,SetTable.probe.go t g h (10*SetTable.turns t.mask) (stand.getD (t.probeStart h))=r:=⟨_,hr⟩;rcases Tb.As hdm g h hK hdu hne hs with⟨k',i,hk',e,hl⟩|e
  ·rw[e]at hr;subst hr;have hpl:=Tb.lG hl;have hi:i<es.size:=by rw[←hsz];exact(Array.getElem?_eq_some_iff.mp hpl).1
   have hmem:es[i]∈es.toList:=by simp
   obtain⟨b',k2,hy,hk2,hne2⟩:=hall _ hmem;have hes:es[i]?=some (es[i].1,.ref b'):=by rw[Array.getElem?_eq_getElem hi,←hy]
   have hst:∀y∈((es.filter λx=>x.1 == h).toList.map λx=>x.2),∃b' k',y=Value.ref b'/\IsTupleKey knd s.heap k' b':=λy hy=>by
    obtain⟨e0,he0,rfl⟩:=List.mem_map.mp hy;have he1:e0∈es.toList:=by have:=Array.mem_toList_iff.mp he0;exact Array.mem_toList_iff.mpr (Array.mem_filter.mp this).1
    obtain⟨b3,k3,h1,h2,_⟩:=hall e0 he1;exact⟨b3,k3,h1,h2⟩
   have eK:∀x,Tb.aK t (k'+1+x) (stand.getD (t.probeStart h))=Tb.aK t x (Tb.aK t (k'+1) (stand.getD (t.probeStart h))):=λx=>Tb.gQ t _ _ _;have again:wpAny (model P w) A (setSearchFrom a (.ref b) h true f (some (Tb.aK t (k'+1) (stand.getD (t.probeStart h))))) Q E s:=by
    refine ih (K-(k'+1)) (by omega) f _ (by omega) (by omega) ?_ (λx hx=>?_) ?_ ?_
    ·show(Tb.aK t (k'+1) _).dummy=none;rw[Tb.jk];exact hdu
    ·show t.slot (Tb.aK t x (Tb.aK t (k'+1) _)).j≠_;rw[←eK];exact hne _ (by omega)
    ·show t.slot (Tb.aK t (K-(k'+1)) (Tb.aK t (k'+1) _)).j=_;rw[←eK,show k'+1+(K-(k'+1))=K by omega];exact hs
    ·show Q (.free (Tb.aK t (K-(k'+1)) (Tb.aK t (k'+1) _)).j false) s;rw[←eK,show k'+1+(K-(k'+1))=K by omega];exact hQ
   have same:isSame (Value.ref b') (Value.ref b')=pure true:=by unfold isSame;simp
   dsimp only;cases hled:t.led
   ·simp only[Bool.not_false,if_true];refine F4 (qM hk hst ?_);simp only[GV,if_false];rw[hes];dsimp only;refine F4 (wpAny_holding (wpAny_eqBool_tuple hu hk2 hk ?_));rw[Hc hne2];refine F4 (G0 ho hd hf ?_);dsimp only;simp only[Bool.and_false,GV,if_false,hsm,if_true,hl,hes,same];exact F4 (F5 (F4 (F5 again)))
   ·simp only[Bool.not_true,GV,if_false];rw[hes];dsimp only;refine F4 (wpAny_holding (wpAny_eqBool_tuple hu hk2 hk ?_));rw[Hc hne2];refine F4 (G0 ho hd hf ?_);dsimp only;simp only[Bool.and_false,GV,if_false,hsm,if_true,hl,hes,same];exact F4 (F5 (F4 (F5 again)))
  ·rw[e]at hr;subst hr;exact F5 hQ
def EW{a b:Addr}{k:List K}{h:Int}{o:Obj}{es:Array (Int×Value)}{ep i0:Nat}{t:SetTable}(hu:A.units<cLine)(hk:IsTupleKey knd s.heap k b)(ho:s.heap.get? a=some o)(hd:o.data=.set es ep t)(hf:t.fits es.size=true)(hm:Tb.Mask t.mask)(hdm:t.dummies = #[])
  (hall:∀e∈es.toList,∃b' k',e.2=.ref b'/\IsTupleKey knd s.heap k' b') (hi0:∃b0,es[i0]?=some (h,.ref b0)/\IsTupleKey knd s.heap k b0) {Q:SetFound->Shared->Prop} (hQ:Q (.there none) s) :
  ∀(K fuel:Nat) (stand:Option SetTable.Probe),K<fuel->K<10*SetTable.turns t.mask->(stand.getD (t.probeStart h)).dummy=none->(∀k',k'<K->t.slot (Tb.aK t k' (stand.getD (t.probeStart h))).j≠.empty)->t.slot (Tb.aK t K (stand.getD (t.probeStart h))).j=.live i0 →
   wpAny (model P w) A (setSearchFrom a (.ref b) h true fuel stand) Q E s:=by
 obtain⟨b0,hb0,hkb0⟩:=hi0;intro K;induction K using Nat.strongRecOn with
 | ind K ih=>
  intro fuel stand hfu hK hdu hne hs;obtain⟨f,rfl⟩:∃f,fuel=f+1:=⟨fuel-1,by omega⟩;unfold setSearchFrom;refine F4 (G0 ho hd hf ?_);dsimp only;have hg:=wd hm;have hsz:t.place.size=es.size:=by simp only[SetTable.fits,GO,beq_iff_eq]at hf;exact hf.1
  have hsm:t.sameMemory t.moves t.mask=some true:=by unfold SetTable.sameMemory;rw[Hf (beq_self_eq_true _)]
  rw[hg];simp only[GV,if_false];generalize hr:t.probe _ h (stand.getD (t.probeStart h))=r;obtain⟨g,hgi,hr⟩:∃g:Nat->Int,g i0=h/\SetTable.probe.go t g h (10*SetTable.turns t.mask) (stand.getD (t.probeStart h))=r:=⟨_,by show((es[i0]?).map (·.1)).getD 0=h;rw[hb0];rfl,hr⟩;obtain⟨k',i,hk',e,hl⟩:=Tb.A7 hdm g h hK hdu hne hs hgi;rw[e]at hr;subst hr;have hpl:=Tb.lG hl;have hi:i<es.size:=by rw[←hsz];exact(Array.getElem?_eq_some_iff.mp hpl).1
  have hmem:es[i]∈es.toList:=by simp
  obtain⟨b',k2,hy,hk2⟩:=hall _ hmem;have hes:es[i]?=some (es[i].1,.ref b'):=by rw[Array.getElem?_eq_getElem hi,←hy]
  have hst:∀y∈((es.filter λx=>x.1 == h).toList.map λx=>x.2),∃b' k',y=Value.ref b'/\IsTupleKey knd s.heap k' b':=λy hy=>by
   obtain⟨e0,he0,rfl⟩:=List.mem_map.mp hy;have he1:e0∈es.toList:=by have:=Array.mem_toList_iff.mp he0;exact Array.mem_toList_iff.mpr (Array.mem_filter.mp this).1
   obtain⟨b3,k3,h1,h2⟩:=hall e0 he1;exact⟨b3,k3,h1,h2⟩
  have eK:∀x,Tb.aK t (k'+1+x) (stand.getD (t.probeStart h))=Tb.aK t x (Tb.aK t (k'+1) (stand.getD (t.probeStart h))):=λx=>Tb.gQ t _ _ _;have again:k2≠k->wpAny (model P w) A (setSearchFrom a (.ref b) h true f (some (Tb.aK t (k'+1) (stand.getD (t.probeStart h))))) Q E s:=λhne2=>by
   have hlt:k'<K:=by
    rcases GW k' K with q|q
    ·exact q
    ·have:k'=K:=by omega
     subst this;rw[hs]at hl;cases hl;rw[hb0]at hes;cases hes;obtain⟨o1,i1,n1,z1,_,z2,z3⟩:=hk2;obtain⟨o2,i2,n2,y1,_,y2,y3⟩:=hkb0;rw[z1]at y1;cases y1;rw[z2]at y2;cases y2;exact absurd (z3.inj y3) hne2
   refine ih (K-(k'+1)) (by omega) f _ (by omega) (by omega) ?_ (λx hx=>?_) ?_
   ·show(Tb.aK t (k'+1) _).dummy=none;rw[Tb.jk];exact hdu
   ·show t.slot (Tb.aK t x (Tb.aK t (k'+1) _)).j≠_;rw[←eK];exact hne _ (by omega)
   ·show t.slot (Tb.aK t (K-(k'+1)) (Tb.aK t (k'+1) _)).j=_;rw[←eK,show k'+1+(K-(k'+1))=K by omega];exact hs
  have same:isSame (Value.ref b') (Value.ref b')=pure true:=by unfold isSame;simp
  have fin:wpAny (model P w) A (do
    let equal ←holding [Value.ref b'] (eqBool (.ref b') (.ref b));let (es',_,t') ←setState a
    if(true && equal)=true then return SetFound.there none
    let some same:=t'.sameMemory t.moves t.mask|unsupported "set.changed-during-lookup:is-the-new-block-at-the-old-address"
    let still ←match (if same=true then t'.slot (Tb.aK t k' (stand.getD (t.probeStart h))).j else .empty)with
     | .live i'=>match es'[i']? with
      | some (_,y')=>do pure (if ←isSame y' (.ref b')then some i' else none)
      | none=>pure none
     | _=>pure none
    match still with
    | none=>rule "set.search.anew";setSearchFrom a (.ref b) h true f none
    | some i'=>if equal=true then return .there (some i')else setSearchFrom a (.ref b) h true f (some (Tb.aK t (k'+1) (stand.getD (t.probeStart h))))) Q E s:=by
   refine F4 (wpAny_holding (wpAny_eqBool_tuple hu hk2 hk ?_));refine F4 (G0 ho hd hf ?_);dsimp only;by_cases hq:k2=k
   ·rw[Hd hq];simp only[Bool.and_self,if_true];exact F5 hQ
   ·rw[Hc hq];simp only[Bool.and_false,GV,if_false,hsm,if_true,hl,hes,same];exact F4 (F5 (F4 (F5 (again hq))))
  dsimp only;cases hled:t.led
  ·simp only[Bool.not_false,if_true];refine F4 (qM hk hst ?_);simp only[GV,if_false];rw[hes];exact fin
  ·simp only[Bool.not_true,GV,if_false];rw[hes];exact fin
def jP{h h':Heap}{a b:Addr}{k:List K}{o:Obj}{es:Array (Int×Value)}{ep:Nat}{t:SetTable}(hk:IsTupleKey knd h k b)(ho:h.get? a=some o)(hd:o.data=.set es ep t)(hs:Heap.SameBut a h h'):IsTupleKey knd h' k b:=by
 obtain⟨o',items,n,ho',hc,hd',hi⟩:=hk;have hne:b≠a:=by rintro rfl;rw[ho]at ho';cases ho';rw[hd]at hd';cases hd'
 exact⟨o',items,n,(hs.2 b hne).trans ho',hc,hd',hi⟩
def qI(n:Nat){v:Value}(h:∀b,v≠.ref b):∃c,hashByValue n v=pure c:=by
 cases v with
 | ref b=>exact absurd rfl (h b)
 | _=>exact⟨_,by cases n<;>unfold hashByValue<;>rfl⟩
def Bg{ks:List K}{b:Addr}{Q:Bool->Shared->Prop}(hk:IsTupleKey knd s.heap ks b)(h:∀c,Q c s):wpAny (model P w) A (hashByValue 8 (.ref b)) Q E s:=by
 have hT:=hk.typeIs;obtain⟨o,items,n,ho,hc,hd,hi⟩:=hk;unfold hashByValue;refine F4 (wpAny_specialOf hT F.slot_tuple_hash.lookup ?_);dsimp only;refine F4 (wpAny_seqItems ho hd ?_);dsimp only[Option.getD_some];refine F4 ?_;rw[←Array.forIn_toList];refine wpAny_forIn_list _ (λrest r s'=>(r.1=none\/∃c,r.1=some c)/\s'=s/\∀v∈rest,∀b,v≠.ref b) _ ?_ ?_ _ _ ⟨.inl rfl,rfl,pP hi⟩
 ·rintro v rest r s' ⟨hr,rfl,hall⟩;obtain⟨c,hc'⟩:=qI 7 (hall v Gh);rw[hc'];refine F4 (F5 ?_);cases c
  ·show wpAny _ _ (pure (ForInStep.done (some false,()))) _ _ _;exact F5 (F5 (h false))
  ·simp only[Bool.not_true,GV,if_false];exact F5 ⟨.inl rfl,rfl,λu hu=>hall u (Ge _ hu)⟩
 ·rintro⟨r1,r2⟩ s' ⟨hr,rfl,_⟩;simp only at hr;rcases hr with rfl|⟨c,rfl⟩
  ·exact F5 (h true)
  ·exact F5 (h c)
def Bz{α:Type}{es:Array α}{order:Array Nat}(h:order.toList.Perm (Hb es.size)):(order.filterMap (es[·]?)).size=es.size/\∀e∈(order.filterMap (es[·]?)).toList,e∈es.toList:=by
 have key:∀l:List Nat,(∀i∈l,i<es.size)->(l.filterMap (es[·]?)).length=l.length/\∀e∈l.filterMap (es[·]?),e∈es.toList:=by
  intro l;induction l with
  | nil=>intro _;exact⟨rfl,λe he=>by cases he⟩
  | cons x l ih=>
   intro hl;obtain⟨i1,i2⟩:=ih λi hi=>hl i (Ge _ hi);have hx:=hl x Gh;have e:(x::l).filterMap (es[·]?)=es[x]::l.filterMap (es[·]?):=by rw[List.filterMap_cons];simp[hx]
   rw[e];refine⟨by rw[GF,GF,i1],λy hy=>?_⟩;rcases Gq.mp hy with rfl|hy
   ·simp
   ·exact i2 y hy
 have hlt:∀i∈order.toList,i<es.size:=λi hi=>List.mem_range.mp (h.mem_iff.mp hi);obtain⟨k1,k2⟩:=key order.toList hlt;rw[Array.toList_filterMap];refine⟨?_,k2⟩;rw[←Gf,Array.toList_filterMap,k1,h.length_eq,List.length_range]
def zp{α:Type}{es:Array α}{order:Array Nat}(h:order.toList.Perm (Hb es.size)):(order.filterMap (es[·]?)).toList.Perm es.toList:=by
 rw[Array.toList_filterMap];have e:(Hb es.size).filterMap (es[·]?)=es.toList:=by
  apply List.ext_getElem?;intro n;have e0:es.toList[n]?=es[n]?:=Array.getElem?_toList;rw[e0,Tb.pC es _ (λi hi=>List.mem_range.mp hi)];by_cases hn:n<es.size
  ·rw[List.getElem?_range hn];rfl
  ·have e1:(Hb es.size)[n]?=none:=List.getElem?_eq_none (by rw[List.length_range];omega);rw[e1,Array.getElem?_eq_none (by omega)];rfl
 rw[←e];exact h.filterMap _
end
section
variable {P:Program} {w:World} {A:Around} {E:Value->Shared->Prop} {s:Shared}
def items_str{ks:List Key}{vs:List Value}(h:ItemsAre (aN P w) ks vs){x:Str}(hx:Sum.inr x∈ks):∃t,Value.str x t∈vs:=by
 induction h with
 | nil=>cases hx
 | @cons k v ks vs hk _ ih=>
  rcases Gq.mp hx with rfl|hx
  ·rcases eY (show gC (.inr x) v=true from hk)with⟨i,t,e,_⟩|⟨y,t,e,rfl⟩
   ·cases e
   ·cases e;exact⟨t,Gh⟩
  ·obtain⟨t,ht⟩:=ih hx;exact⟨t,Ge _ ht⟩
def zJ{ks:List Key}{b:Addr}{x:Str}{Q:Bool->Shared->Prop}(hk:IsTupleKey (aN P w) s.heap ks b)(hx:Sum.inr x∈ks)(h:Q false s):wpAny (model P w) A (hashByValue 8 (.ref b)) Q E s:=by
 have hT:=hk.typeIs;obtain⟨o,items,n,ho,hc,hd,hi⟩:=hk;unfold hashByValue;refine F4 (wpAny_specialOf hT F.slot_tuple_hash.lookup ?_);dsimp only;refine F4 (wpAny_seqItems ho hd ?_);dsimp only[Option.getD_some];refine F4 ?_;rw[←Array.forIn_toList];refine wpAny_forIn_list _ (λrest r s'=>r.1=none/\s'=s/\(∀v∈rest,∀b,v≠.ref b)/\∃t,Value.str x t∈rest) _ ?_ ?_ _ _ ⟨rfl,rfl,pP hi,items_str hi hx⟩
 ·rintro v rest r s' ⟨hr,rfl,hall,t,ht⟩;obtain⟨c,hc'⟩:=qI 7 (hall v Gh);rw[hc'];refine F4 (F5 ?_);cases c
  ·show wpAny _ _ (pure (ForInStep.done (some false,()))) _ _ _;exact F5 (F5 h)
  ·simp only[Bool.not_true,GV,if_false];refine F5 ⟨rfl,rfl,λu hu=>hall u (Ge _ hu),t,?_⟩;rcases Gq.mp ht with rfl|ht
   ·exact absurd hc' (λz=>by
     have:hashByValue 7 (Value.str x t)=pure false:=by unfold hashByValue;rfl
     rw[this]at z;injection z with z
     cases z)
   ·exact ht
 ·rintro⟨r1,r2⟩ s' ⟨hr,rfl,_,t,ht⟩;cases ht
def dM(P:Program)(w:World)(B:Addr->List Key->Prop)(h:Heap)(a:Addr)(ks:List (List Key)):Prop:=ks.Nodup ∧
 ∃o es ep t,h.get? a=some o/\o.ExactSet/\o.data=.set es ep t/\t.dummies = #[]/\Tb.Mask t.mask/\es.size*5<t.mask*3/\es.size=ks.length/\Tb.TOk t.mask t.place (es.map (·.1)) ∧
  (∀e∈es.toList,∃b k,e=(tupleKeyHash (aN P w) k,.ref b)/\k∈ks/\IsTupleKey (aN P w) h k b/\B b k)/\(∀k∈ks,∃b,(tupleKeyHash (aN P w) k,.ref b)∈es.toList/\IsTupleKey (aN P w) h k b)/\((∀k∈ks,∃x,Sum.inr x∈k)->ks=[]\/t.plain=false)
def Ec{B:Addr->List Key->Prop}{a:Addr}{o:Obj}{es es1:Array (Int×Value)}{ep n:Nat}{t t1:SetTable}{ks1:List (List Key)}{Q:Bool->Shared->Prop}(hnd:ks1.Nodup)(ho:s.heap.get? a=some o)(hex:o.ExactSet)(hd:o.data=.set es ep t)(hs1:es1.size=n+1)(hdm1:t1.dummies = #[])
  (hm1:Tb.Mask t1.mask) (hfull:n*5<t1.mask*3) (hn:n<1400) (hlen:ks1.length=n+1) (hT1:Tb.TOk t1.mask t1.place (es1.map (·.1))) (hall1:∀e∈es1.toList,∃b k,e=(tupleKeyHash (aN P w) k,.ref b)/\k∈ks1/\IsTupleKey (aN P w) s.heap k b/\B b k)
  (hin1:∀k∈ks1,∃b,(tupleKeyHash (aN P w) k,.ref b)∈es1.toList/\IsTupleKey (aN P w) s.heap k b) (hpl1:(∀k∈ks1,∃x,Sum.inr x∈k)->t1.plain=false)
  (h:∀h',Heap.SameBut a s.heap h'->dM P w B h' a ks1->Q true { s with heap:=h' }) :
  wpAny (model P w) A (do
   storeSet a es1 t1
   if(!false && t1.tooFull)=true then do
    setRelay a (SetTable.grown (n+1))
    pure true
   else pure true) Q E s:=by
 have hline:n+1<=sizeLine:=GI (show n+1<=10000 by omega) (by decide);have hp1:t1.place.size=es1.size:=by rw[hT1.len,Array.size_map]
 refine F4 (wpAny_storeSet_of ho hd ?_ (by omega));have ho1:(s.heap.update a (Obj.putSet es1 t1)).get? a=some { o with data:=.set es1 (ep+1) t1 }:=by have:=Heap.get?_update_self (Obj.putSet es1 t1) ho (by rw[putSet_of es1 t1 hd];rfl);rw[putSet_of es1 t1 hd]at this;exact this
 have hsb1:=Heap.SameBut.update s.heap a (Obj.putSet es1 t1);generalize s.heap.update a (Obj.putSet es1 t1)=h1 at ho1 hsb1;have hall2:∀e∈es1.toList,∃b k,e=(tupleKeyHash (aN P w) k,.ref b)/\k∈ks1/\IsTupleKey (aN P w) h1 k b/\B b k:=λe he=>by obtain⟨b,k,z1,z2,z3,z4⟩:=hall1 e he;exact⟨b,k,z1,z2,jP z3 ho hd hsb1,z4⟩
 have hin2:∀k∈ks1,∃b,(tupleKeyHash (aN P w) k,.ref b)∈es1.toList/\IsTupleKey (aN P w) h1 k b:=λk hk=>by obtain⟨b,z1,z2⟩:=hin1 k hk;exact⟨b,z1,jP z2 ho hd hsb1⟩
 have hfill:t1.fill=n+1:=by unfold SetTable.fill;rw[hdm1,hp1,hs1];rfl
 by_cases hq:t1.tooFull=true
 ·rw[hq];simp only[Bool.not_false,Bool.and_self,if_true];have hq':t1.mask*3<=(n+1)*5:=by unfold SetTable.tooFull at hq;rw[hfill]at hq;simpa using hq
  obtain⟨m,hm,hw,hmn,hlt⟩:∃m,Tb.Mask m/\SetTable.sizeAbove (SetTable.grown (n+1))-1=m/\n+1<=m/\(n+1)*5<m*3/\SetTable.sizeAbove (SetTable.grown (n+1))<=sizeLine:=by
   have hg:SetTable.grown (n+1)=(n+1)*4:=by unfold SetTable.grown;rw[He (by omega)]
   rw[hg];rcases hm1 with e|e|e|e|e|e<;>rw[e]at hfull hq'
   ·obtain rfl:n=4:=by omega
    exact⟨31,.inr (.inl rfl),Tb.Cf,by omega,by omega,by decide +kernel⟩
   ·obtain rfl:n=18:=by omega
    exact⟨127,.inr (.inr (.inl rfl)),Tb.Du,by omega,by omega,by decide +kernel⟩
   ·obtain rfl:n=76:=by omega
    exact⟨511,.inr (.inr (.inr (.inl rfl))),Tb.Be,by omega,by omega,by decide +kernel⟩
   ·obtain rfl:n=306:=by omega
    exact⟨2047,.inr (.inr (.inr (.inr (.inl rfl)))),Tb.By,by omega,by omega,by decide +kernel⟩
   ·obtain rfl:n=1228:=by omega
    exact⟨8191,.inr (.inr (.inr (.inr (.inr rfl)))),Tb.DD,by omega,by omega,by decide +kernel⟩
   ·omega
  have hfit1:t1.fits es1.size=true:=by simp only[SetTable.fits,GO,beq_iff_eq,decide_eq_true_eq];refine⟨hp1,?_⟩;rw[hfill];rcases hm1 with e|e|e|e|e|e<;>omega
  obtain⟨t2,order,hrel,hp2,hd2,hm2,hperm,_,hpl2,hT2⟩:=Tb.DU t1 (es:=es1) hm hw (by omega);obtain⟨r1,r2⟩:=Bz hperm;have r3:=zp hperm;refine F4 ?_;unfold setRelay;refine F4 (G0 (s:={ s with heap:=h1 }) ho1 rfl hfit1 ?_);dsimp only;rw[He (Nat.not_lt.mpr hlt.2),hrel];refine F4 ?_;show wpAny _ _ (do
   if(order.filterMap (es1[·]?)).size != es1.size then unsupported "internal:set-table-lost-an-element"
   pure (order.filterMap (es1[·]?),t2)) _ _ _
  rw[r1];simp only[bne_self_eq_false,GV,if_false];refine F5 ?_;dsimp only;refine wpAny_storeSet_of (s:={ s with heap:=h1 }) ho1 rfl ?_ (by rw[r1];omega);have ho2:(h1.update a (Obj.putSet (order.filterMap (es1[·]?)) t2)).get? a=some { o with data:=.set (order.filterMap (es1[·]?)) (ep+1+1) t2 }:=by have:=Heap.get?_update_self (Obj.putSet (order.filterMap (es1[·]?)) t2) ho1 (by rw[putSet_of _ _ (o:={ o with data:=.set es1 (ep+1) t1 }) rfl];rfl);rw[putSet_of _ _ (o:={ o with data:=.set es1 (ep+1) t1 }) rfl]at this;exact this
  have hsb2:=Heap.SameBut.update h1 a (Obj.putSet (order.filterMap (es1[·]?)) t2);refine F5 (h _ (hsb1.trans hsb2) ⟨hnd,_,_,_,t2,ho2,hex,rfl,hd2,by rw[hm2];exact hm,by rw[r1,hm2,hs1];exact hlt.1,by rw[r1,hs1,hlen],by rw[hm2];exact hT2,λe he=>?_,λk hk=>?_,λhx=>.inr (hpl2.trans (hpl1 hx))⟩)
  ·obtain⟨b,k,z1,z2,z3,z4⟩:=hall2 e (r2 e he);exact⟨b,k,z1,z2,jP z3 ho1 rfl hsb2,z4⟩
  ·obtain⟨b,z1,z2⟩:=hin2 k hk;exact⟨b,r3.mem_iff.mpr z1,jP z2 ho1 rfl hsb2⟩
 ·have hq0:t1.tooFull=false:=by simpa using hq
  rw[hq0];simp only[Bool.and_false,GV,if_false];have hq':(n+1)*5<t1.mask*3:=by unfold SetTable.tooFull at hq0;rw[hfill]at hq0;simpa using hq0
  exact F5 (h h1 hsb1 ⟨hnd,_,es1,_,t1,ho1,hex,rfl,hdm1,hm1,by rw[hs1];exact hq',by rw[hs1,hlen],hT1,hall2,hin2,λhx=>.inr (hpl1 hx)⟩)
def vL{α:Type}{xs:Array α}{p:Nat}{x e:α}(h:e=x\/e∈xs.toList):e∈(SetTable.insertAt xs p x).toList:=by
 rw[Tb.iE];rcases h with rfl|h
 ·exact GR _ Gh
 ·rw[←List.take_append_drop p xs.toList]at h;rcases Gz.mp h with a|a
  ·exact GS _ a
  ·exact GR _ (Ge _ a)
def ins_map{α β:Type}(f:α->β)(xs:Array α)(p:Nat)(x:α):(SetTable.insertAt xs p x).map f=SetTable.insertAt (xs.map f) p (f x):=by apply Array.toList_inj.mp;rw[Array.toList_map,Tb.iE,Tb.iE,Array.toList_map];simp
def Bt{B:Addr->List Key->Prop}{a b:Addr}{k:List Key}{ks:List (List Key)}{Q:Bool->Shared->Prop}(hu:A.units<cLine)(hk:IsTupleKey (aN P w) s.heap k b)(hB:B b k)(hS:dM P w B s.heap a ks)(hsz:ks.length<1400)
  (h:∀h' r ks',Heap.SameBut a s.heap h'->dM P w B h' a ks'->ks'.length<=ks.length+1->(∀x,x∈ks'↔x∈ks\/x=k)->Q r { s with heap:=h' }):wpAny (model P w) A (setAddHashed a (.ref b) (tupleKeyHash (aN P w) k)) Q E s:=by
 obtain⟨hnd,o,es,ep,t,ho,hex,hd,hdm,hm,hfull,hlen,hT,hall,hin,hpl⟩:=id hS;have hp:t.place.size=es.size:=by rw[hT.len,Array.size_map]
 have hle:es.size<=t.mask:=by omega
 have hf:t.fits es.size=true:=by simp only[SetTable.fits,GO,beq_iff_eq,decide_eq_true_eq];refine⟨hp,?_⟩;unfold SetTable.fill;rw[hdm,hp];simpa using hle
 have hturn:10*SetTable.turns t.mask<100000:=by unfold SetTable.turns;rcases hm with e|e|e|e|e|e<;>rw[e]<;>decide
 have hst:∀x,(Tb.aK t x (Option.getD none (t.probeStart (tupleKeyHash (aN P w) k)))).j=Tb.pm t.mask (tupleKeyHash (aN P w) k) x:=λx=>Tb.sU t _ x;unfold setAddHashed setAddHashedIn;refine wpAny_holding (F4 (G0 ho hd hf ?_));dsimp only;have hsc:byScan (.ref b) es=false:=rfl;rw[hsc];simp only[GV,if_false];unfold setSearch;rcases Classical.em (k∈ks)with hold|hold
 ·obtain⟨b0,hb0,hkb0⟩:=hin k hold;obtain⟨i0,hi0⟩:=GX hb0;rw[Array.getElem?_toList]at hi0;have hi0s:=(Array.getElem?_eq_some_iff.mp hi0).1;obtain⟨j0,hj0⟩:∃j0,t.place[i0]?=some j0:=⟨_,getElem?_pos t.place i0 (by omega)⟩;obtain⟨K,q1,q2,q3⟩:=hT.rch i0 j0 (tupleKeyHash (aN P w) k) hj0 (by rw[Array.getElem?_map,hi0];rfl);refine F4 (EW hu hk ho hd hf hm hdm (λe he=>?_) ⟨b0,hi0,hkb0⟩ ?_ K 100000 none (by omega) q1 rfl (λx hx=>?_) ?_)
  ·obtain⟨b',k',e1,_,e3,_⟩:=hall e he;exact⟨b',k',by rw[e1],e3⟩
  ·dsimp only;refine F5 ?_;have e:s={ s with heap:=s.heap }:=by cases s;rfl
   rw[e];exact h s.heap _ ks (Heap.SameBut.refl a s.heap) hS (Nat.le_succ _) λx=>⟨.inl,λz=>z.elim id λe=>e ▸ hold⟩
  ·rw[hst];obtain⟨i,e,_⟩:=Tb.wj hT.inc (q3 x hx);rw[e];intro z;cases z
  ·rw[hst,q2];exact Tb.slot_mem hT.inc hj0
 ·obtain⟨K,q1,q2,q3⟩:=Tb.DF hdm hm (by rw[hp];exact hle) (tupleKeyHash (aN P w) k);have hall':∀e∈es.toList,∃b' k',e.2=.ref b'/\IsTupleKey (aN P w) s.heap k' b'/\k'≠k:=λe he=>by obtain⟨b',k',h1,h2,h3,_⟩:=hall e he;exact⟨b',k',by rw[h1],h3,λz=>hold (z ▸ h2)⟩
  refine F4 (Bw hu hk ho hd hf hm hdm hall' K 100000 none (by omega) q1 rfl (λx hx=>by rw[hst];exact q3 x hx) (by rw[hst];exact q2) ?_);rw[hst];dsimp only;refine F4 (G0 ho hd hf ?_);dsimp only;have hnm:=Tb.Au hT.inc q2;have hTp:=hT.put q1 hnm (λx hx=>Tb.BM hdm (q3 x hx));have hput:(t.put (Tb.pm t.mask (tupleKeyHash (aN P w) k) K)).1.dummies = #[]:=by show(if SetTable.has t.dummies _=true then _ else t.dummies) = #[];rw[hdm,Tb.vQ];rfl
  generalize Tb.pm t.mask (tupleKeyHash (aN P w) k) K=j at hTp hput;have hT1:Tb.TOk t.mask (t.put j).1.place ((SetTable.insertAt es (t.put j).2 (tupleKeyHash (aN P w) k,Value.ref b)).map (·.1)):=by rw[ins_map];exact hTp
  have hins:∀e∈(SetTable.insertAt es (t.put j).2 (tupleKeyHash (aN P w) k,Value.ref b)).toList,∃b' k',e=(tupleKeyHash (aN P w) k',.ref b')/\k'∈k::ks/\IsTupleKey (aN P w) s.heap k' b'/\B b' k':=λe he=>by
   rcases Tb.FU he with rfl|he
   ·exact⟨b,k,rfl,Gh,hk,hB⟩
   ·obtain⟨b',k',z1,z2,z3,z4⟩:=hall e he;exact⟨b',k',z1,Ge _ z2,z3,z4⟩
  have hin':∀k'∈k::ks,∃b',(tupleKeyHash (aN P w) k',Value.ref b')∈(SetTable.insertAt es (t.put j).2 (tupleKeyHash (aN P w) k,Value.ref b)).toList/\IsTupleKey (aN P w) s.heap k' b':=λk' hk'=>by
   rcases Gq.mp hk' with rfl|hk'
   ·exact⟨b,vL (.inl rfl),hk⟩
   ·obtain⟨b',z1,z2⟩:=hin k' hk';exact⟨b',vL (.inr z1),z2⟩
  have hnd':(k::ks).Nodup:=List.nodup_cons.mpr ⟨hold,hnd⟩;have h':∀h',Heap.SameBut a s.heap h'->dM P w B h' a (k::ks)->Q true { s with heap:=h' }:=λh2 sb hS'=>h h2 true _ sb hS' (Gw _) λx=>by rw[Gq];exact⟨λz=>z.symm,λz=>z.symm⟩
  have fin:∀c:Bool,((∀k'∈k::ks,∃x,Sum.inr x∈k')->(t.put j).1.plain=false\/c=false)->wpAny (model P w) A (do
    storeSet a (SetTable.insertAt es (t.put j).2 (tupleKeyHash (aN P w) k,Value.ref b)) (if c=true then(t.put j).1 else{ (t.put j).1 with plain:=false })
    if(!false && (if c=true then(t.put j).1 else{ (t.put j).1 with plain:=false }).tooFull)=true then do
     setRelay a (SetTable.grown (es.size+1))
     pure true
    else pure true) Q E s:=λc hcp=>by
   refine Ec (ks1:=k::ks) hnd' ho hex hd (Tb.mW _ _ _) ?_ ?_ ?_ (by omega) (by rw[GF,hlen]) ?_ hins hin' ?_ h'
   ·cases c<;>exact hput
   ·cases c<;>exact hm
   ·cases c<;>exact hfull
   ·cases c<;>exact hT1
   ·intro hx;cases c
    ·rfl
    ·rcases hcp hx with z|z
     ·exact z
     ·cases z
  cases hpl':(t.put j).1.plain
  ·simp only[GV,if_false];exact F4 (F5 (fin true λ_=>.inl hpl'))
  ·simp only[if_true];rcases Classical.em (∃x,Sum.inr x∈k)with⟨x,hx⟩|hx
   ·exact F4 (zJ hk hx (fin false λ_=>.inr rfl))
   ·exact F4 (Bg hk λc=>fin c λhall=>absurd (hall k Gh) hx)
end
section
variable {P:Program} {w:World} {A:Around} {I:Addr} {fp wr:List Addr} {G:Array GenState->Array GenState->Prop} {n:Nat} {Pz:Nat->Value->Prop} {St:Nat->Shared->Prop}
def dM.moved{B:Addr->List Key->Prop}{h h':Heap}{a:Addr}{ks:List (List Key)}{wr:List Addr}(hS:dM P w B h a ks)(hk:∀b o,b∉wr->h.get? b=some o->h'.get? b=some o)(ha:a∉wr)(hw:∀b∈wr,∀o,h.get? b=some o->∃vs,o.data=.fields vs):dM P w B h' a ks:=by
 obtain⟨hnd,o,es,ep,t,ho,hex,hd,h1,h2,h3,h4,h5,hall,hin,hpl⟩:=hS;have mv:∀k b,IsTupleKey (aN P w) h k b->IsTupleKey (aN P w) h' k b:=λk b ⟨o',items,m,ho',hc,hd',hi⟩=>⟨o',items,m,hk b o' (λhb=>by obtain⟨vs,hv⟩:=hw b hb o' ho';rw[hd']at hv;cases hv) ho',hc,hd',hi⟩
 refine⟨hnd,o,es,ep,t,hk a o ha ho,hex,hd,h1,h2,h3,h4,h5,λe he=>?_,λk hk=>?_,hpl⟩
 ·obtain⟨b,k,z1,z2,z3,z4⟩:=hall e he;exact⟨b,k,z1,z2,mv k b z3,z4⟩
 ·obtain⟨b,z1,z2⟩:=hin k hk;exact⟨b,z1,mv k b z2⟩
def rW{B:Addr->List Key->Prop}(W:WalksS P w A.in1 I fp wr G n Pz St)(S:Addr)(hS:S∉fp)(hu:A.in1.units<cLine)(bs:List Addr)(kk:List (List Key))(hnk:kk.length=n)(hBk:∀(j:Nat) b k,bs[j]?=some b->kk[j]?=some k->B b k)(hsz:n<1400)
  (hval:∀i v,Pz i v->∃b,v=.ref b/\bs[i]?=some b) (hwr:∀i s,St i s->∀b∈wr,∀o,s.heap.get? b=some o->∃vs,o.data=.fields vs) {R:Result->Shared->Prop} :
  ∀(m i:Nat) (s:Shared) (D:List (List Key)),n-i=m->i<=n->St i s->dM P w B s.heap S D->D.length<=i->(∀k,k∈D↔k∈kk.take i)->(∀(j:Nat) (b:Addr) (k:List Key),bs[j]?=some b->kk[j]?=some k->IsTupleKey (aN P w) s.heap k b) →
   (∀s' D,Moved (S::wr) G s s'->dM P w B s'.heap S D->(∀k,k∈D↔k∈kk)->R (.ok (.ret .none)) s') →
   codeAny (model P w) A (.builtin "set.update.loop" ⟨[.ref S,.ref I],[]⟩) R s:=by
 have hSw:S∉wr:=λz=>hS (W.sub _ z);have more:∀b∈wr,b∈S::wr:=λb z=>Ge _ z;intro m;induction m with
 | zero=>
  intro i s D hm hi hst hset _ hD hkeys hR;obtain rfl:i=n:=by omega
  refine codeAny_builtin F.entry_set_update_loop ?_;rw[Around.under_plainId F.plain_set_update_loop _];show wpAny _ A.in1 (pyNext (.ref I) >>= _) _ _ s;refine F4 (W.done s _ _ hst λs' mv=>?_);rw[←hnk,GG]at hD;exact F5 (hR s' D (mv.mono more) (hset.moved mv.heap hSw (hwr _ s hst)) hD)
 | succ m ih=>
  intro i s D hm hi hst hset hDl hD hkeys hR;have hlt:i<n:=by omega
  refine codeAny_builtin F.entry_set_update_loop ?_;rw[Around.under_plainId F.plain_set_update_loop _];show wpAny _ A.in1 (pyNext (.ref I) >>= _) _ _ s;refine F4 (W.item i s _ _ hlt hst λv s' hP hst' mv=>?_);obtain⟨b,rfl,hb⟩:=hval i v hP;have hki:kk[i]?=some kk[i]:=Gb (by omega);have hset':=hset.moved mv.heap hSw (hwr _ s hst);have hkeys':∀(j:Nat) (b:Addr) (k:List Key),bs[j]?=some b->kk[j]?=some k->IsTupleKey (aN P w) s'.heap k b:=λj b k e1 e2=>by obtain⟨o',items,q,ho',hc,hd',hi'⟩:=hkeys j b k e1 e2;refine⟨o',items,q,mv.heap b o' (λhbw=>?_) ho',hc,hd',hi'⟩;obtain⟨vs,hv⟩:=hwr _ s hst b hbw o' ho';rw[hd']at hv;cases hv
  show wpAny _ A.in1 (holding [Value.ref b] (setAdd S (.ref b)) >>= _) _ _ s';refine F4 (wpAny_holding ?_);unfold setAdd;refine wpAny_holding (F4 (wpAny_pyHash_tuple hu (hkeys' i b _ hb hki) ?_));refine Bt (s:={ s' with toks:=s'.toks+(kk[i].length+1) }) hu (hkeys' i b _ hb hki) (hBk i b _ hb hki) hset' (by omega) λh' r D1 sb hset2 hD1l hD1=>?_;have htk:∀k,k∈D1↔k∈kk.take (i+1):=λk=>by rw[hD1,hD k,List.take_add_one,hki,Gz];simp
  obtain⟨_,oS,esS,epS,tS,hoS,_,hdS,_⟩:=id hset';refine F5 ⟨plainId_quiet F.plain_set_update_loop _,ih (i+1) _ _ (by omega) hlt (W.frame _ s' _ _ hst' (Nat.le_add_right _ _) λc hc o e=>?_) hset2 (by omega) htk (λj c k e1 e2=>jP (hkeys' j c k e1 e2) hoS hdS sb) λs'' D2 mv2 hS2=>?_⟩
  ·rw[sb.2 c (λz:c=S=>hS (z ▸ hc))];exact e
  ·refine hR s'' D2 (Moved.trans W.gtrans ((mv.mono more).then_heap (Nat.le_add_right _ _) λc o hc e=>?_) mv2) hS2;rw[sb.2 c (λz:c=S=>hc (by rw[z];exact Gh))];exact e
end
section
variable {P:Program} {w:World} {A:Around} {E:Value->Shared->Prop} {s:Shared}
abbrev cF(led:Bool):Obj:={ cls:=.type "set",dict:=none,data:=.set #[] 0 (.fresh 0 0 led) }
def iZ(P:Program)(w:World)(s:Shared)(bs:List Addr)(kk D:List (List Key))(h':Heap):Prop:=
 dM P w (λb k=>∃j:Nat,bs[j]?=some b/\kk[j]?=some k) h' s.heap.objs.size D/\(∀k,k∈D↔k∈kk)/\∀b o,b<s.heap.objs.size->s.heap.get? b=some o->h'.get? b=some o
def Ff:isSubtype (.type "tuple") (.type "frozenset")=pure false:=by
 rw[isSubtype_type]
 kernel_rfl
def FQ{t:Addr}{ys:Array Value}{bs:List Addr}{kk:List (List Key)}{Q:Value->Shared->Prop}(hA:A.handled=none)(hu:A.units+5<cLine)(gt:s.heap.IsTuple t ys)(hb:ys.toList=bs.map Value.ref)
  (hn:kk.length=ys.size) (hz:ys.size<1400) (hkey:∀(j:Nat) (b:Addr) (k:List Key),bs[j]?=some b->kk[j]?=some k->IsTupleKey (aN P w) s.heap k b)
  (h:∀(h':Heap) (tk:Nat) (D:List (List Key)),iZ P w s bs kk D h'->Q (.ref s.heap.objs.size) { s with heap:=h',toks:=tk }):wpAny (model P w) A (call (.type "set") [.ref t]) Q E s:=by
 have x1:=F.called_set.notType;have x2:=F.called_set.canCreate;have x3:=F.typeCall_set_1 (.ref t);have x4:=F.called_set.made;have x5:=F.called_set.sub;obtain⟨c,tl,x6⟩:=F.called_set.mro;refine wpAny_call (codeAny_of_tree ?_);show wpAny _ _ (callAny (.type "set") _) _ _ _;refine F5 ⟨Code.quiet_builtin _ (by decide +kernel),codeAny_builtin F.entry_type_call ?_⟩;rw[Around.under_plain (weight_type_call_type "set" [.ref t] []) rfl]
 repeat (any_goals (first|assumption|wp_step))
 refine codeAny_mono (code_set_new_1 (.ref t) (E:=E) (Q₁:=λv s1=>∃led,v=.ref s.heap.objs.size/\s1={ s with heap:=s.heap.push (cF led) }) λled=>⟨led,rfl,rfl⟩) λr s1 hr=>?_;cases r with
 | error e=>exact hr
 | ok fl=>
  cases fl with
  | ret v=>
   obtain⟨led,rfl,rfl⟩:=hr;have gS:(s.heap.push (cF led)).get? s.heap.objs.size=some (cF led):=F8 _ rfl;have hT:Shared.TypeIs { s with heap:=s.heap.push (cF led) } (.ref s.heap.objs.size) "set":=⟨_,gS,rfl⟩;have x7:=F.called_set.init.lookup;have x8:=F.called_set.init.bind (.ref s.heap.objs.size)
   repeat (any_goals (first|assumption|wp_step))
   refine codeAny_mono (codeAny_call_builtin (R:=wants (λr s2=>r=.none/\∃h' tk D,s2={ s with heap:=h',toks:=tk }/\iZ P w s bs kk D h') E) F.called_set.init.plain F.entry_set_init (check_set_init_1 hT ?_)) λr2 s2 hr2=>?_
   ·have g1:(s.heap.push (cF led)).IsTuple t ys:=gt.push _;have hlt:t<s.heap.objs.size:=by obtain⟨o,ho,_⟩:=gt;exact F9 ho
    obtain⟨ol,hol,hcl,nl,hdl⟩:=id g1;obtain⟨c0,d0,dt,sl⟩:=ol;simp only at hcl hdl;subst hcl hdl;have y1:=F.sub_tuple_set;have y2:=Ff;have y3:(Value.type "tuple" == Value.type "dict")=false:=by decide
    unfold Builtin.«set.__init__» noKeywords Builtin.Frozenset.updateFrom;generalize hit:pyIter=PI
    wp_walk
    subst hit;refine wpAny_pyIter_tuple g1 ?_;refine F4 (wpAny_runValue ?_);have e1:(s.heap.push (cF led)).objs.size=s.heap.objs.size+1:=Heap.size_push _ _;have hA3:A.in1.in1.in1.handled=none:=by simp[hA]
    have hne:t≠(s.heap.push (cF led)).objs.size:=by rw[e1];exact Gv (Nat.lt_succ_of_lt hlt)
    have hSf:s.heap.objs.size∉[(s.heap.push (cF led)).objs.size,t]:=by
     intro z;rcases Gq.mp z with z|z
     ·rw[e1]at z;exact Gv (Nat.lt_succ_self _) z
     ·exact Nat.ne_of_gt hlt (Gm.mp z)
    have hbs:∀i:Nat,ys[i]?=(bs[i]?).map Value.ref:=λi=>by rw[←Array.getElem?_toList,hb,Gd]
    refine rW (B:=λb k=>∃j:Nat,bs[j]?=some b/\kk[j]?=some k) ((Walks.tuple hA3 _ t hne ys).toS) s.heap.objs.size hSf (by simp only[Around.in1_units];omega) bs kk hn (λj b k q1 q2=>⟨j,q1,q2⟩) hz (λi v hv=>?_) (λi s' hs b hb' o ho=>?_) (ys.size-0) 0 _ [] (by omega) (Nat.zero_le _) ⟨⟨_,F8 _ rfl,rfl,rfl⟩,g1.push _⟩ ⟨List.nodup_nil,cF led,#[],0,_,F7 _ gS,⟨rfl,rfl,rfl⟩,rfl,rfl,.inl rfl,(show 0*5<7*3 by decide),rfl,(by rw[Array.map_empty];exact Tb.TOk.nil 7),λe he=>(by simp at he),λk hk=>(by cases hk),λ_=>.inl rfl⟩ (Gw _) (λk=>by simp) (λj b k e1 e2=>?_) λs' D mv hS' hD=>?_
    ·have hv':ys[i]?=some v:=hv;rw[hbs i]at hv';obtain⟨b,e,rfl⟩:=Gn.mp hv';exact⟨b,rfl,e⟩
    ·cases Gm.mp hb';obtain⟨o',ho',_,hd'⟩:=hs.1;rw[ho']at ho;cases ho;exact⟨_,hd'⟩
    ·obtain⟨o,items,q,ho,r⟩:=hkey j b k e1 e2;exact⟨o,items,q,F7 _ (F7 _ ho),r⟩
    ·obtain⟨h',g',d',tk',os'⟩:=s';have q1:g'=s.gens:=mv.gens;have q2:d'=s.drawn:=mv.drawn;have q3:os'=s.os:=mv.os;subst q1 q2 q3;show wpAny _ _ _ _ _ _;refine F5 ?_;show wpAny _ _ (ret Value.none) _ _ _;refine F5 ⟨rfl,h',tk',D,rfl,hS',hD,λb o hb e=>mv.heap b o (λz=>?_) (F7 _ (F7 _ e))⟩;rcases Gq.mp z with z|z
     ·exact Gv hb z
     ·have z:=Gm.mp z;rw[e1]at z;exact Gv (Nat.lt_succ_of_lt hb) z
   ·cases r2 with
    | error e=>exact hr2
    | ok f2=>
     cases f2 with
     | ret r=>
      obtain⟨rfl,h',tk,D,rfl,hS'⟩:=hr2
      repeat (any_goals (first|assumption|wp_step))
      exact h _ _ D hS'
     | _=>exact hr2.elim
  | _=>exact hr.elim
def zR{t:Addr}{ys:Array Value}{bs:List Addr}{kk:List (List Key)}{Q:Value->Shared->Prop}(hA:A.handled=none)(hu:A.units+5<cLine)(gt:s.heap.IsList t ys)(hb:ys.toList=bs.map Value.ref)
  (hn:kk.length=ys.size) (hz:ys.size<1400) (hkey:∀(j:Nat) (b:Addr) (k:List Key),bs[j]?=some b->kk[j]?=some k->IsTupleKey (aN P w) s.heap k b)
  (h:∀(h':Heap) (tk:Nat) (D:List (List Key)),iZ P w s bs kk D h'->Q (.ref s.heap.objs.size) { s with heap:=h',toks:=tk }):wpAny (model P w) A (call (.type "set") [.ref t]) Q E s:=by
 have x1:=F.called_set.notType;have x2:=F.called_set.canCreate;have x3:=F.typeCall_set_1 (.ref t);have x4:=F.called_set.made;have x5:=F.called_set.sub;obtain⟨c,tl,x6⟩:=F.called_set.mro;refine wpAny_call (codeAny_of_tree ?_);show wpAny _ _ (callAny (.type "set") _) _ _ _;refine F5 ⟨Code.quiet_builtin _ (by decide +kernel),codeAny_builtin F.entry_type_call ?_⟩;rw[Around.under_plain (weight_type_call_type "set" [.ref t] []) rfl]
 repeat (any_goals (first|assumption|wp_step))
 refine codeAny_mono (code_set_new_1 (.ref t) (E:=E) (Q₁:=λv s1=>∃led,v=.ref s.heap.objs.size/\s1={ s with heap:=s.heap.push (cF led) }) λled=>⟨led,rfl,rfl⟩) λr s1 hr=>?_;cases r with
 | error e=>exact hr
 | ok fl=>
  cases fl with
  | ret v=>
   obtain⟨led,rfl,rfl⟩:=hr;have gS:(s.heap.push (cF led)).get? s.heap.objs.size=some (cF led):=F8 _ rfl;have hT:Shared.TypeIs { s with heap:=s.heap.push (cF led) } (.ref s.heap.objs.size) "set":=⟨_,gS,rfl⟩;have x7:=F.called_set.init.lookup;have x8:=F.called_set.init.bind (.ref s.heap.objs.size)
   repeat (any_goals (first|assumption|wp_step))
   refine codeAny_mono (codeAny_call_builtin (R:=wants (λr s2=>r=.none/\∃h' tk D,s2={ s with heap:=h',toks:=tk }/\iZ P w s bs kk D h') E) F.called_set.init.plain F.entry_set_init (check_set_init_1 hT ?_)) λr2 s2 hr2=>?_
   ·have g1:(s.heap.push (cF led)).IsList t ys:=gt.push _;have hlt:t<s.heap.objs.size:=by obtain⟨o,ho,_⟩:=gt;exact F9 ho
    obtain⟨ol,hol,hcl,nl,hdl⟩:=id g1;obtain⟨c0,d0,dt,sl⟩:=ol;simp only at hcl hdl;subst hcl hdl;have y1:=F.sub_list_set;have y2:=F.sub_list_frozenset;have y3:(Value.type "list" == Value.type "dict")=false:=by decide
    unfold Builtin.«set.__init__» noKeywords Builtin.Frozenset.updateFrom;generalize hit:pyIter=PI
    wp_walk
    subst hit;refine wpAny_pyIter_list g1 ?_;refine F4 (wpAny_runValue ?_);have e1:(s.heap.push (cF led)).objs.size=s.heap.objs.size+1:=Heap.size_push _ _;have hA3:A.in1.in1.in1.handled=none:=by simp[hA]
    have hne:t≠(s.heap.push (cF led)).objs.size:=by rw[e1];exact Gv (Nat.lt_succ_of_lt hlt)
    have hSf:s.heap.objs.size∉[(s.heap.push (cF led)).objs.size,t]:=by
     intro z;rcases Gq.mp z with z|z
     ·rw[e1]at z;exact Gv (Nat.lt_succ_self _) z
     ·exact Nat.ne_of_gt hlt (Gm.mp z)
    have hbs:∀i:Nat,ys[i]?=(bs[i]?).map Value.ref:=λi=>by rw[←Array.getElem?_toList,hb,Gd]
    refine rW (B:=λb k=>∃j:Nat,bs[j]?=some b/\kk[j]?=some k) ((Walks.list hA3 _ t hne ys).toS) s.heap.objs.size hSf (by simp only[Around.in1_units];omega) bs kk hn (λj b k q1 q2=>⟨j,q1,q2⟩) hz (λi v hv=>?_) (λi s' hs b hb' o ho=>?_) (ys.size-0) 0 _ [] (by omega) (Nat.zero_le _) ⟨⟨_,F8 _ rfl,rfl,rfl⟩,g1.push _⟩ ⟨List.nodup_nil,cF led,#[],0,_,F7 _ gS,⟨rfl,rfl,rfl⟩,rfl,rfl,.inl rfl,(show 0*5<7*3 by decide),rfl,(by rw[Array.map_empty];exact Tb.TOk.nil 7),λe he=>(by simp at he),λk hk=>(by cases hk),λ_=>.inl rfl⟩ (Gw _) (λk=>by simp) (λj b k e1 e2=>?_) λs' D mv hS' hD=>?_
    ·have hv':ys[i]?=some v:=hv;rw[hbs i]at hv';obtain⟨b,e,rfl⟩:=Gn.mp hv';exact⟨b,rfl,e⟩
    ·cases Gm.mp hb';obtain⟨o',ho',_,hd'⟩:=hs.1;rw[ho']at ho;cases ho;exact⟨_,hd'⟩
    ·obtain⟨o,items,q,ho,r⟩:=hkey j b k e1 e2;exact⟨o,items,q,F7 _ (F7 _ ho),r⟩
    ·obtain⟨h',g',d',tk',os'⟩:=s';have q1:g'=s.gens:=mv.gens;have q2:d'=s.drawn:=mv.drawn;have q3:os'=s.os:=mv.os;subst q1 q2 q3;show wpAny _ _ _ _ _ _;refine F5 ?_;show wpAny _ _ (ret Value.none) _ _ _;refine F5 ⟨rfl,h',tk',D,rfl,hS',hD,λb o hb e=>mv.heap b o (λz=>?_) (F7 _ (F7 _ e))⟩;rcases Gq.mp z with z|z
     ·exact Gv hb z
     ·have z:=Gm.mp z;rw[e1]at z;exact Gv (Nat.lt_succ_of_lt hb) z
   ·cases r2 with
    | error e=>exact hr2
    | ok f2=>
     cases f2 with
     | ret r=>
      obtain⟨rfl,h',tk,D,rfl,hS'⟩:=hr2
      repeat (any_goals (first|assumption|wp_step))
      exact h _ _ D hS'
     | _=>exact hr2.elim
  | _=>exact hr.elim
end
namespace SF
end SF
section
variable {P:Program} {w:World} {A:Around} {E:Value->Shared->Prop} {s:Shared}
end
end L2
namespace PyProof.Rows
open PySem
section
variable {prog:Program} {w:World} {A:Around} {E:Value->Shared->Prop} {s:Shared} {κ:SortKind} {X:Keyed->Prop}
end
end PyProof.Rows
namespace L2
open PySem PySem.Spec PyProof.Rows
section
variable {P:Program} {w:World} {A:Around} {E:Value->Shared->Prop} {s:Shared}
open Classical in
def qH{α:Type}{D ds:List α}(hd:D.Nodup)(hs:∀k∈D,k∈ds)(hl:ds.length=D.length):ds.Perm D:=by
 induction D generalizing ds with
 | nil=>
  rw[List.length_nil,List.length_eq_zero_iff]at hl;subst hl;exact .refl _
 | cons d D ih=>
  have hm:=hs d Gh;have p1:=List.perm_cons_erase hm;have hd':=List.nodup_cons.mp hd;refine p1.trans ((ih hd'.2 (λk hk=>?_) ?_).cons d)
  ·refine(List.mem_erase_of_ne ?_).mpr (hs k (Ge _ hk));rintro rfl;exact hd'.1 hk
  ·rw[List.length_erase_of_mem hm,hl];rfl
def key_inj{h:Heap}{b:Addr}{k1 k2:List Key}(h1:IsTupleKey (aN P w) h k1 b)(h2:IsTupleKey (aN P w) h k2 b):k1=k2:=by obtain⟨o1,i1,n1,z1,_,z2,z3⟩:=h1;obtain⟨o2,i2,n2,y1,_,y2,y3⟩:=h2;rw[z1]at y1;cases y1;rw[z2]at y2;cases y2;exact z3.inj y3
end
abbrev uS(P:Program)(w:World)(x:Addr×List Key):Int×Value:=(tupleKeyHash (aN P w) x.2,.ref x.1)
def kD(P:Program)(w:World)(h:Heap)(a:Addr)(L:List (Addr×List Key)):Prop:=∃o es ep t,h.get? a=some o/\o.ExactSet/\o.data=.set es ep t/\t.dummies = #[]/\Tb.Mask t.mask/\es.size*5<t.mask*3/\Tb.TOk t.mask t.place (es.map (·.1))/\es.toList=L.map (uS P w)/\((∀x∈L,∃z,Sum.inr z∈x.2)->L=[]\/t.plain=false)
def kF(P:Program)(w:World)(a:Addr)(L:List (Addr×List Key)):HO:=.ext λh=>kD P w h a L
section
variable {P:Program} {w:World}
def tj{h:Heap}{B:Addr->List Key->Prop}{D:List (List Key)}:∀{es:List (Int×Value)},(∀e∈es,∃b k,e=(tupleKeyHash (aN P w) k,Value.ref b)/\k∈D/\IsTupleKey (aN P w) h k b/\B b k)->∃L:List (Addr×List Key),es=L.map (uS P w)/\∀x∈L,x.2∈D/\IsTupleKey (aN P w) h x.2 x.1/\B x.1 x.2
 | [],_=>⟨[],rfl,λx hx=>by cases hx⟩
 | e::es,hall=>by
  obtain⟨L,h1,h2⟩:=tj (es:=es) λx hx=>hall x (Ge _ hx);obtain⟨b,k,rfl,hk,hkb,hBb⟩:=hall e Gh;refine⟨(b,k)::L,by rw[h1];rfl,λx hx=>?_⟩;rcases Gq.mp hx with rfl|hx
  ·exact⟨hk,hkb,hBb⟩
  ·exact h2 x hx
def dM.obj{B:Addr->List Key->Prop}{h:Heap}{a:Addr}{D:List (List Key)}(hS:dM P w B h a D):∃L,kD P w h a L/\(L.map (·.2)).Perm D/\∀x∈L,B x.1 x.2:=by
 obtain⟨hnd,o,es,ep,t,ho,hex,hd,hdm,hm,hfull,hlen,hT,hall,hin,hpl⟩:=hS;obtain⟨L,h1,h2⟩:=tj hall;have hl:L.length=D.length:=by rw[←hlen,←Gf,h1,Ga]
 refine⟨L,⟨o,es,ep,t,ho,hex,hd,hdm,hm,hfull,hT,h1,λhx=>?_⟩,qH hnd (λk hk=>?_) (by rw[Ga,hl]),λx hx=>(h2 x hx).2.2⟩
 ·have hx':∀k∈D,∃z,Sum.inr z∈k:=λk hk=>by obtain⟨b,hb,hkb⟩:=hin k hk;rw[h1]at hb;obtain⟨x,hx',e⟩:=List.mem_map.mp hb;have e2:Value.ref x.1=Value.ref b:=congrArg Prod.snd e;cases e2;rw[key_inj hkb (h2 x hx').2.1];exact hx x hx'
  rcases hpl hx' with e|e
  ·subst e;rw[List.length_nil,List.length_eq_zero_iff]at hl;exact .inl hl
  ·exact .inr e
 ·obtain⟨b,hb,hkb⟩:=hin k hk;rw[h1]at hb;obtain⟨x,hx',e⟩:=List.mem_map.mp hb;have e2:Value.ref x.1=Value.ref b:=congrArg Prod.snd e;cases e2;rw[key_inj hkb (h2 x hx').2.1];exact List.mem_map.mpr ⟨x,hx',rfl⟩
def E5{H:Hp}{h:Heap}{a:Addr}{L:List (Addr×List Key)}(S:kD P w h a L):bp P w H h a (kF P w a L):=by
 refine⟨S,?_,λh1 h2 z k=>?_⟩
 ·obtain⟨o,es,ep,t,ho,_⟩:=S;exact⟨o,ho⟩
 ·obtain⟨o',es',ep',t',ho',r⟩:=z;exact⟨o',es',ep',t',k _ ho',r⟩
end
section
variable {X:Cx} {pins:List (Addr×Obj)} {σ:St} {H:Hp} {s:Shared}
def nv:∀{bs:List Addr} {us:List Value},Vals (bs.map V.ref) us->us=bs.map Value.ref
 | [],_,.nil=>rfl
 | b::bs,_,.cons r t=>by rw[List.map_cons,←nv (bs:=bs) t];exact congrArg (· :: _) r
def Cu(I:Inv X pins σ H s){b:Addr}{k:List Key}(e:H b=some (.tup (k.map kV))):IsTupleKey (aN X.prog X.w) s.heap k b:=by obtain⟨_,is,rk,o,ho,hc,n,hd⟩:=I.hok b _ e;exact⟨o,_,n,ho,hc,hd,lL rk⟩
def jf(H:Hp)(bs:List Addr)(kk:List (List Key)):Prop:=bs.length=kk.length/\∀(j:Nat) (b:Addr) (k:List Key),bs[j]?=some b->kk[j]?=some k->H b=some (.tup (k.map kV))
def jf.ext{H H':Hp}{bs:List Addr}{kk:List (List Key)}(e:Ext H H')(h:jf H bs kk):jf H' bs kk:=⟨h.1,λj b k e1 e2=>e _ _ (h.2 j b k e1 e2)⟩
end
section
variable {X:Cx}
def Dp(P:Program)(w:World):List V->Hp->VK->Prop:=λxs H Q=>∃p bs kk,xs=[.ref p]/\(H p=some (.tup (bs.map V.ref))\/H p=some (.lst (bs.map V.ref)))/\jf H bs kk/\kk.length<1400 ∧
 ∀l L,H l=none->(L.map Prod.snd).Nodup->(∀k,k∈L.map Prod.snd↔k∈kk)->(∀x∈L,H x.1=some (.tup (x.2.map kV)))->Q (.ref l) (upd H l (kF P w l L))
def BI{k:Nat}(hr:Room k X.A):b7 X (.type "set") (Dp X.prog X.w):=by
 intro pins s σ H xs us Q I r h;obtain⟨p,bs,kk,rfl,hp,⟨h2,h3⟩,hz,q⟩:=h;obtain⟨u,rfl,rx⟩:=vals1 r;cases rx;have hu:=hr.units;have hA:=hr.hd;have keys:∀(j:Nat) (b:Addr) (k:List Key),bs[j]?=some b->kk[j]?=some k->IsTupleKey (aN X.prog X.w) s.heap k b:=λj b k e1 e2=>Cu I (h3 j b k e1 e2);have fin:∀(h':Heap) (tk:Nat) (D:List (List Key)),iZ X.prog X.w s bs kk D h'->∃v H',Inv X pins σ H' { s with heap:=h',toks:=tk }/\RelV v (.ref s.heap.objs.size)/\Q v H':=λh' tk D hm=>by obtain⟨hS,hD,hk⟩:=hm;obtain⟨L,hO,hLp,hLB⟩:=hS.obj;have hfr:=I.hok.fresh (Gw _);refine⟨.ref s.heap.objs.size,_,I.laid (t':=tk) (λb o e=>hk b o (F9 e) e) (Gw _) (E5 hO),rfl,q _ L hfr (hLp.nodup_iff.mpr hS.1) (λk=>(hLp.mem_iff.trans (hD k))) λx hx=>?_⟩;obtain⟨j,e1,e2⟩:=hLB x hx;exact h3 j _ _ e1 e2
 rcases hp with hp|hp
 ·obtain⟨_,its,rv,gt⟩:=I.hok p _ hp;have ei:=nv rv;subst ei;refine FQ (kk:=kk) (bs:=bs) hA (by omega) (show s.heap.IsTuple p _ from gt) rfl (by simp[h2]) (by simp[h2];exact hz) keys fin
 ·obtain⟨_,its,n,rv,gt⟩:=I.hok p _ hp;have ei:=nv rv;subst ei;refine zR (kk:=kk) (bs:=bs) hA (by omega) (show s.heap.IsList p _ from⟨_,gt,rfl,n,rfl⟩) rfl (by simp[h2]) (by simp[h2];exact hz) keys fin
def y6(P:Program)(w:World):List V->Hp->VK->Prop:=λxs H Q=>∃p L,xs=[.ref p]/\H p=some (kF P w p L)/\L.length<1400/\Q (.int L.length) H
def Cj:b7 X (.builtin "len") (y6 X.prog X.w):=by
 intro pins s σ H xs us Q I r h;obtain⟨p,L,rfl,hp,hn,q⟩:=h;obtain⟨u,rfl,rx⟩:=vals1 r;cases rx;obtain⟨⟨o,es,ep,t,ho,hex,hd,hdm,hm,hfull,hT,hel,_⟩,_⟩:=I.hok p _ hp;have hpl:t.place.size=es.size:=by rw[hT.len,Array.size_map]
 have hs:es.size=L.length:=by rw[←Gf,hel,Ga]
 have hf:t.fits es.size=true:=by
  simp only[SetTable.fits,GO,beq_iff_eq,decide_eq_true_eq];refine⟨hpl,?_⟩;unfold SetTable.fill;rw[hdm,hpl];have:es.size<=t.mask:=by omega
  simpa using this
 refine call_len_set ho hex hd hf (by omega) ⟨.int L.length,H,I.tok _,⟨s.toks+1,by rw[hs]⟩,q⟩
end
section
variable {X:Cx} {pins:List (Addr×Obj)} {σ:St} {H:Hp} {s:Shared}
def Inv.turnedNew{h':Heap}{L:List Addr}{o:HO}{t':Nat}(I:Inv X pins σ H s)(k:∀b u,b∉L->s.heap.get? b=some u->h'.get? b=some u)(f:∀b∈L,cN X pins H b)
  (new:bp X.prog X.w (upd H s.heap.objs.size o) h' s.heap.objs.size o):Inv X pins σ (upd H s.heap.objs.size o) { s with heap:=h',toks:=t' }:=by
 have hn:H s.heap.objs.size=none:=I.hok.fresh (Gw _);have nin:∀b u,H b=some u->b∉L:=λb u e z=>by rw[(f b z).1]at e;cases e
 have up:∀b u,H b=some u->upd H s.heap.objs.size o b=some u:=λb u e=>by rw[az (bW e hn)];exact e
 refine I.step (g':=s.gens) (d':=s.drawn) (ch:=L) (λb hb=>?_) (λb u _ _ hc e _=>k b u hc e) (λb u _ _ hc e _=>⟨u.slots,k b u hc e⟩) (λb u _ e n=>?_) (λb u hc e=>⟨u,k b u hc e⟩) (λb xs e=>up b _ e) (λb u v e=>up b _ e) (λb ps e=>⟨#[],by rw[up b _ e];simp⟩) (λm hm=>?_) (λb u e=>?_) I.bare
 ·obtain⟨f0,f1,f2,f3,f4,f5⟩:=f b hb;exact⟨f3,f1,f4,f5⟩
 ·rw[az (Gv (F9 e))];exact n
 ·obtain⟨u,es,ep,hu,r⟩:=hm;exact⟨u,es,ep,k _ u (λz=>(f _ z).2.1 rfl) hu,r⟩
 ·by_cases hb:b=s.heap.objs.size
  ·subst hb;rw[aO]at e;cases e;exact new
  ·rw[az hb]at e;refine(I.hok b u e).stay (λc v hc q=>k c v ?_ q) (λc q=>up c _ q) λc xs q=>up c _ q;rcases hc with z|z
   ·rw[z];exact nin b u e
   ·exact nin c _ z
end
def Fz{P:Program}{w:World}{A:Around}(hA:A.handled=none)(it t:Addr)(ne:t≠it)(ys:Array Value):Draws P w A it [it,t] ys.size (λi v=>ys[i]?=some v) (λi h=>h.IsTupleIter it t i/\h.IsTuple t ys) where
 live:=λi h st=>by obtain⟨⟨o,ho,_⟩,_⟩:=st;exact⟨o,ho⟩
 frame:=λi h h' st k=>by obtain⟨⟨o,ho,r⟩,⟨u,hu,q⟩⟩:=st;exact⟨⟨o,k it (by simp) o ho,r⟩,⟨u,k t (by simp) u hu,q⟩⟩
 item:=λi s Q E hi st hQ=>AR st.1 st.2 (x:=ys[i]) (by simp[hi]) λh' gi sb=>hQ _ h' s.toks (by simp[hi]) ⟨gi,by obtain⟨u,hu,q⟩:=st.2;exact⟨u,(sb.2 t ne).trans hu,q⟩⟩ sb
 done:=λs Q E st hE=>uj hA st.1 st.2 (by simp) hE
abbrev kA(h:Heap)(a:Addr):Heap:=h.push { cls:=.type "tuple_iterator",data:=.fields #[.ref a,.int 0 0] }
abbrev pL(h:Heap)(a:Addr):Heap:=(kA h a).push { cls:=.type "enumerate",data:=.fields #[.none,.bool false,.ref h.objs.size,rawInt 0,.none,.none] }
open AutoSeq1 (wpAny_loadPart')in
def Fd(a:Addr)(ys:Array Value)(ob:Obj):Meets (Builtin.«enumerate.__new__» ⟨[.type "enumerate",.ref a],[]⟩) (λ_ R s=>s.heap.get? a=some ob/\s.heap.IsTuple a ys/\R (.ok (.ret (.ref (kA s.heap a).objs.size))) { s with heap:=pL s.heap a }):=
 .of_wp λprog w A R s q=>by
  obtain⟨hp,g,d,tk,os⟩:=s;obtain⟨ga,gt,q⟩:=q;have hsub:=sub_enumerate;obtain⟨o,go,gc,n,gd⟩:=id gt;obtain⟨c0,d0,dt,sl⟩:=o;simp only at gc gd;subst gc gd;have gT:Heap.IsTuple (Shared.heap ⟨hp,g,d,tk,os⟩) a ys:=gt
  wp_walk using wpAny_loadPart' go
  refine wpAny_stack_any λst=>F5 ?_;split
  ·rename_i c _ _ _ _ _;cases(c == Value.type "enumerate")<;>(wp_walk using wpAny_loadPart' go,wpAny_pyIter_tuple gT;exact⟨_,rfl,q⟩)
  ·wp_walk using wpAny_loadPart' go,wpAny_pyIter_tuple gT
   exact⟨_,rfl,q⟩
def Em{prog:Program}{w:World}{A:Around}{E:Value->Shared->Prop}{s:Shared}{a:Addr}{ys:Array Value}{Q:Value->Shared->Prop}(gt:s.heap.IsTuple a ys)
  (q:∀h',IsEnum h' (s.heap.objs.size+1) s.heap.objs.size 0 .none->h'.IsTupleIter s.heap.objs.size a 0->(∀c o,s.heap.get? c=some o->h'.get? c=some o)->Q (.ref (s.heap.objs.size+1)) { s with heap:=h' }) :
  wpAny (model prog w) A (call (.type "enumerate") [.ref a]) Q E s:=by
 obtain⟨o,go,r⟩:=id gt;refine callType_new F.called_enumerate (by decide) (F.typeCall_enumerate_1 _) (F.newCall_enumerate_1 _) (λob=>F.args_object_init_2 ob _) F.entry_enumerate_new (Fd a ys o) ⟨go,gt,?_⟩;have n1:(kA s.heap a).objs.size=s.heap.objs.size+1:=Heap.size_push ..;have k2:(pL s.heap a).get? (kA s.heap a).objs.size=some _:=F8 _ rfl;have k1:(pL s.heap a).get? s.heap.objs.size=some _:=F7 _ (F8 _ rfl);show _/\_;rw[n1]at k2 ⊢;exact⟨⟨_,k2,rfl⟩,q _ k2 ⟨_,k1,rfl,rfl⟩ λc o x=>F7 _ (F7 _ x)⟩
def gy(K:F6)(a:Addr):It:=⟨(dU K a).go,λi H x H'=>∃p v,x=.ref p/\H p=none/\H'=upd H p (.tup [.int i,v])/\(dU K a).yld i H v H,(dU K a).stop⟩
def B5{P:Program}{w:World}{K:F6}{elts:List Expr}{kk:Nat}{ps:Pos}(a e it:Addr)(ne:e≠it):Turn P w K (.Tuple elts kk ps) (gy K a) [e,it] e (λi h=>(∃old,IsEnum h e it i old)/\h.IsTupleIter it a i) where
 mem:=by simp
 obj:=λi h st b hb=>by
  obtain⟨⟨old,ge⟩,o,go,gc,gd⟩:=st;rcases Gq.mp hb with rfl|hb
  ·exact⟨_,ge,λv z=>by cases(show Data.fields _=Data.cell v from z)⟩
  ·cases Gm.mp hb;exact⟨o,go,λv z=>by rw[gd]at z;cases z⟩
 keep:=λi h h' st k=>by obtain⟨⟨old,ge⟩,gi⟩:=st;exact⟨⟨old,k e (by simp) _ ge⟩,gi.at λo z=>k it (by simp) o z⟩
 item:=by
  intro X hP hw hK hc i pins s σ H E I hf st hg;subst hP hw hK;obtain⟨⟨old,ge⟩,gi⟩:=st;obtain⟨xs,x,hq,hx⟩:=hg;obtain⟨its,rv,p,hz⟩:=I.tuple hq;obtain⟨u,hu,ru⟩:=rv.get hx;have hi:i<its.toArray.size:=by have:=(Gj.mp hu).1;simpa using this
  have hA:X.A.in1.handled=none:=I.ok.hd hc;have hta:a≠it:=λz=>by obtain⟨o,ho,hcl,_⟩:=p;obtain⟨o',ho',hcl',_⟩:=gi;rw[z,ho']at ho;cases ho;rw[hcl]at hcl';exact absurd (Value.type.inj hcl') (by decide)
  have hea:e∉[it,a]:=λz=>by
   rcases Gq.mp z with z|z
   ·exact ne z
   ·cases Gm.mp z;obtain⟨o,ho,hcl,_⟩:=p;rw[ge]at ho;cases ho;exact absurd (Value.type.inj hcl) (by decide)
  refine wpAny_pyNext_enum_itemD (Fz hA it a hta its.toArray) ge ⟨gi,show s.heap.IsTuple a its.toArray from p⟩ hi ne hea λy h' tk hy geo gs gT gz gk=>⟨_,rfl,?_⟩;have ey:y=u:=by
   have:its[i]?=some y:=by simpa using hy
   rw[hu]at this;exact(GQ this).symm
  subst ey;have lt:∀b∈[e,it],b≠s.heap.objs.size:=λb hb=>by
   rcases Gq.mp hb with rfl|hb
   ·exact Gv (F9 ge)
   ·cases Gm.mp hb;obtain⟨o,ho,_⟩:=gi;exact Gv (F9 ho)
  have I1:Inv X pins σ (upd H s.heap.objs.size (.tup [.int i,x])) { s with heap:=h',toks:=tk+1 }:=
   Inv.turnedNew (L:=[e,it]) I (λb o hb z=>gk b o (λq=>hb (by simp[q])) (λq=>hb (by simp[q])) z) hf ⟨by show 2<=sizeLine;decide,[.int i tk,y],.cons ⟨tk,rfl⟩ (.cons ru .nil),⟨_,gT,rfl,_,rfl⟩⟩
  have fe:cN X pins (upd H s.heap.objs.size (.tup [.int i,x])) e:=by obtain⟨c0,c1,c2,c3,c4,c5⟩:=hf e (by simp);exact⟨by rw[az (lt e (by simp))];exact c0,c1,c2,c3,c4,c5⟩
  refine wpAny_letOwnedTupleGo_enum (s:={ s with heap:=h',toks:=tk+1 }) geo λk gk' bk=>?_;refine⟨.ref s.heap.objs.size,upd H s.heap.objs.size (.tup [.int i,x]),Inv.same (s:={ s with heap:=h',toks:=tk+1 }) (k:=h') I1 fe bk.extBut,rfl,⟨_,x,rfl,I.hok.fresh (Gw _),rfl,rfl,λzs hzs=>by rw[I.tuple_inj hzs hq];exact hx⟩,⟨⟨y,by simpa using gk'⟩,gs.1.at λo z=>bk.extBut it o (Ne.symm ne) z⟩,λb hb=>?_⟩;rw[az (lt b hb)];exact(hf b hb).1
 done:=by intro X hP hw hK hc i pins s σ H E I hf st hg;subst hP hw hK;obtain⟨⟨old,ge⟩,gi⟩:=st;obtain⟨xs,hq,hx⟩:=hg;obtain⟨its,rv,p,hz⟩:=I.tuple hq;have hA:X.A.in1.handled=none:=I.ok.hd hc;have gT:s.TypeIs (.ref e) "enumerate":=⟨_,ge,rfl⟩;have hl:=rv.length;unfold pyNext;refine F4 (wpAny_attempt (Ha (name:=GP "__next__") gT F.slot_enumerate_next (wpAny_call_entry F.slot_enumerate_next gT F.entry_enumerate_next ?_ (F.args_enumerate_next_1 _))));show wpAny _ _ (field (Value.ref e) 2 >>= _) _ _ _;refine F4 (wpAny_field ge rfl (x:=Value.ref it) rfl ?_);refine F4 (uj hA gi (show s.heap.IsTuple a its.toArray from p) (by simp;omega) λh' x he hx'=>?_);obtain⟨o,ho,hc'⟩:=hx';refine F4 (wpAny_isInstance (s:={ s with heap:=h' }) (T:="StopIteration") (b:=true) ⟨o,ho,hc'⟩ isSubtype_stop ?_);exact F5 ⟨rfl,Inv.same (k:=s.heap) I (hf it (by simp)) he⟩
 self:=λ_ _ _ _ _ st h=>by obtain⟨⟨old,ge⟩,_⟩:=st;exact wpAny_pyIter_enum ge h
section
variable {K:F6} {σ:St} {H:Hp} {Q:VK}
def qm(K:F6):List V->Hp->(It->Hp->Prop)->Prop:=λvs H R=>∃a xs,vs=[.ref a]/\aj K H a xs/\R (gy K a) H
def vq(K:F6)(ta:TA):TI:=λσ H R=>ta σ H λvs H1=>qm K vs H1 R
def Ey{X:Cx}{elts:List Expr}{kk:Nat}{ps:Pos}(K:F6){a:Expr}{ta:TA}{p pos:Pos}(hg:Gl X "enumerate")(hm:X.mg "enumerate" = none)(ha:PA X [a] ta)(hK:X.K=K:=by rfl)(hs:starEach [a] X.env=[(false,eval a X.env)]:=by rfl):
  PI X (.Tuple elts kk ps) (.Call (.Name "enumerate" p) [a] [] pos) (vq K ta):=by
 subst hK;intro pins s σ H R I h;refine Call_ (fV I hg hm PyProof.Rows.boot_enumerate (PyProof.Rows.callWith_type1 (ax (ha pos pins s σ H _ I h) λus s1 ⟨vs,H1,I1,r1,q1⟩=>?_) (by rw[hs];rfl) rfl));obtain⟨l,xs,e,hq,q⟩:=q1;subst e;obtain⟨u,rfl,rx⟩:=vals1 r1;cases rx;obtain⟨its,_,p1,_⟩:=I1.tuple hq;refine Em (show s1.heap.IsTuple l its.toArray from p1) λh' ge gi k=>?_;refine wpAny_pyIter_enum (s:={ s1 with heap:=h' }) ge ?_;refine⟨s1.heap.objs.size+1,[s1.heap.objs.size+1,s1.heap.objs.size],_,_,H1,rfl,I1.kept (t':=s1.toks) k,B5 l (s1.heap.objs.size+1) s1.heap.objs.size (λz=>by have z':@Eq Nat _ _:=z;omega),⟨⟨_,ge⟩,gi⟩,λb hb=>?_,q⟩;have le:@LE.le Nat _ s1.heap.objs.size b:=by
  rcases Gq.mp hb with rfl|hb
  ·exact Nat.le_add_right _ _
  ·cases Gm.mp hb;exact Gw _
 exact I1.fpOk le (I1.hok.fresh le)
def rd_enum{a:TA}{R:It->Hp->Prop}(h:a σ H λvs H1=>qm K vs H1 R):vq K a σ H R:=h
def AZ{a:Addr}{xs:List V}{R:It->Hp->Prop}(ha:aj K H a xs)(h:R (gy K a) H):qm K [.ref a] H R:=⟨a,xs,rfl,ha,h⟩
def BX{a:Addr}{xs:List V}{g:TG}{tb:TS}{D:Ends}(Pv:Nat->St->Hp->Prop)(h0:Pv 0 σ H)(hl:∀i σ H,i<=xs.length->Pv i σ H->aj K H a xs)
  (hs:∀i u σ H p H',xs[i]?=some u->Pv i σ H->Ext H H'->H' p=some (.tup [.int i,u])->H p=none->g (.ref p) σ H' λσ2 H2=>tb { D with nx:=Pv (i+1),ct:=Pv (i+1),bk:=D.nx } σ2 H2) (hd:∀σ H,Pv xs.length σ H->D.nx σ H) :
  ∃W:Nat->Nat->St->Hp->Prop,(∃m,W 0 m σ H)/\∀i m σ H,W i m σ H →
   ((gy K a).stop i H/\D.nx σ H)\/((gy K a).go i H/\∃N:St->Hp->Prop,(∀σ' H',N σ' H'->∃m',m'<m/\W (i+1) m' σ' H')/\∀x H',(gy K a).yld i H x H'->g x σ H' λσ2 H2=>tb { D with nx:=N,ct:=N,bk:=D.nx } σ2 H2):=by
 refine⟨λi m σ H=>m=xs.length-i/\i<=xs.length/\Pv i σ H,⟨xs.length,by simp,Nat.zero_le _,h0⟩,?_⟩;rintro i m σ H ⟨rfl,hi,p⟩;have qa:=hl i σ H hi p;by_cases hlt:i<xs.length
 ·refine .inr ⟨⟨xs,xs[i],qa,by simp[hlt]⟩,Pv (i+1),λσ' H' p'=>⟨xs.length-(i+1),by omega,rfl,hlt,p'⟩,λx H' y=>?_⟩;obtain⟨pp,u,rfl,hn,rfl,yu⟩:=y;exact hs i u σ H pp _ (yu.2 xs qa) p (bO hn) aO hn
 ·have e:i=xs.length:=by omega
  subst e;exact .inl ⟨⟨xs,qa,Gw _⟩,hd σ H p⟩
end
section
variable {X:Cx}
def qc(neg:Bool):R2:=λx y H Q=>∃n p xs d ds,aV H n x d/\y=.ref p/\H p=some (.lst xs)/\Paired (aV H n) xs ds/\n<=50/\Q (.bl (if neg then !(ds.any λe=>PyData.eqv e d)else ds.any λe=>PyData.eqv e d)) H
def F0{k:Nat}(hr:Room k X.A):bA X (compareOp .In) (qc false):=by intro pins s σ H x y v u Q I rx ry h;obtain⟨n,p,xs,d,ds,h1,rfl,h2,h3,hn,q⟩:=h;have h4:aV H (n+1) (.ref p) (.list ds):=.inr ⟨p,xs,ds,rfl,.inr ⟨h2,rfl⟩,h3⟩;obtain⟨as,ra⟩:=aV.reads I n h1 rx;obtain⟨bs,rb⟩:=aV.reads I (n+1) h4 ry;have l1:=aV.lay n h1;have l2:=i8 (λ{x d}=>aV.lay (H:=H) n) h3;have hu:=hr.units;have hm:min (PyData.depthAll ds) d.depth<=50:=GI (Nat.min_le_right _ _) (GI l1.2 hn);exact SeqAt.in_list_reads rb ra l2.1 l1.1 (by omega) ⟨.bl _,H,I,rfl,q⟩
def xI{k:Nat}(hr:Room k X.A):bA X (compareOp .NotIn) (qc true):=by intro pins s σ H x y v u Q I rx ry h;obtain⟨n,p,xs,d,ds,h1,rfl,h2,h3,hn,q⟩:=h;have h4:aV H (n+1) (.ref p) (.list ds):=.inr ⟨p,xs,ds,rfl,.inr ⟨h2,rfl⟩,h3⟩;obtain⟨as,ra⟩:=aV.reads I n h1 rx;obtain⟨bs,rb⟩:=aV.reads I (n+1) h4 ry;have l1:=aV.lay n h1;have l2:=i8 (λ{x d}=>aV.lay (H:=H) n) h3;have hu:=hr.units;have hm:min (PyData.depthAll ds) d.depth<=50:=GI (Nat.min_le_right _ _) (GI l1.2 hn);exact SeqAt.notIn_list_reads rb ra l2.1 l1.1 (by omega) ⟨.bl _,H,I,rfl,q⟩
def sV{neg:Bool}{n:Nat}{x:V}{p:Addr}{xs:List V}{d:PyData}{ds:List PyData}{H:Hp}{Q:VK}(h1:aV H n x d)(h2:H p=some (.lst xs))(h3:Paired (aV H n) xs ds)(hn:n<=50)(q:Q (.bl (if neg then !(ds.any λe=>PyData.eqv e d)else ds.any λe=>PyData.eqv e d)) H):qc neg x (.ref p) H Q:=
 ⟨n,p,xs,d,ds,h1,rfl,h2,h3,hn,q⟩
end
abbrev Row3:=Str×Tok×Value
def jT(w:World)(e:Row3):DictEntry:=⟨PyData.keyHash w.params e.1,.str e.1 e.2.1,e.2.2⟩
def iQ(w:World)(l:List Row3)(ep:Nat):Obj:={ cls:=.type "dict",dict:=none,data:=.dict (l.map (jT w)).toArray ep,slots:=#[] }
structure GDict(w:World)(K:F6)(a:Addr)(kvs:List (Key×V)):Prop where
 has:∃l ep,K.lookup a=some (iQ w l ep)/\KV kvs (l.map λe=>((Sum.inr e.1:Key),e.2.2))
 nd:(kvs.map (·.1)).Nodup
 sm:(a == sysModules)=false
def vZ{P:Program}{w:World}:∀l:List Row3,Pairs (aN P w) (l.map (jT w)) (l.map λe=>((Sum.inr e.1:Key),e.2.2))
 | []=>.nil
 | e::l=>.cons (pX P w e.1 e.2.1) rfl (vZ l)
def Bm{P:Program}{w:World}(l:List Row3):KeysOf (aN P w) (l.map (jT w)).toArray:=λe he=>by
 have he':e∈l.map (jT w):=by simpa using he
 obtain⟨x,_,rfl⟩:=List.mem_map.mp he';exact⟨.inr x.1,pX P w x.1 x.2.1,rfl⟩
def GDict.at{X:Cx}{pins:List (Addr×Obj)}{σ:St}{H:Hp}{s:Shared}{a:Addr}{kvs:List (Key×V)}(D:GDict X.w X.K a kvs)(I:Inv X pins σ H s):∃vs,KV kvs vs/\s.heap.DictOf (aN X.prog X.w) a vs:=by obtain⟨l,ep,hl,r⟩:=D.has;refine⟨_,r,iQ X.w l ep,_,ep,I.kIn _ _ hl,⟨rfl,rfl,rfl⟩,rfl,Bm l,vZ l,?_⟩;rw[←r.keys];exact D.nd
section
variable {X:Cx} {x:Str} {a:Addr} {kvs:List (Key×V)} {i:Expr} {ty:TE} {p pos:Pos}
def yr(kvs:List (Key×V))(ty:TE):TE:=λσ H Q=>ty σ H λy H1=>∃k v,y=kV k/\bI kvs k=some v/\Q v H1
def yx(neg:Bool)(kvs:List (Key×V))(ty:TE):TE:=λσ H Q=>ty σ H λy H1=>∃k,y=kV k/\Q (.bl (if neg then !(bI kvs k).isSome else(bI kvs k).isSome)) H1
def yB(hg:Gl X x)(hm:X.mg x=some (.ref a))(D:GDict X.w X.K a kvs)(hi:PE X i ty)(hs:lV i)(hd:(x == ("__debug__":Str))=false:=by decide):PE X (.Subscript (.Name x p) i pos) (yr kvs ty):=by intro pins s σ H Q I h;refine vi PySem.F.slot_dict_getitem.lookup hs (fU I hg hm (ax (hi pins s σ H _ I h) λiv s2 ⟨y,H2,I2,ry,k,v,ey,hv,q⟩=>?_) hd);subst ey;obtain⟨vs,rel,dd⟩:=D.at I2;obtain⟨w',hw,rw'⟩:=dN.some_of (v:=v) (o:=valueAt vs k) (by rw[←hv];exact rel.val k);exact⟨dd.typeIs,wpAny_getItem_of (iI ry) dd.mapOf hw ⟨v,H2,I2.tok _,rw',q⟩⟩
def zH(hg:Gl X x)(hm:X.mg x=some (.ref a))(D:GDict X.w X.K a kvs)(hi:PE X i ty)(hd:(x == ("__debug__":Str))=false:=by decide):PC X .In i (.Name x p) (yx false kvs ty):=by intro pins s σ H Q I h;refine ax (hi pins s σ H _ I h) λiv s1 ⟨y,H1,I1,ry,k,ey,q⟩=>fU I1 hg hm ?_ hd;subst ey;obtain⟨vs,rel,dd⟩:=D.at I1;refine wpAny_in_of (iI ry) D.sm dd.mapOf ?_;rw[←(rel.val k).isSome_eq];exact⟨.bl (bI kvs k).isSome,H1,I1.tok _,rfl,q⟩
def rd_gget{σ:St}{H:Hp}{Q:VK}(h:ty σ H λy H1=>∃k v,y=kV k/\bI kvs k=some v/\Q v H1):yr kvs ty σ H Q:=h
def rd_gin{neg:Bool}{σ:St}{H:Hp}{Q:VK}(h:ty σ H λy H1=>∃k,y=kV k/\Q (.bl (if neg then !(bI kvs k).isSome else(bI kvs k).isSome)) H1):yx neg kvs ty σ H Q:=h
def vR{R:V->Prop}{z:Str}{v:V}(hv:bI kvs (.inr z)=some v)(h:R v):∃k v,V.str z=kV k/\bI kvs k=some v/\R v:=⟨.inr z,v,rfl,hv,h⟩
def uO:R2:=λx y H Q=>∃a b,x=.str a/\y=.str b/\Q (.bl (!decide (b.cps.toList<a.cps.toList))) H
def sy:bA X (compareOp .LtE) uO:=by intro pins s σ H x y v u Q I rx ry h;obtain⟨a,b,rfl,rfl,q⟩:=h;obtain⟨t,rfl⟩:=rx;obtain⟨t',rfl⟩:=ry;exact PySem.P.le_str ⟨.bl _,H,I,rfl,q⟩
def rd_leS{a b:Str}{H:Hp}{Q:VK}(h:Q (.bl (!decide (b.cps.toList<a.cps.toList))) H):uO (.str a) (.str b) H Q:=⟨a,b,rfl,rfl,h⟩
def oD{α β:Type}{f g:α->Option β}:∀{l:List α},(∀x∈l,f x=g x)->l.filterMap f=l.filterMap g
 | [],_=>rfl
 | x::l,h=>by rw[List.filterMap_cons,List.filterMap_cons,h x Gh,oD λy hy=>h y (Ge _ hy)]
def CK(n:Nat)(xs:List Value)(h:xs.length=n):(Hb n).filterMap (λi:Nat=>xs[((n:Int)-1+(i:Int)*(-1)).toNat]?)=xs.reverse:=by
 refine List.ext_getElem? λi=>?_;have e:(Hb n).filterMap (λi:Nat=>xs[((n:Int)-1+(i:Int)*(-1)).toNat]?)=(Hb n).map (λi:Nat=>xs.reverse.getD i .none):=by
  rw[←List.filterMap_eq_map];refine oD λi hi=>?_;have hi:=List.mem_range.mp hi;have:((n:Int)-1+(i:Int)*(-1)).toNat=n-1-i:=by omega
  rw[this,Function.comp_apply,List.getD_eq_getElem?_getD,List.getElem?_reverse (by omega),h,Gb (show n-1-i<xs.length by omega)];rfl
 rw[e,Gd];by_cases hi:i<n
 ·rw[Gb (by simpa using hi),Gb (by simpa[h]using hi)];simp[List.getD_eq_getElem?_getD,h,hi]
 ·rw[List.getElem?_eq_none (by simpa using hi),List.getElem?_eq_none (by simpa[h]using hi)];rfl
def EO(its:List Value):slicePick its.toArray none none (some (-1))=its.reverse.toArray:=by
 unfold slicePick;have e:sliceBounds none none (some (-1)) its.toArray.size=((its.length:Int)-1,-1,-1):=by unfold sliceBounds;simp
 rw[e];refine congrArg List.toArray ?_;rw[←CK its.length its rfl];unfold sliceRange;simp only;rw[He (by decide),List.filterMap_map];have el:(if(its.length:Int)-1 > -1 then((its.length:Int)-1 - -1 - -1-1) / - -1 else 0).toNat=its.length:=by rw[show (- -1:Int)=1 by decide,Int.ediv_one];split<;>omega
 rw[el];refine oD λi hi=>?_;rw[Function.comp_apply,show (its.length:Int)-1 + -1*(i:Int)=(its.length:Int)-1+(i:Int) * -1 by omega];simp
def Vals.rev{xs:List V}{us:List Value}(r:Vals xs us):Vals xs.reverse us.reverse:=by
 induction r with
 | nil=>exact .nil
 | cons h t ih=>
  rw[List.reverse_cons,List.reverse_cons];exact Vals.append ih (.cons h .nil)
def iV(K:F6):V->Hp->VK->Prop:=λx H Q=>∃a xs,x=.ref a/\ag K H a xs/\fg H (.lst xs.reverse) Q
def vy(K:F6)(te:TE)(ts:TO):TE:=λσ H Q=>te σ H λx H1=>ts σ H1 λk H2=>k=some (-1)/\iV K x H2 Q
def zd{e st:Expr}{te:TE}{ts:TO}{p2:Pos}(K:F6)(he:PE X e te)(hs:PO X (some st) ts)(hK:X.K=K:=by rfl):PE X (.Subscript e (.Slice none none (some st) p2) pos) (vy K te ts):=by
 subst hK;intro pins s σ H Q I h;refine Subscript_ (ax (he pins s σ H _ I h) λv s1 ⟨x,H1,I1,r1,q1⟩=>?_);refine wpAny_Slice ?_;rw[evalPart_none];refine F5 (F5 ?_);refine ax (hs pins s1 σ H1 _ I1 q1) λvs s2 ⟨k,H2,I2,pk,q2⟩=>?_;obtain⟨rfl,a,xs,rfl,hx,q⟩:=q2;cases pk with
 | int i tk=>
 cases r1;have I3:Inv X pins σ H2 { s2 with heap:=s2.heap.push { cls:=.type "slice",data:=.fields #[.none,.none,.int (-1) tk] } }:=I2.kept (t':=s2.toks) λb ob q=>F7 _ q;obtain⟨its,r,ht,hz⟩:=I3.list hx;have hlen:=r.length;show wpAny (model X.prog X.w) X.A (subscriptTail e (.Slice none none (some st) p2) (.ref a) (.ref s2.heap.objs.size)) (EP X pins σ Q) X.xe { s2 with heap:=s2.heap.push { cls:=.type "slice",data:=.fields #[.none,.none,.int (-1) tk] } };refine tail_any (ops:=[.ref a,.ref s2.heap.objs.size]) ht.isList.typeIs slot_list_getitem.lookup (wpAny_getItem_list_slice ht.isList (Heap.IsSliceOf.new ..) .none .none (.int (-1) tk) (by decide) ?_ (by rw[Gg];omega)) (by with_unfolding_all rfl);rw[EO];exact⟨.ref _,_,I3.laid (t':=s2.toks) (o:=.lst xs.reverse) (λb ob e=>F7 _ e) (Gw _) ⟨by rw[List.length_reverse];exact hz,_,0,r.rev,F8 _ rfl⟩,rfl,q _ (I3.hok.fresh (Gw _))⟩
def rd_revL{K:F6}{te:TE}{ts:TO}{σ:St}{H:Hp}{Q:VK}(h:te σ H λx H1=>ts σ H1 λk H2=>k=some (-1)/\iV K x H2 Q):vy K te ts σ H Q:=h
def t9{K:F6}{H:Hp}{Q:VK}{a:Addr}{xs:List V}(e:ag K H a xs)(h:fg H (.lst xs.reverse) Q):iV K (.ref a) H Q:=⟨a,xs,rfl,e,h⟩
def rd_dget{td:TE}{σ:St}{H:Hp}{Q:VK}(h:td σ H λx H1=>ty σ H1 λy H2=>∃a v,x=.ref a/\cU H2 a y (some v)/\Q v H2):uy td ty σ H Q:=h
end
def B7:typeLookup (.type "list_reverseiterator") "__len__" = pure none:=by rw[typeLookup_type,builtinLookup_eq_fast];kernel_rfl
def Ea:typeLookup (.type "list_reverseiterator") "__length_hint__" = pure (some (.builtin "list_reverseiterator.__length_hint__")):=by rw[typeLookup_type,builtinLookup_eq_fast];kernel_rfl
section
variable {prog:Program} {w:World} {A:Around} {E:Value->Shared->Prop} {s:Shared} {r d:Addr}
def zM{Q:Bool->Shared->Prop}(hT:s.TypeIs (.ref r) "list_reverseiterator")(h:Q false s):wpAny (model prog w) A (Builtin.List.listLengthHint (.ref r)) Q E s:=by
 unfold Builtin.List.listLengthHint;refine F4 (wpAny_specialOf hT B7 ?_);show wpAny _ _ (specialOf (Value.ref r) (GP "__length_hint__") >>= _) _ _ _;refine F4 (wpAny_specialOf hT Ea ?_);generalize hid:("list_reverseiterator.__length_hint__":String)=id0
 wp_delta
 rw[show splitId id0=some ("list_reverseiterator","__length_hint__")from by subst hid;decide +kernel];subst hid;refine F4 (wpAny_isInstance (T:="list_reverseiterator") (b:=true) hT (by rw[isSubtype_type];kernel_rfl) ?_);refine wpAny_ite_split (λhab=>absurd hab (by decide)) (λ_=>?_);refine wpAny_ite_split (λ_=>?_) (λhab=>absurd (by decide +kernel) hab);refine wpAny_ite_split (λhab=>absurd hab (by decide +kernel)) (λ_=>?_);exact F5 h
def Ck{R:Result->Shared->Prop}{items:Array Value}(hh:A.handled=none)(hne:d≠r)(hit:s.heap.IsRevIter r d ((items.size:Int)-1))(hl:s.heap.IsList d items)(S:Addr)(hSr:S≠r)(hSd:S≠d)(res:Value)(c₀:Nat)(hS:s.heap.get? S=some { cls:=.type "list",data:=.seq #[] c₀ })
  (hR:∀h' tk acc' c',(∀b o,b≠S->b≠r->s.heap.get? b=some o->h'.get? b=some o)->h'.get? S=some { cls:=.type "list",dict:=none,data:=.seq acc' c',slots:=#[] }->ItemsOf (λi v=>items[items.size-1-i]?=some v) acc' items.size->R (.ok (.ret res)) { s with heap:=h',toks:=tk }) (hn:items.size<=sizeLine) :
  wpAny (model prog w) A.in1 (Builtin.List.listExtendWith (.ref S) (.ref r) res)
   (λfin s'=>match fin with|.done f=>R (.ok f) s'|.again c'=>c'.quiet=true/\codeAny (model prog w) A c' R s') (λe s'=>R (.error e) s') s:=by
 have hSf:S∉[r,d]:=by simp only[Gq,GJ,or_false,not_or];exact⟨hSr,hSd⟩
 have W:=Walks.listRev (prog:=prog) (w:=w) (A:=A.in1) hh r d hne items;have st:0<=items.size/\s.heap.IsRevIter r d ((items.size:Int)-1-((0:Nat):Int))/\s.heap.IsList d items:=⟨Nat.zero_le _,by rw[show (items.size:Int)-1-((0:Nat):Int)=(items.size:Int)-1 by omega];exact hit,hl⟩;unfold Builtin.List.listExtendWith;refine F4 (wpAny_typeOf (T:="list_reverseiterator") hit.typeIs ?_);have h1:Builtin.List.listSameRef (.ref S) (.ref r)=false:=by simp[Builtin.List.listSameRef,hSr]
 have h2:(Value.type "list_reverseiterator" == Value.type "list")=false:=by decide
 have h3:(Value.type "list_reverseiterator" == Value.type "tuple")=false:=by decide
 simp only[h1,h2,h3,Bool.or_false,GV,if_false];refine F4 (W.self 0 _ _ _ st ?_);refine F4 (wpAny_holding (zM hit.typeIs ?_));refine wpAny_ite_split (λhab=>absurd hab (by decide +kernel)) (λ_=>?_);refine F5 ⟨plainId_quiet PySem.F.plain_extend_loop _,?_⟩;refine codeAny_extend_loopS W.toS hn S hSf res items.size 0 s #[] c₀ rfl (Nat.zero_le _) st hS (ItemsOf.nil _) λs' acc' c' hm hS' hacc=>?_;rw[Moved.eq_with hm];refine hR s'.heap s'.toks acc' c' (λb o hb hb2 e=>hm.heap b o (λhmem=>?_) e) hS' hacc;rcases Gq.mp hmem with e'|hmem
 ·exact hb e'
 ·exact hb2 (Gm.mp hmem)
def EK{R:Result->Shared->Prop}{items:Array Value}(hh:A.handled=none)(hne:d≠r)(hit:s.heap.IsRevIter r d ((items.size:Int)-1))(hl:s.heap.IsList d items)(S:Addr)(hSr:S≠r)(hSd:S≠d)(hS:s.heap.get? S=some { cls:=.type "list",data:=.seq #[] })
  (hR:∀h' tk acc' c',(∀b o,b≠S->b≠r->s.heap.get? b=some o->h'.get? b=some o)->h'.get? S=some { cls:=.type "list",dict:=none,data:=.seq acc' c',slots:=#[] }->ItemsOf (λi v=>items[items.size-1-i]?=some v) acc' items.size->R (.ok (.ret .none)) { s with heap:=h',toks:=tk }) (hn:items.size<=sizeLine) :
  wpAny (model prog w) A.in1 (Builtin.«list.__init__» ⟨[.ref S,.ref r],[]⟩)
   (λfin s'=>match fin with|.done f=>R (.ok f) s'|.again c'=>c'.quiet=true/\codeAny (model prog w) A c' R s') (λe s'=>R (.error e) s') s:=by
 show wpAny _ _ (do let old ←Builtin.List.listItems (.ref S);Builtin.List.listUpdate (.ref S) (λ_=>#[]);letGo old.toList.reverse;Builtin.List.listExtendWith (.ref S) (.ref r) .none) _ _ s;refine F4 ?_;unfold Builtin.List.listItems;refine F4 (wpAny_seqItems hS rfl (F5 ?_));show wpAny _ _ (updateSeq S (λ_=>#[]) >>= λ_=>letGo (#[]:Array Value).toList.reverse >>= λ_=>Builtin.List.listExtendWith (.ref S) (.ref r) .none) _ _ s;refine F4 (wpAny_updateSeq hS rfl ?_);have hS₂:=Heap.get?_update_self (Obj.mapSeq (λ_=>(#[]:Array Value))) hS rfl;have oth:∀b o,b≠S->s.heap.get? b=some o->(s.heap.update S (Obj.mapSeq (λ_=>(#[]:Array Value)))).get? b=some o:=
  λb o hb e=>(Heap.get?_update_other _ _ (Ne.symm hb)).trans e
 refine F4 (wpAny_letGo ?_);refine Ck hh hne (hit.at λo e=>oth _ _ hSr.symm e) (hl.at λo e=>oth _ _ hSd.symm e) S hSr hSd .none _ hS₂ (λh' tk acc' c' hk hS' hacc=>?_) hn;exact hR h' tk acc' c' (λb o hb hb2 e=>hk b o hb hb2 (oth b o hb e)) hS' hacc
def Ci{Q:Value->Shared->Prop}{items:Array Value}(hh:A.handled=none)(hne:d≠r)(hit:s.heap.IsRevIter r d ((items.size:Int)-1))(hl:s.heap.IsList d items)(hn:items.size<=sizeLine)
  (hQ:∀h' tk acc' c',(∀b o,b≠r->s.heap.get? b=some o->h'.get? b=some o)->h'.get? s.heap.objs.size=some { cls:=.type "list",dict:=none,data:=.seq acc' c',slots:=#[] }->ItemsOf (λi v=>items[items.size-1-i]?=some v) acc' items.size->Q (.ref s.heap.objs.size) { s with heap:=h',toks:=tk }) :
  wpAny (model prog w) A (call (.type "list") [.ref r]) Q E s:=by
 refine callType_codes (Q₁:=λobj s₁=>obj=.ref s.heap.objs.size/\s₁={ s with heap:=s.heap.push { cls:=.type "list",data:=.seq #[] } }) PySem.F.called_list (PySem.F.typeCall_list_1 _) PySem.F.entry_list_init
  (code_list_new _ ⟨rfl,rfl⟩) λobj s₁ h₁=>?_
 obtain⟨rfl,rfl⟩:=h₁;have hS:(s.heap.push { cls:=.type "list",data:=.seq #[] }).get? s.heap.objs.size=some { cls:=.type "list",data:=.seq #[] }:=F8 _ rfl;have l1:r<s.heap.objs.size:=let ⟨o,ho,_⟩:=hit;F9 ho;have l2:d<s.heap.objs.size:=let ⟨o,ho,_⟩:=hl;F9 ho;refine⟨⟨_,hS,rfl⟩,PySem.F.args_list_init_2 _ _,EK (A:=A.in1) hh hne (hit.at λo e=>F7 _ e) (hl.at λo e=>F7 _ e) _ (Nat.ne_of_gt l1) (Nat.ne_of_gt l2) hS (λh' tk acc' c' hk hS' hacc=>?_) hn⟩;exact⟨rfl,hQ h' tk acc' c' (λb o hb e=>hk b o (Gv (F9 e)) hb (F7 _ e)) hS' hacc⟩
end
def AQ{its:List Value}{acc:Array Value}(h:ItemsOf (λi v=>its.toArray[its.toArray.size-1-i]?=some v) acc its.toArray.size):acc=its.reverse.toArray:=by
 have h1:acc.size=its.length:=h.1.trans Gg;have h2:=h.2;refine Array.ext_getElem? λi=>?_;by_cases hi:i<acc.size
 ·have h3:=h2 i acc[i] (Array.getElem?_eq_getElem hi);rw[Array.getElem?_eq_getElem hi,←h3,List.getElem?_toArray,List.getElem?_toArray,Gg,List.getElem?_reverse (by omega)]
 ·rw[Array.getElem?_eq_none (by omega),List.getElem?_toArray,List.getElem?_eq_none (by rw[List.length_reverse];omega)]
section
variable {X:Cx}
def xB(K:F6)(te:TE):TE:=λσ H Q=>te σ H λx H1=>iV K x H1 Q
def Fu{e:Expr}{te:TE}{p p2 pos pos2:Pos}(K:F6)(hc:X.calm=true)(hg:Gl X "list")(hm:X.mg "list" = none)(hg2:Gl X "reversed")(hm2:X.mg "reversed" = none)(he:PE X e te)(hK:X.K=K:=by rfl)
  (h1:starEach [e] X.env=(false,eval e X.env)::starEach [] X.env:=by rfl)
  (h2:starEach [.Call (.Name "reversed" p2) [e] [] pos2] X.env=(false,eval (.Call (.Name "reversed" p2) [e] [] pos2) X.env)::starEach [] X.env:=by rfl) :
  PE X (.Call (.Name "list" p) [.Call (.Name "reversed" p2) [e] [] pos2] [] pos) (xB K te):=by
 subst hK;intro pins s σ H Q I h;refine wpAny_Call_Name_kw (fV I hg hm PyProof.Rows.boot_list ?_ (by decide) (by decide));refine PyProof.Rows.callWith_type1 ?_ h2 rfl;rw[h2];show wpAny _ _ (spliced ((false,eval (.Call (.Name "reversed" p2) [e] [] pos2) X.env)::backTo pos (starEach [] X.env))) _ _ s;refine Calls.spliced_cons ?_;refine wpAny_Call_Name_kw (fV I hg2 hm2 PyProof.Rows.boot_reversed ?_ (by decide) (by decide));refine PyProof.Rows.callWith_type1 ?_ h1 rfl;rw[h1];show wpAny _ _ (spliced ((false,eval e X.env)::backTo pos2 (starEach [] X.env))) _ _ s;refine Calls.spliced_cons (ax (he pins s σ H _ I h) λu s1 ⟨x,H1,I1,r1,q1⟩=>?_);refine Calls.spliced_nil ?_;obtain⟨a,xs,rfl,hx,q⟩:=q1;cases r1;obtain⟨its,r,pl,hz⟩:=I1.list hx;have hlen:=r.length;refine call_reversed_list pl.isList ?_;refine Calls.spliced_nil ?_;have la:a<s1.heap.objs.size:=let ⟨o,ho,_⟩:=pl.isList;F9 ho;have hsz:(s1.heap.push (revObj a ((its.toArray.size:Int)-1))).objs.size=s1.heap.objs.size+1:=Heap.size_push ..;refine Ci (items:=its.toArray) (d:=a) (r:=s1.heap.objs.size) (I1.ok.hd hc) (Gv la) ⟨_,F8 _ rfl,rfl,rfl⟩ (pl.isList.at λo e=>F7 _ e) (by rw[Gg];omega) λh' tk acc' c' hk hS' hacc=>?_;have hk':∀b o,s1.heap.get? b=some o->h'.get? b=some o:=λb o e=>hk b o (Gv (F9 e)) (F7 _ e);have hle:s1.heap.objs.size<=(s1.heap.push (revObj a ((its.toArray.size:Int)-1))).objs.size:=by rw[hsz];exact Nat.le_succ _
 rw[AQ hacc]at hS';exact⟨.ref _,_,I1.laid (t':=tk) (o:=.lst xs.reverse) hk' hle ⟨by rw[List.length_reverse];exact hz,_,c',r.rev,hS'⟩,rfl,q _ (I1.hok.fresh hle)⟩
def xc(tk tv:TE):TE:=λσ H Q=>∀p,H p=none->tk σ (upd H p (.dT [])) λx H1=>tv σ H1 λv H2=>∃b k,x=.ref b/\H2 b=some (.tup (List.map kV k))/\H2 p=some (.dT [])/\Q (.ref p) (upd H2 p (.dT [(k,v)]))
def sf{ek ev:Expr}{tk tv:TE}{pos:Pos}(hu:X.A.units+1<cLine)(hk:PE X ek tk)(hv:PE X ev tv):PE X (.Dict [some ek] [ev] pos) (xc tk tv):=by
 intro pins s σ H Q I q;have hn:=I.hok.fresh (Gw s.heap.objs.size);have I1:=I.laid (a:=s.heap.objs.size) (o:=.dT []) (h':=s.heap.push { cls:=.type "dict",data:=.dict #[] }) (t':=s.toks) (λ_ _ q=>F7 _ q) (Gw _) (E7 s.heap I.big);refine wpAny_Dict_any rfl rfl (by simp) (by simp) ?_;refine pairTrees_cons_walk (ax (hk pins _ σ _ _ I1 (q _ hn)) λu s1 ⟨x,H1,I1,rx,q1⟩=>ax (hv pins s1 σ H1 _ I1 q1) λw2 s2 ⟨v,H2,I2,ry,q2⟩=>pairTrees_nil_walk ?_);obtain⟨b,k,rfl,hb,e,q3⟩:=q2;cases(show u=Value.ref b from rx);obtain⟨z,hd,xs,rel,dd⟩:=sZ I2.hok e;have hz:xs.length<=sizeLine:=by rw[←Paired.length rel];exact Nat.zero_le _
 unfold storeAll;rw[List.forIn_cons];refine F4 (F4 (wpAny_dictSet_heap (hsz:=hz) (show(tupleKind (aN X.prog X.w)).room X.A from Nat.lt_of_succ_lt hu) (jy I2.hok hb) dd λh' dd' hs=>F5 ?_));dsimp only;rw[List.forIn_nil];refine F5 ⟨.ref s.heap.objs.size,_,?_,rfl,q3⟩;obtain⟨q,es,ep,hq,h2,h3,h4,_,h5⟩:=dd';refine qD I2 (by rw[e];exact True.intro) hs ⟨q,hq⟩ ⟨by rw[sizeLine_eq];simp,hd,_,(rel.put k hb ry).keeps λc ys ec=>?_,q,es,ep,hq,h2,h3,h4,h5⟩;rw[az (cK ec e (λz=>nomatch z))];exact ec
def rd_lrev{K:F6}{te:TE}{σ:St}{H:Hp}{Q:VK}(h:te σ H λx H1=>iV K x H1 Q):xB K te σ H Q:=h
def rd_disp1{tk tv:TE}{σ:St}{H:Hp}{Q:VK}(h:∀p,H p=none->tk σ (upd H p (.dT [])) λx H1=>tv σ H1 λv H2=>∃b k,x=.ref b/\H2 b=some (.tup (List.map kV k))/\H2 p=some (.dT [])/\Q (.ref p) (upd H2 p (.dT [(k,v)]))):xc tk tv σ H Q:=h
def rd_dnin{ty td:TE}{σ:St}{H:Hp}{Q:VK}(h:ty σ H λy H1=>td σ H1 λx H2=>∃a o,x=.ref a/\cU H2 a y o/\Q (.bl (!o.isSome)) H2):wc ty td σ H Q:=h
def rd_dput{td ty tv:TE}{D:Ends}{σ:St}{H:Hp}(h:tv σ H λv H1=>td σ H1 λx H2=>ty σ H2 λy H3=>∃a H4,x=.ref a/\gg H3 a y v H4/\D.nx σ H4):vN td ty tv D σ H:=h
def LitE.pe{e:Expr}{te:TE}(h:LitE e te):PE X e te:=
 LitE.rec (motive_1:=λe te _=>PE X e te) (motive_2:=λes ta _=>PA X es ta) dy bL af aF (λ_ ih=>aT ih) ae (λh _ ih1 ih2=>aa ih1 ih2 (h.star _ _)) h
def xZ{e:Expr}{te:TE}{es:List Expr}{t:TA}(h:LitE e te)(hr:PA X es t):PA X (e::es) (lj te t):=aa h.pe hr (h.star _ _)
end
section
variable {X:Cx} {tg:Expr}
end
section
variable {prog:Program} {w:World} {A:Around} {E:Value->Shared->Prop} {s:Shared}
end
section
variable {X:Cx} {tg:Expr}
end
section
variable {X:Cx}
end
def vv(K:F6):List V->Hp->VK->Prop:=λxs H Q=>∃(p:Addr) (bs:List Bool),xs=[.ref p]/\ag K H p (bs.map V.bl)/\Q (.bl (bs.any id)) H
def any_range(bs:List Bool):((Hb bs.length).any λi=>bs.getD i false)=bs.any id:=by
 rw[GN,GL,GL];constructor
 ·rintro⟨i,hi,h⟩;have hi':=List.mem_range.mp hi;rw[List.getD_eq_getElem?_getD,Gb hi']at h;exact⟨_,GD hi',h⟩
 ·rintro⟨b,hb,h⟩;obtain⟨i,hi,e⟩:=List.mem_iff_getElem.mp hb;refine⟨i,List.mem_range.mpr hi,?_⟩;rw[List.getD_eq_getElem?_getD,Gb hi,e];exact h
def zI{X:Cx}(K:F6)(hc:X.calm=true)(hK:X.K=K:=by rfl):b7 X (.builtin "any") (vv K):=by
 subst hK;intro pins s σ H xs us Q I r h;obtain⟨p,bs,rfl,hq,q⟩:=h;obtain⟨u,rfl,rx⟩:=vals1 r;cases rx;obtain⟨its,rv,pl,hz⟩:=I.list hq;have eb:=ly rv;have hne:p≠s.heap.objs.size:=Gv (by obtain⟨o,n,e,_⟩:=pl;exact F9 e);refine call_any_walk (wpAny_pyIter_list pl.isList ?_);have I1:Inv X pins σ H { s with heap:=s.heap.push { cls:=.type "list_iterator",data:=.fields #[.ref p,.int 0 0] } }:=I.kept (t':=s.toks) λb o e=>F7 _ e;have hf:=I.fpOk (H':=H) (Gw s.heap.objs.size) I.fresh;refine⟨s.heap.objs.size,_,_,_,_,_,(λi=>bs.getD i false),rfl,Walks.list (A:=X.A.in1) (I.ok.hd hc) _ p hne its.toArray,⟨⟨_,F8 _ rfl,rfl,rfl⟩,?_⟩,?_,λh' tk hk=>?_⟩
 ·exact pl.isList.push _
 ·intro i v s' Q' E' hv hQ;rw[eb]at hv;have hv':(bs.map Value.bool)[i]?=some v:=by simpa using hv
  rw[Gd]at hv';cases eg:bs[i]? with
  | none=>rw[eg]at hv';cases hv'
  | some b=>
   rw[eg]at hv';cases hv';have eb':bs.getD i false=b:=by rw[List.getD_eq_getElem?_getD,eg];rfl
   have hQ':Q' (bs.getD i false) s':=hQ;rw[eb']at hQ';exact wpAny_truthy_bool hQ'
 ·obtain⟨f0,f1,f2,f3,f4,f5⟩:=hf;have hl:=rv.length;rw[Ga]at hl;refine⟨.bl (bs.any id),H,I1.turned (it:=s.heap.objs.size) (λb o hb e=>hk b o (by simpa using hb) e) f0 f1 f3 f4 f5,?_,q⟩;show Value.bool _=Value.bool _;rw[Gg,←hl,any_range]
section
variable {X:Cx}
end
section
variable {P:Program} {w:World} {K:F6} {mg:Str->Option Value} {base:Heap}
end
section
variable {X:Cx}
def CB(K:F6):V->List V->Hp->VK->Prop:=λx xs H Q=>∃(p:Addr) (bs:List Bool) (k:Bool) (j:Nat),x=.ref p/\xs=[.bl k]/\ag K H p (bs.map V.bl)/\bs[j]?=some k/\(∀m b,m<j->bs[m]?=some b->b≠k)/\j<2 ^ 32/\Q (.int (j:Int)) H
def rL{k b:Bool}:gO (.bl k) (.bool b)=(b == k):=by cases k<;>cases b<;>rfl
def tX:∀{bs:List Bool} {us:List Value},Vals (bs.map V.bl) us->us=bs.map Value.bool
 | [],_,r=>by cases r;rfl
 | b::bs,_,r=>by
  cases r with
  | cons r t=>
   cases r;rw[tX t];rfl
def Ar(K:F6)(hK:X.K=K:=by rfl):ia X "list.index" (CB K):=by
 subst hK;intro pins s σ H x xs v us Q I rx rv h;obtain⟨p,bs,k,j,rfl,rfl,hq,hj,hno,hjs,q⟩:=h;cases rx;obtain⟨u,rfl,ru⟩:=rv.one;cases ru;obtain⟨its,r,pl,hz⟩:=I.list hq;have ei:=tX r;subst ei;obtain⟨⟨cls,dd,data,sl⟩,n,ho,hc,hdd,hd⟩:=id pl;simp only at hc hd hdd;subst hc hd hdd;have hjl:j<bs.length:=(Gj.mp hj).1;have hsz:j<(bs.map Value.bool).toArray.size:=by simpa using hjl
 have hget:∀m (hm:m<(bs.map Value.bool).toArray.size),∃b,bs[m]?=some b/\(bs.map Value.bool).toArray[m]=.bool b:=λm hm=>by
  have hm':m<bs.length:=by simpa using hm
  exact⟨bs[m],Gb hm',by simp⟩
 refine call_meets PySem.F.slot_list_index ⟨_,ho,rfl⟩ PySem.F.entry_list_index (PySem.F.args_list_index_2 _ _) (SeqAt.list_indexAt p (bs.map Value.bool).toArray n none sl (.bool k) (gO (.bl k)) j hsz (by omega) ?_ ?_)
  ⟨ho,λy hy=>nO (x:=.bl k) rfl rfl r (by rw[List.all_map,GK];intro x _;rfl) y (by simpa using hy),?_⟩
 ·obtain⟨b,hb,e⟩:=hget j hsz;rw[e,rL];rw[hj]at hb;cases hb;exact beq_self_eq_true _
 ·intro m hm hmj;obtain⟨b,hb,e⟩:=hget m hm;rw[e,rL];exact beq_eq_false_iff_ne.mpr (hno m b hmj hb)
 ·exact⟨.int _,H,I.tok _,⟨_,rfl⟩,q⟩
end
section
variable {P:Program} {w:World} {A:Around} {E:Value->Shared->Prop} {s:Shared}
end
section
variable {X:Cx} {pins:List (Addr×Obj)} {σ:St} {H:Hp} {s:Shared}
end
section
variable {X:Cx}
end
section
variable {P:Program} {w:World} {A:Around} {E:Value->Shared->Prop} {s:Shared}
end
section
variable {X:Cx}
end
section
variable {X:Cx} {pins:List (Addr×Obj)} {σ:St} {H:Hp} {s:Shared}
end
section
variable {X:Cx}
end
def qL{X:Cx}{st:Stmt}{t:TS}(h:PS X.nox st t):PS X st t:=λpins s σ H D I hw=>
 wpAny_mono (h pins s σ H D (I.wish _) hw) (λ_ _ q=>q.unwish) λ_ _ z=>False.elim z
def CO{K:F6}{C:Addr}{i:Nat}{tb:Ends->(St->XK)->St->Hp->Prop}{ts:Addr->Addr->Option Addr->TS}{D:Ends}{σ:St}{H:Hp}(P:Addr->St->Hp->Prop)(h1:∀E:St->XK,(∀σ1 Dx H1,P Dx σ1 H1->E σ1 (.ref Dx) none H1)->tb D E σ H)
  (h2:∀σ1 Dx H1,P Dx σ1 H1->PySem.W.exmOne K (.ref Dx) (.ref C)=some true/\ExcK K Dx/\∀x,H1 x=none->ts x Dx none ⟨λσ' H'=>D.nx (σ'.set i none) H',D.rt,λσ' H'=>D.bk (σ'.set i none) H',λσ' H'=>D.ct (σ'.set i none) H'⟩ (σ1.set i (some (.ref x))) H1):vn K C i tb ts D σ H:=
 h1 _ λσ1 Dx H1 p=>⟨Dx,rfl,h2 σ1 Dx H1 p⟩
section
variable {X:Cx} {x:Addr} {oe:Obj}
def EG(hl:∃vs,oe.data=.fields vs/\vs[2]?=some .none):b7 (bx X x oe) (.builtin "any") (vv X.K):=by
 obtain⟨vs,hd,h2⟩:=hl;intro pins s σ H xs us Q I r h;obtain⟨p,bs,rfl,hq,q⟩:=h;obtain⟨u,rfl,rx⟩:=vals1 r;cases rx;obtain⟨its,rv,pl,hz⟩:=I.list hq;have eb:=ly rv;have hx:s.heap.get? x=some oe:=(I.pin (x,oe) (GS _ Gh)).1;have hne:p≠s.heap.objs.size:=Gv (by obtain⟨o,n,e,_⟩:=pl;exact F9 e);have hxi:x≠s.heap.objs.size:=Gv (F9 hx);refine call_any_walk (wpAny_pyIter_list pl.isList ?_);have I1:Inv (bx X x oe) pins σ H { s with heap:=s.heap.push { cls:=.type "list_iterator",data:=.fields #[.ref p,.int 0 0] } }:=I.kept (t':=s.toks) λb o e=>F7 _ e;have hf:=I.fpOk (H':=H) (Gw s.heap.objs.size) I.fresh;refine⟨s.heap.objs.size,_,_,_,_,_,(λi=>bs.getD i false),rfl,CQ (A:=(bx X x oe).A.in1) (x:=x) (oe:=oe) rfl hd h2 hne hxi its.toArray,⟨⟨⟨_,F8 _ rfl,rfl,rfl⟩,pl.isList.push _⟩,F7 _ hx⟩,λi v s' Q' E' hv hQ=>?_,λh' tk hk=>?_⟩
 ·rw[eb]at hv;have hv':(bs.map Value.bool)[i]?=some v:=by simpa using hv
  rw[Gd]at hv';cases eg:bs[i]? with
  | none=>rw[eg]at hv';cases hv'
  | some b=>
   rw[eg]at hv';cases hv';have hQ':Q' (bs.getD i false) s':=hQ;rw[show bs.getD i false=b by rw[List.getD_eq_getElem?_getD,eg];rfl]at hQ';exact wpAny_truthy_bool hQ'
 ·obtain⟨f0,f1,f2,f3,f4,f5⟩:=hf;have hl:=rv.length;rw[Ga]at hl;refine⟨.bl (bs.any id),H,I1.turned (it:=s.heap.objs.size) (λb o hb e=>hk b o (by simpa using hb) e) f0 f1 f3 f4 f5,?_,q⟩;show Value.bool _=Value.bool _;rw[Gg,←hl,any_range]
end
section
variable {prog:Program} {w:World} {A:Around} {E:Value->Shared->Prop} {s:Shared} {dd:Option Addr}
end
section
variable {X:Cx} {x:Addr} {oe:Obj}
end
section
variable {X:Cx}
end
section
variable {prog:Program} {w:World} {A:Around} {E:Value->Shared->Prop} {K:F6} {x D:Addr} {ox:Obj} {h:Heap} {g:Array GenState} {dr:Drawn} {t:Nat} {os:OsState}
variable {nm q:Str} {N:Addr} {bs bm bmB:List Value} {sn:List Str} {sub:List Value} {ab:Bool} {col:Option Bool} {dd:Option Addr} {k0 k1 k2 k3 k5:Option Value} {newId:String} {name:Str} {v:Value}
end
section
variable {prog:Program} {w:World} {A:Around} {E:Value->Shared->Prop} {h:Heap} {g:Array GenState} {d:Drawn} {t:Nat} {os:OsState}
variable {nm q:Str} {C N:Addr} {bs bm bmB:List Value} {hdct:Bool} {sn:List Str} {sub:List Value} {ab:Bool} {col:Option Bool} {dd:Option Addr} {k0 k1 k2 k3 k5:Option Value} {B newId initId:String} {K:F6}
end
section
variable {P:Program} {w:World} {A:Around} {E:Value->Shared->Prop} {K:F6} {s:Shared} {e C:Addr} {oe:Obj} {v:Value}
end
section
variable {M:Model} {A:Around} {E:Value->Shared->Prop} {env:Env} {nm q:Str} {C N:Addr} {bs bm bmB:List Value} {hdct:Bool} {sn:List Str} {sub:List Value} {ab:Bool} {col:Option Bool} {dd:Option Addr} {k0 k1 k2 k3 k5:Option Value} {newId:String}
end
section
variable {prog:Program} {w:World} {A:Around} {E:Value->Shared->Prop} {s:Shared} {env:Env} {K:F6} {nm q:Str} {C N:Addr} {bs bm bmB:List Value} {hdct:Bool} {sn:List Str} {sub:List Value} {ab:Bool} {col:Option Bool} {dd:Option Addr} {k0 k1 k2 k3 k5:Option Value} {B newId initId:String}
end
section
variable {P:Program} {w:World} {K:F6} {mg:Str->Option Value} {base:Heap} {N:List Str} {qual:Str} {scope:Scope} {f:Addr} {cd:Value} {A:Around} {outer:List Env} {s₀:Shared} {H₀:Hp} {E:XK}
end
section
variable {P:Program} {w:World} {K:F6} {mg:Str->Option Value} {base:Heap}
end
section
variable {Y:Cx} {x:Addr} {oe:Obj}
end
section
variable {prog:Program} {w:World} {A:Around} {E:Value->Shared->Prop} {K:F6} {x D:Addr} {ox:Obj} {od:Option Obj} {name:Str} {v:Value}
end
section
variable {X:Cx} {x D:Addr} {oe:Obj} {da:Option Addr}
end
section
variable {P:Program} {w:World} {A:Around} {E:Value->Shared->Prop} {s:Shared}
end
section
variable {X:Cx}
end
section
variable {prog:Program} {w:World} {A:Around} {E:Value->Shared->Prop} {s:Shared}
end
section
variable {X:Cx}
end
def gK{x:Str}{c:Addr}:∀(names:List (Str×NameKind)) (n:Nat) (acc:List (Str×Addr)),(cellsFrom n names acc).lookup x=some c->acc.lookup x=some c\/(n<=c/\(x,NameKind.cell)∈names)
 | [],_,_,h=>.inl h
 | (y,k)::r,n,acc,h=>by
  unfold cellsFrom at h;by_cases hk:(k == NameKind.cell)=true
  ·rw[Hf hk]at h;have hk':k=.cell:=by simpa using hk
   subst hk';rcases gK r (n+1) ((y,n)::acc) h with h|⟨h1,h2⟩
   ·rw[GY]at h;cases hb:x == y with
    | true=>
     rw[hb]at h;cases h;rw[beq_iff_eq.mp hb];exact .inr ⟨Gw _,Gh⟩
    | false=>rw[hb]at h;exact .inl h
   ·exact .inr ⟨Nat.le_of_succ_le h1,Ge _ h2⟩
  ·rw[He hk]at h;rcases gK r n acc h with h|⟨h1,h2⟩
   ·exact .inl h
   ·exact .inr ⟨h1,Ge _ h2⟩
def kh{x y:Str}{c:Addr}:∀(names:List (Str×NameKind)) (n:Nat) (acc:List (Str×Addr)),(∀x c,acc.lookup x=some c->@LT.lt Nat _ c n)->(∀x y c,acc.lookup x=some c->acc.lookup y=some c->x=y)->(cellsFrom n names acc).lookup x=some c->(cellsFrom n names acc).lookup y=some c->x=y
 | [],_,_,_,hi,h1,h2=>hi _ _ _ h1 h2
 | (z,k)::r,n,acc,hb,hi,h1,h2=>by
  unfold cellsFrom at h1 h2;by_cases hk:(k == NameKind.cell)=true
  ·rw[Hf hk]at h1 h2;refine kh r (n+1) ((z,n)::acc) (λx c h=>?_) (λx y c h1 h2=>?_) h1 h2
   ·rw[GY]at h;cases e:x == z with
    | true=>rw[e]at h;cases h;exact Nat.lt_succ_self _
    | false=>rw[e]at h;exact Nat.lt_succ_of_lt (hb x c h)
   ·rw[GY]at h1 h2;cases e1:x == z with
    | true=>
     rw[e1]at h1;cases h1;cases e2:y == z with
     | true=>rw[beq_iff_eq.mp e1,beq_iff_eq.mp e2]
     | false=>rw[e2]at h2;exact absurd (hb _ _ h2) (Nat.lt_irrefl _)
    | false=>
     rw[e1]at h1;cases e2:y == z with
     | true=>rw[e2]at h2;cases h2;exact absurd (hb _ _ h1) (Nat.lt_irrefl _)
     | false=>rw[e2]at h2;exact hi _ _ _ h1 h2
  ·rw[He hk]at h1 h2;exact kh r n acc hb hi h1 h2
def nj{x:Str}{c:Addr}:∀(names:List (Str×NameKind)) (h:Heap) (acc:List (Str×Addr)),(cellsFrom h.objs.size names acc).lookup x=some c->acc.lookup x=some c\/(pushCells h names).IsCell c none
 | [],_,_,e=>.inl e
 | (y,k)::r,h,acc,e=>by
  unfold cellsFrom at e;unfold pushCells;by_cases hk:(k == NameKind.cell)=true
  ·rw[Hf hk]at e ⊢;rw[←Heap.size_push h { cls:=.type "cell",data:=.cell none }]at e;rcases nj r (h.push { cls:=.type "cell",data:=.cell none }) ((y,h.objs.size)::acc) e with e|e
   ·rw[GY]at e;cases hb:x == y with
    | true=>
     rw[hb]at e;cases e;exact .inr ⟨_,pushCells_keeps _ _ _ _ (F8 _ rfl),rfl⟩
    | false=>rw[hb]at e;exact .inl e
   ·exact .inr e
  ·rw[He hk]at e ⊢;exact nj r h acc e
section
variable {M:Model} {A:Around} {E:Value->Shared->Prop} {s:Shared}
def yX{scope:Scope}{globals:Addr}{closure:List (Str×Addr)}{qual:Str}{func:Option Addr}{code:Value}{outer:Env}{builtins:Addr}{Q:Env->Shared->Prop}
  (hQ:Q (newEnv scope s.heap.objs.size globals (cellsFrom (s.heap.objs.size+1) scope.names closure) qual func code (some outer) builtins) { s with heap:=pushCells (s.heap.push { cls:=.type "dict",data:=.dict #[] }) scope.names }) :
  wpAny M A (newFunctionEnv scope globals closure [] qual func code (some outer) builtins) Q E s:=by
 simp only[newFunctionEnv,Option.isSome_some,if_true];refine F4 (wpAny_alloc ?_);refine F4 (wpAny_layCells _ (λname kind cells=>by cases hkc:kind == NameKind.cell<;>simp[hkc]) _ _ _ _ ?_);rw[show ({ s with heap:=s.heap.push { cls:=.type "dict",data:=.dict #[] } }:Shared).heap.objs.size=s.heap.objs.size+1 from Heap.size_push ..];refine F4 ?_;rw[List.forIn_nil];exact F5 (F5 hQ)
end
def gA(X:Cx)(sc:Scope)(C:Addr):List (Str×Addr):=cellsFrom (Nat.succ C) sc.names (cO sc.names X.env.cells)
def cy(X:Cx)(sc:Scope)(own:List Str)(js:List Nat)(z:Blk):Cx where
 prog:=X.prog
 w:=X.w
 K:=X.K
 mg:=X.mg
 base:=X.base
 A:=X.A
 N:=own++js.map λj=>X.N.getD j ""
 s₀:=z.s
 H₀:=z.H
 env:=compEnvC sc (gA X sc z.C) z.C X.env
 outer:=X.stack
 stack:=X.stack
 ex:=z.fp
 fn:=λx=>sc.names.lookup x == some .cell
 calm:=X.calm
 pn:=[]
 xe:=λ_ _=>False
def dG(sc out:Scope):Bool:=sc.names.all λp=>(p.2 != .cell || sc.names.lookup p.1 == some .cell) && (p.2 != .local || sc.names.lookup p.1 == some .local) && (p.2 != .free || out.names.lookup p.1 == some .cell || out.names.lookup p.1 == some .free) && (p.2 != .free || sc.names.lookup p.1 == some .free)
def lz{sc out:Scope}(h:dG sc out=true){p:Str×NameKind}(hp:p∈sc.names)(hf:p.2=.free):out.names.lookup p.1=some .cell\/out.names.lookup p.1=some .free:=by have:=GK.mp h p hp;simp[hf]at this;exact this.1
def Dt{sc out:Scope}(h:dG sc out=true){x:Str}(hp:(x,NameKind.free)∈sc.names)(h2:sc.names.lookup x=some .cell):False:=by have:=GK.mp h _ hp;simp[h2]at this
def Cb{sc out:Scope}(h:dG sc out=true){p:Str×NameKind}(hp:p∈sc.names)(hf:p.2=.cell):sc.names.lookup p.1=some .cell:=by have:=GK.mp h p hp;simp[hf]at this;exact this
def xX{sc out:Scope}(h:dG sc out=true){p:Str×NameKind}(hp:p∈sc.names)(hf:p.2=.local):sc.names.lookup p.1=some .local:=by have:=GK.mp h p hp;simp[hf]at this;exact this
section
variable {X:Cx} {pins:List (Addr×Obj)} {σ:St} {H:Hp} {s:Shared}
def iU(ok:X.Ok){sc:Scope}(hb:dG sc X.env.scope=true){x:Str}{c:Addr}(h:(cO sc.names X.env.cells).lookup x=some c):X.env.cells.lookup x=some c:=by
 rcases lE X.env.cells sc.names [] x c h with⟨h1,h2⟩|h1
 ·obtain⟨d,hd⟩:=ok.has x (lz hb h1 rfl);rw[hd]at h2 ⊢;rw[h2];rfl
 ·simp at h1
def iP(ok:X.Ok){sc:Scope}(hb:dG sc X.env.scope=true){C:Addr}{x:Str}{c:Addr}(h:(gA X sc C).lookup x=some c):X.env.cells.lookup x=some c\/(@LT.lt Nat _ C c/\sc.names.lookup x=some .cell):=by
 rcases gK _ _ _ h with h|⟨h1,h2⟩
 ·exact .inl (iU ok hb h)
 ·exact .inr ⟨h1,Cb hb h2 rfl⟩
def pU{sc:Scope}{x:Str}{C:Addr}(h:(x,NameKind.free)∈sc.names):∃c,(gA X sc C).lookup x=some c:=by obtain⟨c,hc⟩:=vF (cells:=X.env.cells) h;exact Option.isSome_iff_exists.mp (PySem.W.cellsFrom_some sc.names _ _ (.inr (by rw[hc];rfl)))
def zg(I:Inv X pins σ H s){sc:Scope}(hb:dG sc X.env.scope=true){x:Str}{c:Addr}(h:(cO sc.names X.env.cells).lookup x=some c):@LT.lt Nat _ c s.heap.objs.size:=I.cell_lt (iU I.ok hb h)
def Bk(I:Inv X pins σ H s){sc:Scope}{own:List Str}{js:List Nat}{fp:List Addr}{C:Nat}(hk:sc.kind=.function)(hb:dG sc X.env.scope=true)
  (hfp:∀b∈fp,cN X pins H b) (hC:s.heap.objs.size<=C) (hlt:∀b∈fp,b<s.heap.objs.size):(cy X sc own js ⟨s,H,fp,C⟩).Ok where
 mod:=I.ok.mod
 kind:=hk
 glob:=I.ok.glob
 blt:=I.ok.blt
 above:=hC
 inj:=λx y c h1 h2=>kh sc.names _ _ (λx c e=>Nat.lt_succ_of_le (GI (Nat.le_of_lt (zg I hb e)) hC)) (λx y c e1 e2=>I.ok.inj x y c (iU I.ok hb e1) (iU I.ok hb e2)) h1 h2
 has:=λx hx=>by
  have hx':(relabel sc X.env).names.lookup x=some .cell\/(relabel sc X.env).names.lookup x=some .free:=hx;have go:∀k,(relabel sc X.env).names.lookup x=some k->(k=.cell\/k=.free)->∃c,(gA X sc C).lookup x=some c:=λk h hkk=>by
   obtain⟨k',h1,h2⟩:=jW (sc:=sc) (env:=X.env) h;have m:=iG h1;rcases h2 with h2|⟨h2,_⟩
   ·subst h2;rcases hkk with e|e
    ·rw[e]at h1;exact Option.isSome_iff_exists.mp (PySem.W.cellsFrom_some sc.names _ _ (.inl h1))
    ·rw[e]at m;exact pU m
   ·rw[h2]at m;exact pU m
  rcases hx' with h|h
  ·exact go _ h (.inl rfl)
  ·exact go _ h (.inr rfl)
 cab:=λx c h e=>by
  have hx:sc.names.lookup x=some .cell:=by simpa[cy]using h
  have e':(gA X sc C).lookup x=some c:=e;rcases gK _ _ _ e' with e1|⟨e1,_⟩
  ·rcases lE X.env.cells sc.names [] x c e1 with⟨h1,_⟩|h1
   ·exact(Dt hb h1 hx).elim
   ·simp at h1
  ·exact GI hC (Nat.le_of_succ_le e1)
 hd:=I.ok.hd
 frames:=I.ok.frames
 stk:=.inl rfl
 exf:=λb hb'=>⟨Gv (GH (hlt b hb') hC),λx c e=>by
  rcases iP I.ok hb (C:=C) e with e|⟨e,_⟩
  ·exact(hfp b hb').2.2.2.2.1 x c e
  ·exact Nat.ne_of_gt (Nat.lt_trans (GH (hlt b hb') hC) e)⟩
 bs:=I.bs
 bsz:=GI I.ok.bsz I.sz
 noex:=λb o e hb'=>by
  rcases(hfp b hb').2.2.2.1 with z|z
  ·exact I.ok.noex b o e z
  ·exact absurd (GH (F9 e) (GI I.ok.bsz z)) (Nat.lt_irrefl _)
 exfs:=λb hb' hm=>by
  rcases Gq.mp (I.stkSub b hm)with e|h
  ·exact(hfp b hb').2.1 e
  ·exact(hfp b hb').2.2.1 h
 funs:=I.stack
 frf:=I.stkFree
def yV(I:Inv X pins σ H s){sc:Scope}{own:List Str}{js:List Nat}{fp:List Addr}{C D:Nat}{h1:Heap}{tk:Nat}{o:Obj}{m:Str->Option Value}(hk:sc.kind=.function)(hb:dG sc X.env.scope=true)(hj:lD sc X.N js=true)
  (hfp:∀b∈fp,cN X pins H b) (hlt:∀b∈fp,b<s.heap.objs.size) (hD:D=s.heap.objs.size) (hC:C=s.heap.objs.size+1) (old:∀b o,s.heap.get? b=some o->h1.get? b=some o)
  (hDo:h1.get? D=some o) (hod:∀v,o.data≠.cell v) (hm:h1.Ns C m) (hcl:∀x c,(gA X sc C).lookup x=some c->(cO sc.names X.env.cells).lookup x=some c\/h1.IsCell c none) :
  Inv (cy X sc own js ⟨s,H,fp,C⟩) [(D,o)] (dh own.length js σ) H { s with heap:=h1,toks:=tk } where
 ok:=Bk I hk hb hfp (show @LE.le Nat _ s.heap.objs.size C by omega) hlt
 os:=rfl
 bare:=I.bare
 base:=Un.kept old
 loc:=by
  refine⟨m,hm,λi x v e1 e2 e3=>?_⟩;obtain⟨k,j,rfl,ej,es⟩:=tQ e2;have e1':(own++js.map λj=>X.N.getD j "")[own.length+k]?=some x:=e1;rw[GA (by omega),Nat.add_sub_cancel_left,Gd,ej]at e1';have ex:X.N.getD j "" = x:=by simpa using e1'
  have hjj:=GK.mp hj j (Gk ej);simp only[GO,decide_eq_true_eq,beq_iff_eq]at hjj;have exN:X.N[j]?=some x:=by rw[←ex,List.getD_eq_getElem?_getD,Gb hjj.1];rfl
  have hfree:sc.names.lookup x=some .free:=by rw[←ex];exact hjj.2
  have hmem:=iG hfree;have hout:=lz hb hmem rfl;obtain⟨m0,hn0,hl0⟩:=I.loc;obtain⟨u,r,l⟩:=hl0 j x v exN es (by rcases hout with z|z;exact .inr (.inl z);exact .inr (.inr z));refine⟨u,r,?_⟩;obtain⟨c,hc⟩:=pU (X:=X) (C:=C) hmem;have hc':X.env.cells.lookup x=some c:=by
   rcases iP I.ok hb hc with e|⟨_,e⟩
   ·exact e
   ·rw[hfree]at e;cases e
  have hcell:s.heap.IsCell c (some u):=by
   rcases l with⟨z,_⟩|⟨_,c',e',q⟩
   ·have z':X.env.scope.names.lookup x=some .local:=z;rcases hout with w|w<;>(rw[z']at w;cases w)
   ·rw[hc']at e';cases e';exact q
  have hcell1:h1.IsCell c (some u):=by obtain⟨oc,ho,hd⟩:=hcell;exact⟨oc,old c oc ho,hd⟩
  right;refine⟨?_,c,hc,hcell1⟩;have e3':(relabel sc X.env).names.lookup x=some .local\/(relabel sc X.env).names.lookup x=some .cell\/(relabel sc X.env).names.lookup x=some .free:=e3;rcases e3' with z|z
  ·obtain⟨k',z1,z2⟩:=jW (sc:=sc) (env:=X.env) z;rw[hfree]at z1;rcases z2 with z2|⟨_,z2⟩
   ·rw[z2]at z1;cases z1
   ·cases z2
  ·exact z
 cell:=λx c e=>by
  rcases hcl x c e with e|e
  ·obtain⟨v,oc,ho,hd⟩:=I.cell x c (iU I.ok hb e);exact⟨v,oc,old c oc ho,hd⟩
  ·exact⟨none,e⟩
 free:=I.hok.fresh (show @LE.le Nat _ s.heap.objs.size C by omega)
 freeC:=λx c e=>by
  rcases iP I.ok hb (C:=C) e with e|⟨e,_⟩
  ·exact I.freeC x c e
  ·exact I.hok.fresh (show @LE.le Nat _ s.heap.objs.size c by omega)
 pin:=λp hp=>by
  have e:p=(D,o):=by simpa[cy]using hp
  subst e;refine⟨hDo,I.hok.fresh (show @LE.le Nat _ s.heap.objs.size D by omega),?_,λz=>?_,hod⟩
  ·exact Gv (show @LT.lt Nat _ D C by omega)
  ·have h9:@LT.lt Nat _ D s.heap.objs.size:=I.stk_lt (b:=D) z;omega
 hok:=I.hok.kept old
 len:=by show(dh own.length js σ).length=(own++js.map λj=>X.N.getD j "").length;simp[dh]
def yD{elt tg iter:Expr}{ifs:List Expr}{sc:Scope}{pos:Pos}{own:List Str}{js:List Nat}{g:TG}{tc:TT}{te:TE}{J:It}{it:Addr}{fp:List Addr}{tn:Nat->Heap->Prop}{RR:Value->Addr->Result->Shared->Prop}{E:Value->Shared->Prop}
  {Q:VK} {W:Nat->Nat->List V->Hp->Prop} (hk:sc.kind=.function) (hb:dG sc X.env.scope=true) (hj:lD sc X.N js=true)
  (hg:∀C,PG (cy X sc own js ⟨s,H,fp,C⟩) tg g) (ht:∀C,jR (cy X sc own js ⟨s,H,fp,C⟩) ifs tc) (he:∀C,PE (cy X sc own js ⟨s,H,fp,C⟩) elt te)
  (I:Inv X pins σ H s) (T:∀C,TurnAt (cy X sc own js ⟨s,H,fp,C⟩) tg J fp it tn) (st:tn 0 s.heap) (hfp:∀b∈fp,cN X pins H b) (w0:∃m,W 0 m [] H)
  (turn:∀i m ys H',W i m ys H'->(J.stop i H'/\∀p,H' p=none->Q (.ref p) (upd H' p (.lst ys))) ∨
   (J.go i H'/\ys.length<sizeLine/\∃N:List V->Hp->Prop,(∀ys' H2,N ys' H2->∃m',m'<m/\W (i+1) m' ys' H2)/\∀x H2,J.yld i H' x H2->g x (dh own.length js σ) H2 λσ2 H3=>tc σ2 H3 λb H4=>
    if b=true then te σ2 H4 λv H5=>N (ys++[v]) H5 else N ys H4))
  (fin:∀D C s' ys H',H' D=none->Inv X pins σ (upd H' D (.lst ys)) s'->cN X pins (upd H' D (.lst ys)) C->(∃m,s'.heap.Ns C m)->s.heap.objs.size<=C->Q (.ref D) (upd H' D (.lst ys))->RR (.ref D) C (.ok .next) s') :
  wpAny (model X.prog X.w) X.A (newList []) (λacc s₃=>wpAny (model X.prog X.w) X.A (newFunctionEnv sc X.env.globals (cO sc.names X.env.cells) [] X.env.qual none .none (some X.env)) (λcenv s₄=>
   codeAny (model X.prog X.w) X.A (.compStart (.ListComp elt [⟨tg,iter,ifs,0⟩] sc pos) 0 (.ref it) acc { cenv with scope:=relabel sc X.env }) (RR acc cenv.locals) s₄) E s₃) E s:=by
 have hlt:∀b∈fp,b<s.heap.objs.size:=λb hb'=>by obtain⟨o,e,_⟩:=(T 0).obj 0 s.heap st b hb';exact F9 e
 refine wpAny_newObj_type (yX ?_);dsimp only;generalize hH2:s.heap.push { cls:=.type "list",dict:=none,data:=.seq ([]:List Value).toArray }=H2 at *;have hCs:H2.objs.size=s.heap.objs.size+1:=by rw[←hH2,Heap.size_push]
 have hns₁:(pushCells (H2.push { cls:=.type "dict",data:=.dict #[] }) sc.names).Ns H2.objs.size (λ_=>none):=(Heap.Ns.new H2 (.type "dict")).keeps (pushCells_keeps _ _);have hcl₁:∀x c,(gA X sc H2.objs.size).lookup x=some c->(cO sc.names X.env.cells).lookup x=some c\/(pushCells (H2.push { cls:=.type "dict",data:=.dict #[] }) sc.names).IsCell c none:=λx c e=>by have e':(cellsFrom (H2.objs.size+1) sc.names (cO sc.names X.env.cells)).lookup x=some c:=e;rw[←Heap.size_push H2 { cls:=.type "dict",data:=.dict #[] }]at e';exact nj _ _ _ e'
 have old:∀b o,s.heap.get? b=some o->(pushCells (H2.push { cls:=.type "dict",data:=.dict #[] }) sc.names).get? b=some o:=λb o e=>pushCells_keeps _ _ b o (F7 _ (hH2 ▸ F7 _ e));have hDo:(pushCells (H2.push { cls:=.type "dict",data:=.dict #[] }) sc.names).get? s.heap.objs.size=some (dO [] 0):=pushCells_keeps _ _ _ _ (F7 _ (hH2 ▸ F8 _ rfl));generalize pushCells (H2.push { cls:=.type "dict",data:=.dict #[] }) sc.names=h₁ at *;generalize hCe:H2.objs.size=C at *;have below:∀b:Nat,b<s.heap.objs.size->b≠C:=λb hb'=>by omega
 generalize hDe:s.heap.objs.size=D at *;let Y:Cx:=cy X sc own js ⟨s,H,fp,C⟩;have J0:Inv Y [(D,dO [] 0)] (dh own.length js σ) H { s with heap:=h₁ }:=
  yV I hk hb hj hfp (by rw[hDe];exact hlt) hDe.symm (by rw[hDe];exact hCs) old hDo (λv z=>by cases z) hns₁ hcl₁
 have ndC:@Ne Nat D C:=by omega
 have statF:∀{P':List (Addr×Obj)} {H':Hp},(∀b∈fp,H' b=none)->(∀p∈P',p.1∉fp)->∀b∈fp,cN Y P' H' b:=λ{P' H'} hn hp b hb'=>by
  obtain⟨f0,f1,f2,f3,f4,f5⟩:=hfp b hb';refine⟨hn b hb',λz=>below b (hlt b hb') z,λz=>?_,.inl hb',λx c e=>?_,λp hp' z=>?_⟩
  ·rcases Gq.mp (I.stkSub b z)with e|h
   ·exact f1 e
   ·exact f2 h
  ·rcases iP I.ok hb (C:=C) e with e|⟨e,_⟩
   ·exact f4 x c e
   ·have h9:@LT.lt Nat _ b s.heap.objs.size:=by rw[hDe];exact hlt b hb'
    exact Nat.ne_of_gt (show @LT.lt Nat _ b c by omega)
  ·have:p∈P':=by simpa[Y,cy]using hp'
   exact hp p this (by rw[z];exact hb')
 have Dfp:D∉fp:=λz=>by have h9:@LT.lt Nat _ D D:=hlt D z;omega
 have st1:tn 0 h₁:=(T 0).keep 0 s.heap h₁ st λb _ o e=>old b o e;have loop:∀s₃:Shared,s₃={ s with heap:=h₁ } →
   codeAny (model X.prog X.w) X.A (.compLoop (.ListComp elt [⟨tg,iter,ifs,0⟩] sc pos) 0 (.ref it) (.ref D) Y.env) (RR (.ref D) C) s₃:=by
  rintro s₃ rfl;obtain⟨m0,w0⟩:=w0;refine CV (λn s'=>∃i ys its q H',Inv Y [(D,dO its q)] (dh own.length js σ) H' s'/\Vals ys its/\ys.length<=sizeLine/\tn i s'.heap/\(∀b∈fp,H' b=none)/\W i n ys H') ?_ m0
   ⟨0,[],[],0,H,J0,.nil,Nat.zero_le _,st1,λb hb'=>(hfp b hb').1,w0⟩
  rintro n s3 ⟨i,ys,its,q,H3,I3,rv,hz,st3,fr3,w3⟩;have pD:∀p∈[(D,dO its q)],p.1∉fp:=λp hp=>by
   have e:p=(D,dO its q):=by simpa using hp
   rw[e];exact Dfp
  rcases turn i n ys H3 w3 with⟨stop,qn⟩|⟨go,hlen,N,hN,step⟩
  ·refine ax ((T C).done i _ s3 _ H3 _ I3 (statF fr3 pD) st3 stop) λr s4 ⟨hr,I4⟩=>?_;subst hr;show RR (.ref D) C (.ok .next) s4;have hDp:=I4.pin (D,dO its q) (GR _ (Gm.mpr rfl));have hD4:s4.heap.get? D=some (dO its q):=hDp.1;have nD:H3 D=none:=hDp.2.1;have U:Un (aX X.stack) fp H H3 s.heap s4.heap:=I4.base;have neD:∀b o,s.heap.get? b=some o->b≠D:=λb o e=>Gv (by have h9:@LT.lt Nat _ b s.heap.objs.size:=F9 e;omega);have neDH:∀b o,H b=some o->b≠D:=λb o e=>Gv (by have h9:@LT.lt Nat _ b s.heap.objs.size:=I.hok.lt e;omega);have U2:Un (aX X.stack) fp H (upd H3 D (.lst ys)) s.heap s4.heap:=
    ⟨U.keep,U.slot,λb o e n hx=>by rw[az (neD b o e)];exact U.free b o e n hx,U.there,λb xs e=>by rw[az (neDH b _ e)];exact U.tups b xs e,
     λb o u e=>by rw[az (neDH b _ e)];exact U.frzs b o u e,λb ps e=>by rw[az (neDH b _ e)];exact U.tbls b ps e⟩
   have hok2:bh X.prog X.w (upd H3 D (.lst ys)) s4.heap:=λb o e=>by
    by_cases hb':b=D
    ·subst hb';rw[aO]at e;cases e;exact⟨hz,its,q,rv,hD4⟩
    ·rw[az hb']at e;exact(I4.hok b o e).stay (λc u _ z=>z) (λc z=>by rw[az (bW z nD)];exact z) λc xs z=>by rw[az (bW z nD)];exact z
   have IX:Inv X pins σ (upd H3 D (.lst ys)) s4:=I.call' (ch:=fp) I4.os U2 hok2 I4.bare λb hb'=>by obtain⟨f0,f1,f2,f3,f4,f5⟩:=hfp b hb';exact⟨f3,f1,f4,f5⟩
   obtain⟨m4,hn4,_⟩:=I4.loc;have nC:H3 C=none:=I4.free;refine fin D C s4 ys H3 nD IX ?_ ⟨m4,hn4⟩ (show @LE.le Nat _ D C by omega) (qn D nD);refine⟨by rw[az (Ne.symm ndC)];exact nC,?_,?_,?_,?_,?_⟩
   ·have h9:@LT.lt Nat _ X.env.locals s.heap.objs.size:=I.lt;exact Nat.ne_of_gt (show @LT.lt Nat _ X.env.locals C by omega)
   ·exact I.nofs (show @LE.le Nat _ s.heap.objs.size C by omega)
   ·right;have h9:@LE.le Nat _ X.s₀.heap.objs.size s.heap.objs.size:=I.sz;exact(show @LE.le Nat _ X.s₀.heap.objs.size C by omega)
   ·intro x c e;have h9:@LT.lt Nat _ c s.heap.objs.size:=I.cell_lt e;exact Gv (show @LT.lt Nat _ c C by omega)
   ·intro p hp;have h9:@LT.lt Nat _ p.1 s.heap.objs.size:=I.pin_lt hp;exact Gv (show @LT.lt Nat _ p.1 C by omega)
  ·refine ax ((T C).item i _ s3 _ H3 _ I3 (statF fr3 pD) st3 go) λr s4 ⟨u,hr,h4⟩=>?_;subst hr;refine ax h4 λ_ s5 ⟨x,H5,I5,r5,y5,st5,fr5⟩=>?_;have I5':=I5.pinned (statF fr5 pD) ((T 0).obj _ _ st5);refine ax (hg _ _ s5 _ H5 x u _ I5' r5 (step x H5 y5)) λ_ s6 ⟨σ6,H6,I6,q6⟩=>?_;refine ax (ht _ _ s6 σ6 H6 _ I6 q6) λok s7 ⟨H7,I7,q7⟩=>?_;have back:∀{s':Shared} {σ':St} {H':Hp} {ys':List V} {its':List Value} {q':Nat},Inv Y ([(D,dO its' q')]++f9 fp s5.heap) σ' H' s'->Vals ys' its'->ys'.length<=sizeLine->N ys' H' →
     ∃m,m<n/\∃i ys its q H',Inv Y [(D,dO its q)] (dh own.length js σ) H' s'/\Vals ys its/\ys.length<=sizeLine/\tn i s'.heap/\(∀b∈fp,H' b=none)/\W i m ys H':=by
    intro s' σ' H' ys' its' q' I' rv' hz' nn;obtain⟨m',hm,w'⟩:=hN ys' H' nn;have hpin:∀b∈fp,∀o,s5.heap.get? b=some o->s'.heap.get? b=some o/\H' b=none:=λb hb' o e=>by have:=I'.pin (b,o) (GR _ (GR _ (ng hb' e)));exact⟨this.1,this.2.1⟩
    refine⟨m',hm,i+1,ys',its',q',H',?_,rv',hz',(T 0).keep _ _ _ st5 λb hb' o e=>(hpin b hb' o e).1,λb hb'=>?_,w'⟩
    ·have I'':=I'.unpinned;obtain⟨mm,hmm,_⟩:=id I''.loc;refine⟨I''.ok,I''.os,I''.bare,I''.base,⟨mm,hmm,λk x v e1 e2 e3=>?_⟩,I''.cell,I''.free,I''.freeC,I''.pin,I''.hok,?_⟩
     ·obtain⟨m1,hn1,hl1⟩:=J0.loc;obtain⟨u1,r1,l1⟩:=hl1 k x v e1 e2 e3;refine⟨u1,r1,?_⟩;obtain⟨k',j,rfl,ej,es⟩:=tQ e2;have e1':(own++js.map λj=>X.N.getD j "")[own.length+k']?=some x:=e1;rw[GA (by omega),Nat.add_sub_cancel_left,Gd,ej]at e1';have ex:X.N.getD j "" = x:=by simpa using e1'
      have hjj:=GK.mp hj j (Gk ej);simp only[GO,decide_eq_true_eq,beq_iff_eq]at hjj;have hfree:sc.names.lookup x=some .free:=by rw[←ex];exact hjj.2
      rcases l1 with⟨z,zz⟩|⟨z,c,e,zz⟩
      ·exfalso;obtain⟨k2,z1,z2⟩:=jW (sc:=sc) (env:=X.env) (show(relabel sc X.env).names.lookup x=some .local from z);rw[hfree]at z1;rcases z2 with z2|⟨_,z2⟩
       ·rw[z2]at z1;cases z1
       ·cases z2
      ·refine .inr ⟨z,c,e,?_⟩;have hcs:X.env.cells.lookup x=some c:=by
        rcases iP I.ok hb (C:=C) e with e|⟨_,e⟩
        ·exact e
        ·rw[hfree]at e;cases e
       obtain⟨ov,oc,hoc,hdc⟩:=I.cell x c hcs;have hoc1:=old c oc hoc;obtain⟨oz,hoz,hdz⟩:=zz;have hoz':h₁.get? c=some oz:=hoz;rw[hoc1]at hoz';cases hoz';have cnf:c∉fp:=λz'=>(hfp c z').2.2.2.2.1 x c hcs rfl;obtain⟨sl,hh⟩:=I''.base.any hoc (I.freeC x c hcs) cnf;exact⟨_,hh,hdz⟩
     ·show(dh own.length js σ).length=_;exact J0.len
    ·obtain⟨o,e,d⟩:=(T 0).obj _ _ st5 b hb';exact(hpin b hb' o e).2
   cases ok with
   | false=>
    rw[He Gr]at q7 ⊢;exact back I7 rv hz q7
   | true=>
    rw[Hf rfl]at q7 ⊢;refine ax (he _ _ s7 σ6 H7 _ I7 q7) λxv s8 ⟨v,H8,I8,r8,q8⟩=>?_;have hDp:=I8.pin (D,dO its q) (GR _ (GS _ (Gm.mpr rfl)));have hD8:s8.heap.get? D=some { cls:=.type "list",data:=.seq its.toArray q }:=hDp.1;have hl:=rv.length;refine call_meets F.slot_list_append ⟨_,hD8,rfl⟩ F.entry_list_append (F.args_list_append_2 _ _) (PySem.list_append D its.toArray q xv (by rw[Gg];omega)) ⟨hD8,?_⟩;have qq:=PySem.IsL.update hD8 (λa=>a.push xv);have eqs:its.toArray.push xv=(its++[xv]).toArray:=by simp
    rw[eqs]at qq;obtain⟨q2,hq2⟩:∃q2,(s8.heap.update D (Obj.mapSeq λa=>a.push xv)).get? D=some (dO (its++[xv]) q2):=⟨_,qq⟩;have I8a:Inv Y (f9 fp s5.heap) σ6 H8 s8:=I8.pins_of λp hp=>I8.pin p (GR _ (GR _ hp));have nD8:H8 D=none:=hDp.2.1;have I9:Inv Y (f9 fp s5.heap) σ6 H8 { s8 with heap:=s8.heap.update D (Obj.mapSeq λa=>a.push xv),toks:=s8.toks }:=by
     refine I8a.turned (it:=D) (λb o hb' e=>(Heap.get?_update_other s8.heap (Obj.mapSeq λa=>a.push xv) (Ne.symm hb')).trans e) nD8 ndC (.inr (show @LE.le Nat _ s.heap.objs.size D by omega)) (λx c e=>?_) λp hp=>?_
     ·rcases iP I.ok hb (C:=C) e with e|⟨e,_⟩
      ·have h9:@LT.lt Nat _ c s.heap.objs.size:=I.cell_lt e;exact Gv (show @LT.lt Nat _ c D by omega)
      ·exact Nat.ne_of_gt (show @LT.lt Nat _ D c by omega)
     ·have hp':p∈f9 fp s5.heap:=by simpa[Y,cy]using hp
      obtain⟨h1,_⟩:=xH hp';exact λz=>Dfp (z ▸ h1)
    refine back (ys':=ys++[v]) (its':=its++[xv]) (q':=q2) (I9.pins_of λp hp=>?_) (rv.append (.cons r8 .nil)) (by rw[Gu,List.length_singleton];omega) q8;rcases Gz.mp hp with hp|hp
    ·have e:p=(D,dO (its++[xv]) q2):=by simpa using hp
     subst e;refine⟨hq2,nD8,ndC,λz=>?_,λv z=>by cases z⟩;have h9:@LT.lt Nat _ D s.heap.objs.size:=I.stk_lt (b:=D) z;omega
    ·exact I9.pin p (GR _ hp)
 exact codeAny_compStart_list (loop _ rfl) ((T 0).self X.A 0 { s with heap:=h₁ } _ _ st1 (loop _ rfl))
def eC{elt tg iter:Expr}{ifs:List Expr}{sc:Scope}{pos:Pos}(own:List Str)(js:List Nat){wi:TI}{g:TG}{tc:TT}{te:TE}(hi:PI X tg iter wi)(hg:∀z,PG (cy X sc own js z) tg g)(ht:∀z,jR (cy X sc own js z) ifs tc)
  (he:∀z,PE (cy X sc own js z) elt te) (hc:X.calm=true:=by rfl) (hk:sc.kind=.function:=by rfl) (hb:dG sc X.env.scope=true:=by rfl) (hj:lD sc X.N js=true:=by rfl)
  (hs:∀x,foldedSetIterable iter X.env x=pure x:=by intro _;rfl):PE X (.ListComp elt [⟨tg,iter,ifs,0⟩] sc pos) (oV own.length js wi g tc te):=by
 intro pins s σ H Q I h;rw[eval_ListComp];refine wpAny_comprehension_free (use:=none) rfl hs (ni λp hp hf=>I.ok.has p.1 (lz hb hp hf)) hk (λp hp hl=>xX hb hp hl) (ax (hi pins s σ H _ I h) λv s1 h1=>ax h1 λitv s2 h2=>?_);obtain⟨it,fp,tn,J,H2,e,I2,T,st2,f2,W,w0,turn⟩:=h2;subst e;refine yD (RR:=λacc C=>compPost (model X.prog X.w) X.A X.xe none (EP X pins σ Q) acc C) hk hb hj (λ_=>hg _) (λ_=>ht _) (λ_=>he _) I2 (λC=>Turn.at_ (Y:=cy X sc own js ⟨_,_,_,C⟩) T hc) st2 f2 w0 turn ?_;intro D C s' ys H' nD I' hC ⟨m,hm⟩ _ q;refine⟨m,hm,λh' hs'=>?_⟩;obtain⟨f0,f1,f2,f3,f4,f5⟩:=hC;exact⟨.ref D,_,I'.turned (t':=s'.toks) (it:=C) (λb o hb' e=>(hs'.2 b hb').trans e) f0 f1 f3 f4 f5,rfl,q⟩
end
def cM(c:Addr)(o:Obj):HO:=.ext λh=>h.get? c=some o
def DP{P:Program}{w:World}{H:Hp}{h:Heap}{c:Addr}{o:Obj}(r:h.get? c=some o):bp P w H h c (cM c o):=⟨r,⟨o,r⟩,λh1 h2 r1 k=>k o r1⟩
def bE(cs:List (Addr×Obj))(H:Hp):Hp:=λb=>match cs.lookup b with|some o=>some (cM b o)|none=>H b
def aW(cs:List (Addr×Obj))(H:Hp):Hp:=λb=>match cs.lookup b with|some _=>none|none=>H b
section
variable {cs:List (Addr×Obj)} {H H':Hp} {b:Addr} {o:Obj} {P:Program} {w:World} {h h':Heap} {fs ex:List Addr}
def dW(q:cs.lookup b=some o):bE cs H b=some (cM b o):=by unfold bE;rw[q]
def cH(q:cs.lookup b=none):bE cs H b=H b:=by unfold bE;rw[q]
def gn(q:cs.lookup b=some o):aW cs H b=none:=by unfold aW;rw[q]
def cx(q:cs.lookup b=none):aW cs H b=H b:=by unfold aW;rw[q]
def zG{u:HO}(q:aW cs H b=some u):cs.lookup b=none/\H b=some u:=by
 cases e:cs.lookup b with
 | none=>rw[cx e]at q;exact⟨rfl,q⟩
 | some o=>rw[gn e]at q;cases q
def m3{u:HO}(hc:∀b o,cs.lookup b=some o->H b=none)(q:H b=some u):bE cs H b=some u:=by
 cases e:cs.lookup b with
 | none=>rw[cH e];exact q
 | some o=>rw[hc b o e]at q;cases q
def tG(hok:bh P w H h)(hc:∀b o,cs.lookup b=some o->h.get? b=some o)(hn:∀b o,cs.lookup b=some o->H b=none):bh P w (bE cs H) h:=λb u e=>by
 cases q:cs.lookup b with
 | some o=>rw[dW q]at e;cases e;exact DP (hc b o q)
 | none=>
  rw[cH q]at e;exact(hok b u e).stay (λd v _ g=>g) (λd hd=>m3 hn hd) λd xs hd=>m3 hn hd
def rH(hok:bh P w H h)(hc:∀b o,cs.lookup b=some o->H b=some (cM b o)):bh P w (aW cs H) h:=λb u e=>by
 obtain⟨q,e⟩:=zG e;have nt:∀d x,H d=some x->(∀f,x≠.ext f)->aW cs H d=some x:=λd x hd nx=>by
  cases z:cs.lookup d with
  | none=>rw[cx z];exact hd
  | some o'=>rw[hc d o' z]at hd;cases hd;exact absurd rfl (nx _)
 exact(hok b u e).stay (λd v _ g=>g) (λd hd=>nt d _ hd λf z=>by cases z) λd xs hd=>nt d _ hd λf z=>by cases z
def Ej(u:Un fs ex (bE cs H) H' h h')(hok':bh P w H' h')(hc:∀b o,cs.lookup b=some o->h.get? b=some o)(hn:∀b o,cs.lookup b=some o->H b=none)(hc':∀b o,cs.lookup b=some o->H' b=some (cM b o)):Un fs ex H (aW cs H') h h' where
 keep:=λb o e n nf nx=>by
  cases q:cs.lookup b with
  | none=>exact u.keep b o e (by rw[cH q];exact n) nf nx
  | some o'=>
   rw[hc b o' q]at e;cases e;exact(hok' b _ (hc' b _ q)).1
 slot:=λb o e n nf nx=>by
  cases q:cs.lookup b with
  | none=>exact u.slot b o e (by rw[cH q];exact n) nf nx
  | some o'=>
   rw[hc b o' q]at e;cases e;exact⟨_,(hok' b _ (hc' b _ q)).1⟩
 free:=λb o e n nx=>by
  cases q:cs.lookup b with
  | none=>rw[cx q];exact u.free b o e (by rw[cH q];exact n) nx
  | some o'=>exact gn q
 there:=u.there
 tups:=λb xs e=>by
  cases q:cs.lookup b with
  | none=>rw[cx q];exact u.tups b xs (by rw[cH q];exact e)
  | some o'=>rw[hn b o' q]at e;cases e
 frzs:=λb o x e=>by
  cases q:cs.lookup b with
  | none=>rw[cx q];exact u.frzs b o x (by rw[cH q];exact e)
  | some o'=>rw[hn b o' q]at e;cases e
 tbls:=λb ps e=>by
  cases q:cs.lookup b with
  | none=>rw[cx q];exact u.tbls b ps (by rw[cH q];exact e)
  | some o'=>rw[hn b o' q]at e;cases e
def y9(u:Un fs ex (aW cs H) H' h h')(hc:∀b o,cs.lookup b=some o->H b=some (cM b o)):Un fs ex H (bE cs H') h h' where
 keep:=λb o e n nf nx=>by
  cases q:cs.lookup b with
  | none=>exact u.keep b o e (by rw[cx q];exact n) nf nx
  | some o'=>rw[hc b o' q]at n;cases n
 slot:=λb o e n nf nx=>by
  cases q:cs.lookup b with
  | none=>exact u.slot b o e (by rw[cx q];exact n) nf nx
  | some o'=>rw[hc b o' q]at n;cases n
 free:=λb o e n nx=>by
  cases q:cs.lookup b with
  | none=>rw[cH q];exact u.free b o e (by rw[cx q];exact n) nx
  | some o'=>rw[hc b o' q]at n;cases n
 there:=u.there
 tups:=λb xs e=>by
  cases q:cs.lookup b with
  | none=>rw[cH q];exact u.tups b xs (by rw[cx q];exact e)
  | some o'=>rw[hc b o' q]at e;cases e
 frzs:=λb o x e=>by
  cases q:cs.lookup b with
  | none=>rw[cH q];exact u.frzs b o x (by rw[cx q];exact e)
  | some o'=>rw[hc b o' q]at e;cases e
 tbls:=λb ps e=>by
  cases q:cs.lookup b with
  | none=>rw[cH q];exact u.tbls b ps (by rw[cx q];exact e)
  | some o'=>rw[hc b o' q]at e;cases e
end
structure FunR(P:Program)(w:World)(K:F6)(mg:Str->Option Value)(base:Heap)(k:Nat)(f:Addr)(pre:Hp->Prop)(R:List V->Hp->VK->Prop):Prop where
 at_:∀H h,bh P w H h->pre H->PySem.W.FnAt f h
 run:∀(A:Around) (outer:List Env) (s:Shared) (H:Hp) (us:List Value) (vs:List V) (Q:VK),Room k A->Env0 P w K mg base A outer s H->pre H->Vals vs us->R vs H Q →
  codeAny (model P w) A (.call (.ref f) ⟨us,[]⟩) (CR dm outer P w H s Q E0) s
def qV(P:Program)(w:World)(K:F6)(mg:Str->Option Value)(base:Heap)(k:Nat)(tf:TE)(ta:TA):TE:=λσ H Q=>tf σ H λfv H1=>∃f pre R,fv=.ref f/\FunR P w K mg base k f pre R/\pre H1/\ta σ H1 λvs H2=>pre H2/\R vs H2 Q
def uN{X:Cx}{P:Program}{w:World}{K:F6}{mg:Str->Option Value}{base:Heap}{k:Nat}{x:Str}{p pos:Pos}{e:Expr}{es:List Expr}{tf:TE}{ta:TA}{A0:Around}(hr:Room k A0)(hf:PE X (.Name x p) tf)(ha:PA X (e::es) ta)(hA:X.A=A0:=by rfl)(hP:X.prog=P:=by rfl)(hw:X.w=w:=by rfl)(hK:X.K=K:=by rfl)(hm:X.mg=mg:=by rfl)(hB:X.base=base:=by rfl)
  (he:starEach (e::es) X.env=(false,eval e X.env)::starEach es X.env:=by rfl) (hpl:(backTo pos (starEach es X.env)).any (·.1)=false:=by rfl):PE X (.Call (.Name x p) (e::es) [] pos) (qV P w K mg base k tf ta):=by
 subst hA;subst hP;subst hw;subst hK;subst hm;subst hB;intro pins s σ H Q I h;refine wpAny_Call_Name_kw (ax (hf pins s σ H _ I h) λfv s1 ⟨v,H1,I1,r1,⟨f,pre,R,ev,F,hp,q1⟩⟩=>?_);subst ev;cases r1;refine PySem.W.callWith_F (first:=[]) (F.at_ _ _ I1.hok hp) (ax (ha pos pins s1 σ H1 _ I1 q1) λus s2 ⟨vs,H2,I2,r2,⟨hp2,q2⟩⟩=>?_) he hpl;refine⟨F.at_ _ _ I2.hok hp2,?_⟩;refine wpAny_call (codeAny_mono (F.run X.A X.stack s2 H2 us vs Q hr I2.env0 hp2 r2 q2) λr s' hq=>?_);cases r with
 | error e=>exact False.elim hq
 | ok fl=>
  cases fl with
  | ret u=>exact I2.after hq
  | next=>exact False.elim hq
  | brk=>exact False.elim hq
  | cont=>exact False.elim hq
structure Cap where
 n:Str
 c:Addr
 o:Obj
 v:V
abbrev cellsOf(cp:List Cap):List (Addr×Obj):=cp.map λe=>(e.c,e.o)
structure CapAt(X:Cx)(σ:St)(h:Heap)(js:List Nat)(cp:List Cap):Prop where
 len:cp.length=js.length
 at_:∀(i j:Nat) (e:Cap),js[i]?=some j->cp[i]?=some e->X.N[j]?=some e.n/\X.env.cells.lookup e.n=some e.c/\σ[j]?=some (some e.v)/\h.get? e.c=some e.o/\∃u,e.o.data=.cell (some u)/\RelV e.v u
def fQ{cp:List Cap}{b:Addr}{o:Obj}(h:(cellsOf cp).lookup b=some o):∃e∈cp,e.c=b/\e.o=o:=by
 have hm:(b,o)∈cellsOf cp:=by
  have go:∀{l:List (Addr×Obj)},l.lookup b=some o->(b,o)∈l:=by
   intro l;induction l with
   | nil=>intro h;cases h
   | cons x r ih=>
    intro h;obtain⟨y,z⟩:=x;rw[GY]at h;cases hb:b == y with
    | true=>rw[hb]at h;cases h;rw[beq_iff_eq.mp hb];exact Gh
    | false=>rw[hb]at h;exact Ge _ (ih h)
  exact go h
 obtain⟨e,he,eq⟩:=List.mem_map.mp hm;cases eq;exact⟨e,he,rfl,rfl⟩
def Ap{cp:List Cap}{e:Cap}(h:e∈cp):∃o,(cellsOf cp).lookup e.c=some o:=by
 induction cp with
 | nil=>cases h
 | cons x r ih=>
  show ∃o,List.lookup e.c ((x.c,x.o)::cellsOf r)=some o;rw[GY];cases hb:e.c == x.c with
  | true=>exact⟨_,rfl⟩
  | false=>
   rcases Gq.mp h with rfl|h
   ·simp at hb
   ·exact ih h
def j9(sc:Scope)(N:List Str)(js:List Nat):Bool:=js.all λj=>decide (j<N.length) && (sc.names.lookup (N.getD j "") == some .cell)
section
variable {X:Cx} {pins:List (Addr×Obj)} {σ:St} {H:Hp} {s:Shared}
def Inv.capAt(I:Inv X pins σ H s):∀{js:List Nat},j9 X.env.scope X.N js=true->(∀j∈js,∃v,σ[j]?=some (some v))->∃cp,CapAt X σ s.heap js cp
 | [],_,_=>⟨[],rfl,λi j e h=>by simp at h⟩
 | j::js,hj,hv=>by
  have hj2:(decide (j<X.N.length) && (X.env.scope.names.lookup (X.N.getD j "") == some .cell))=true/\j9 X.env.scope X.N js=true:=by simpa[j9]using hj
  obtain⟨cp,hcp⟩:=I.capAt (js:=js) hj2.2 λi hi=>hv i (Ge _ hi);obtain⟨v,ev⟩:=hv j Gh;have h1:=hj2.1;simp only[GO,decide_eq_true_eq,beq_iff_eq]at h1;have eN:X.N[j]?=some (X.N.getD j ""):=by rw[List.getD_eq_getElem?_getD,Gb h1.1];rfl
  obtain⟨m,hn,hl⟩:=I.loc;obtain⟨u,r,l⟩:=hl j _ v eN ev (.inr (.inl h1.2));rcases l with⟨z,_⟩|⟨_,c,hc,o,ho,hd⟩
  ·have z':X.env.scope.names.lookup (X.N.getD j "")=some .local:=z;rw[h1.2]at z';cases z'
  ·refine⟨⟨X.N.getD j "",c,o,v⟩::cp,by simp[hcp.len],λi k e h2 h3=>?_⟩;cases i with
   | zero=>
    cases h2;cases h3;exact⟨eN,hc,ev,ho,u,hd,r⟩
   | succ i=>
    simp at h2 h3;exact hcp.at_ i k e h2 h3
def CapAt.mem{js:List Nat}{cp:List Cap}{h:Heap}(C:CapAt X σ h js cp){e:Cap}(he:e∈cp):X.env.cells.lookup e.n=some e.c/\h.get? e.c=some e.o/\∃u,e.o.data=.cell (some u)/\RelV e.v u:=by
 obtain⟨i,hi⟩:=GX he;have hl:i<js.length:=by rw[←C.len];exact(Gj.mp hi).1
 obtain⟨_,h2,_,h4,h5⟩:=C.at_ i _ e (Gb hl) hi;exact⟨h2,h4,h5⟩
def Ae{k:Nat}{f:Addr}{fd:FuncData}{ps:List Str}{sp:Sp}{Q:VK}{us:List Value}{vs:List V}{js:List Nat}{cp:List Cap}(F:FnOk X.prog X.w X.K X.mg X.base dm k f fd ps sp)(hr:Room k X.A)(hb:Binds X.K fd ps [])
  (I:Inv X pins σ H s) (C:CapAt X σ s.heap js cp) (hfn:∀e∈cp,X.fn e.n=true) (r:Vals vs us)
  (h:sp vs (bE (cellsOf cp) H) (λv H'=>(∀b o,(cellsOf cp).lookup b=some o->H' b=some (cM b o))/\Q v (aW (cellsOf cp) H')) E0):wpAny (model X.prog X.w) X.A (call (.ref f) us) (EP X pins σ Q) X.xe s:=by
 have hc:∀b o,(cellsOf cp).lookup b=some o->s.heap.get? b=some o:=λb o e=>by obtain⟨x,hx,rfl,rfl⟩:=fQ e;exact(C.mem hx).2.1
 have hn:∀b o,(cellsOf cp).lookup b=some o->H b=none:=λb o e=>by obtain⟨x,hx,rfl,rfl⟩:=fQ e;exact I.freeC _ _ (C.mem hx).1
 have hab:∀b o,(cellsOf cp).lookup b=some o->X.s₀.heap.objs.size<=b:=λb o e=>by obtain⟨x,hx,rfl,rfl⟩:=fQ e;exact I.ok.cab _ _ (hfn x hx) (C.mem hx).1
 have e0:=I.env0;have e1:Env0 X.prog X.w X.K X.mg X.base X.A X.stack s (bE (cellsOf cp) H):=by
  refine⟨e0.frames,e0.mod,λb o e=>⟨(e0.bs b o e).1,?_⟩,e0.bsz,e0.funs,λb hb'=>?_,tG e0.hok hc hn,e0.bare⟩
  ·cases q:(cellsOf cp).lookup b with
   | none=>rw[cH q];exact(e0.bs b o e).2
   | some o'=>exact absurd (GH (F9 (I.ok.bs b o e).1) (hab b o' q)) (Nat.lt_irrefl _)
  ·cases q:(cellsOf cp).lookup b with
   | none=>rw[cH q];exact e0.frf b hb'
   | some o'=>
    exfalso;rcases Gq.mp (I.stkSub b hb')with z|z
    ·obtain⟨m,⟨ob,es,ep,ho,hd,_⟩,_⟩:=I.loc;obtain⟨x,hx,rfl,rfl⟩:=fQ q;obtain⟨_,g,u,hu,_⟩:=C.mem hx;rw[←z,g]at ho;cases ho;rw[hu]at hd;cases hd
    ·obtain⟨_,ob,ho,_⟩:=I.ok.funs.mem z;exact absurd (GH (F9 ho) (hab b o' q)) (Nat.lt_irrefl _)
 have hl:us.length=ps.length:=by rw[←r.length];exact F.len _ _ _ _ h
 refine wpAny_call (codeAny_mono (F.run X.A X.stack s (bE (cellsOf cp) H) ⟨us,[]⟩ us vs _ E0 hr e1 (by have:=hb s us I.kIn (by simpa using hl);rw[List.append_nil]at this;exact this) r h) λr s' hq=>?_);cases r with
 | error e=>exact False.elim hq
 | ok fl=>
  cases fl with
  | ret u=>
   obtain⟨v,H',os,bare,un,hok,rv,hc',q⟩:=hq;exact I.after ⟨v,aW (cellsOf cp) H',os,bare,Ej un hok hc hn hc',rH hok hc',rv,q⟩
  | next=>exact False.elim hq
  | brk=>exact False.elim hq
  | cont=>exact False.elim hq
def jm(sp:Sp)(js:List Nat)(cells:List (Str×Addr))(N:List Str)(ta:TA):TE:=λσ H Q=>ta σ H λvs H1=>(∀j∈js,∃v,σ[j]?=some (some v)) ∧
 ∀cp:List Cap,cp.length=js.length->(∀(i j:Nat) (e:Cap),js[i]?=some j->cp[i]?=some e->N[j]?=some e.n/\cells.lookup e.n=some e.c/\σ[j]?=some (some e.v)/\H1 e.c=none/\∃u,e.o.data=.cell (some u)/\RelV e.v u) →
  sp vs (bE (cellsOf cp) H1) (λv H'=>(∀b o,(cellsOf cp).lookup b=some o->H' b=some (cM b o))/\Q v (aW (cellsOf cp) H')) E0
def o5{x:Str}{k j:Nat}{ps:List Str}{sp:Sp}{e:Expr}{es:List Expr}{t:TA}{p pos:Pos}(js:List Nat)(C:Cal X.prog X.w X.K X.mg X.base x j ps sp)(hr:Room k X.A)(ha:PA X (e::es) t)(hjk:j<=k:=by decide)(hg:Gl X x:=by rfl)(hdb:(x == ("__debug__":Str))=false:=by decide)
  (hj:j9 X.env.scope X.N js=true:=by rfl) (hfn:∀y,X.fn y=true:=by intro _;rfl)
  (he:starEach (e::es) X.env=(false,eval e X.env)::starEach es X.env:=by rfl) (hpl:(backTo pos (starEach es X.env)).any (·.1)=false:=by rfl) :
  PE X (.Call (.Name x p) (e::es) [] pos) (jm sp js X.env.cells X.N t):=by
 obtain⟨f,fd,hm,hk,hb,F⟩:=C.ex;intro pins s σ H Q I h;refine wpAny_Call_Name_kw (fU I hg hm ?_ hdb);refine PySem.W.callWith_K (h₀:=X.base) I.ok.mod.kin hk (ax (ha pos pins s σ H _ I h) λus s1 ⟨vs,H1,I1,r,hv,q⟩=>⟨I1.kIn,?_⟩) he hpl;obtain⟨cp,hcp⟩:=I1.capAt hj hv;refine Ae F (hr.mono hjk) hb I1 hcp (λe _=>hfn _) r (q cp hcp.len λi j e h1 h2=>?_);obtain⟨a1,a2,a3,_,a5⟩:=hcp.at_ i j e h1 h2;exact⟨a1,a2,a3,I1.freeC _ _ a2,a5⟩
end
def eQ(f c:Addr)(q:Str)(params:Arguments)(body:Expr)(scope:Scope)(cl:List (Str×Addr)):HO:=.ext λh=>∃pm ctv,h.get? f=some (PySem.W.kla_obj "<lambda>" q params body scope cl pm c ctv)
def vE{P:Program}{w:World}{H:Hp}{h:Heap}{f c:Addr}{q:Str}{params:Arguments}{body:Expr}{scope:Scope}{cl:List (Str×Addr)}{pm ctv:Value}(r:h.get? f=some (PySem.W.kla_obj "<lambda>" q params body scope cl pm c ctv)):bp P w H h f (eQ f c q params body scope cl):=
 ⟨⟨pm,ctv,r⟩,⟨_,r⟩,λh1 h2 ⟨a,b,g⟩ k=>⟨a,b,k _ g⟩⟩
def jq(sc:Scope):Bool:=sc.names.all λp=>sc.names.lookup p.1 == some p.2
def nS(sc out:Scope):Bool:=sc.names.all λp=>p.2 != .free || out.names.lookup p.1 == some .cell || out.names.lookup p.1 == some .free
def rS{sc:Scope}(h:jq sc=true){p:Str×NameKind}(hp:p∈sc.names):sc.names.lookup p.1=some p.2:=by simpa using GK.mp h p hp
def xf{sc out:Scope}(h:nS sc out=true){p:Str×NameKind}(hp:p∈sc.names)(hf:p.2=.free):out.names.lookup p.1=some .cell\/out.names.lookup p.1=some .free:=by have:=GK.mp h p hp;simp[hf]at this;exact this
structure ClOk(sc:Scope)(cells cl:List (Str×Addr)):Prop where
 one:jq sc=true
 fr:∀x c,cl.lookup x=some c->sc.names.lookup x=some .free/\cells.lookup x=some c
 has:∀x,sc.names.lookup x=some .free->∃c,cl.lookup x=some c
 inj:∀x y c,cl.lookup x=some c->cl.lookup y=some c->x=y
def Ep{X:Cx}(ok:X.Ok){sc:Scope}(hsc:jq sc=true)(ho:nS sc X.env.scope=true):ClOk sc X.env.cells (cO sc.names X.env.cells):=by
 have fr:∀x c,(cO sc.names X.env.cells).lookup x=some c->sc.names.lookup x=some .free/\X.env.cells.lookup x=some c:=λx c h=>by
  rcases lE X.env.cells sc.names [] x c h with⟨h1,h2⟩|h1
  ·obtain⟨d,hd⟩:=ok.has x (xf ho h1 rfl);refine⟨rS hsc h1,?_⟩;rw[hd]at h2 ⊢;rw[h2];rfl
  ·simp at h1
 exact⟨hsc,fr,λx h=>vF (iG h),λx y c h1 h2=>ok.inj x y c (fr x c h1).2 (fr y c h2).2⟩
section
variable {X:Cx} {pins:List (Addr×Obj)} {σ:St} {H:Hp} {s:Shared}
def A9{cl:List (Str×Addr)}{P c f:Addr}{ps more:Array Value}{q:Str}{params:Arguments}{body:Expr}{scope:Scope}{pm ctv:Value}{h':Heap}{tk:Nat}(I:Inv X pins σ H s)(hP:H P=some (.tbl ps))(b:Heap.ExtBut P s.heap h')(hc:s.heap.objs.size<=c)(hcf:c<f)(gP:h'.get? P=some { cls:=.none,data:=.fields (ps++more) })
  (gc:h'.CodeRec (.ref c) q) (gf:h'.get? f=some (PySem.W.kla_obj "<lambda>" q params body scope cl pm c ctv)) :
  Inv X pins σ (upd (upd (upd H P (.tbl (ps++more))) c (fE c q)) f (eQ f c q params body scope cl)) { s with heap:=h',toks:=tk }:=by
 have hf:@LE.le Nat _ s.heap.objs.size f:=GI hc (Nat.le_of_lt hcf);have nc:H c=none:=I.hok.fresh hc;have nf:H f=none:=I.hok.fresh hf;have cf:f≠c:=Nat.ne_of_gt hcf;have Pc:c≠P:=λz=>by rw[z,hP]at nc;cases nc
 have Pf:f≠P:=λz=>by rw[z,hP]at nf;cases nf
 have old:∀b o,H b=some o->b≠P->upd (upd (upd H P (.tbl (ps++more))) c (fE c q)) f (eQ f c q params body scope cl) b=some o:=λb o e n=>by rw[az (bW e nf),az (bW e nc),az n];exact e
 have nP:∀b,H b=none->b≠P:=λb e z=>by rw[z,hP]at e;cases e
 refine I.un ⟨λb' o e n _ _=>b b' o (nP b' n) e,λb' o e n _ _=>⟨o.slots,b b' o (nP b' n) e⟩,λb' o e n _=>?_,λb' o e _=>?_,λb' xs e=>old b' _ e (λz=>by rw[z,hP]at e;cases e),λb' o u e=>old b' _ e (λz=>by rw[z,hP]at e;cases e),λb' qs e=>?_⟩ λb' u e=>?_
 ·have lt:@LT.lt Nat _ b' s.heap.objs.size:=F9 e;rw[az (Gv (GH lt hf)),az (Gv (GH lt hc)),az (nP b' n)];exact n
 ·by_cases z:b'=P
  ·rw[z];exact⟨_,gP⟩
  ·exact⟨o,b b' o z e⟩
 ·by_cases z:b'=P
  ·subst z;rw[hP]at e;cases e;exact⟨more,by rw[az (Ne.symm Pf),az (Ne.symm Pc),aO]⟩
  ·exact⟨#[],by rw[old b' _ e z];simp⟩
 ·by_cases z:b'=f
  ·subst z;rw[aO]at e;cases e;exact vE gf
  ·rw[az z]at e;by_cases z2:b'=c
   ·subst z2;rw[aO]at e;cases e;exact DL gc
   ·rw[az z2]at e;by_cases z3:b'=P
    ·subst z3;rw[aO]at e;cases e;exact gP
    ·rw[az z3]at e;refine(I.hok b' u e).stay (λd v hd g=>b d v ?_ g) (λd hd=>old d _ hd (λy=>by rw[y,hP]at hd;cases hd)) λd xs hd=>old d _ hd (λy=>by rw[y,hP]at hd;cases hd);rcases hd with rfl|hd
     ·exact z3
     ·exact λy=>by rw[y,hP]at hd;cases hd
end
def lO(P:Addr)(pos:Pos)(q:Str)(params:Arguments)(body:Expr)(scope:Scope)(cells:List (Str×Addr))(H:Hp)(Q:VK):Prop:=∀cl,ClOk scope cells cl →
 (H P=some (.tbl #[])/\∀f c,H c=none->H f=none->c≠P->f≠P->f≠c->Q (.ref f) (upd (upd (upd H P (.tbl #[rawInt pos.line,rawInt pos.col,.ref c])) c (fE c q)) f (eQ f c q params body scope cl))) ∨
 ∃c,H P=some (.tbl #[rawInt pos.line,rawInt pos.col,.ref c])/\H c=some (fE c q)/\∀f,H f=none->Q (.ref f) (upd H f (eQ f c q params body scope cl))
def tH(P:Addr)(pos:Pos)(q:Str)(params:Arguments)(body:Expr)(scope:Scope)(cells:List (Str×Addr)):TE:=λ_ H Q=>lO P pos q params body scope cells H Q
def ny{X:Cx}{params:Arguments}{body:Expr}{scope:Scope}{pos:Pos}{c P:Addr}(hcode:X.env.code=.ref c)(hgl:X.env.globals=mainGlobals)(C:PySem.W.CodeHd X.base c P)(hB:X.base.BuiltinsAt X.mg P)(hgP:mainGlobals≠P)(hsc:jq scope=true)(hout:nS scope X.env.scope=true)
  (hd0:params.defaults=[]) (hk0:params.kw_defaults=[]):PE X (.Lambda params body scope pos) (tH P pos (X.env.qual ++ "<lambda>") params body scope X.env.cells):=by
 intro pins s σ H Q I h;rw[arm_eval_Lambda,PySem.defaultsOf_eq,hk0,hd0];refine F4 (F5 (F4 (wpAny_holding (F5 ?_))));have hcl:closureFor scope X.env=pure (cO scope.names X.env.cells):=ni λp hp hf=>I.ok.has p.1 (xf hout hp hf);have h:=h _ (Ep I.ok hsc hout);have C':PySem.W.CodeHd s.heap c P:=C.keeps λb o e=>(I.bs b o e).1;have hg:s.heap.Ns mainGlobals X.mg:=by obtain⟨o,es,ep,e,r⟩:=I.ok.mod.glob;exact⟨o,es,ep,(I.bs _ _ e).1,r⟩
 have hb:s.heap.BuiltinsAt X.mg P:=by obtain⟨bm,o,a1,a2,a3,a4,a5,a6⟩:=hB;exact⟨bm,o,a1,a2,a3,a4,(I.bs _ _ a5).1,a6⟩
 rcases h with⟨hP,q⟩|⟨c',hP,hc',q⟩
 ·have gP:s.heap.get? P=some (PySem.W.tabObj #[]):=I.hok P _ hP;refine PySem.W.kla_makeFunction hcl hgl hg hcode C' gP trivial rfl hgP hb λc' ctv h' tk hx hge hlt hrec htb=>?_;have nc:H c'=none:=I.hok.fresh hge;have hf:@LE.le Nat _ s.heap.objs.size h'.objs.size:=GI hge (Nat.le_of_lt hlt);have nf:H h'.objs.size=none:=I.hok.fresh hf;have lP:@LT.lt Nat _ P s.heap.objs.size:=F9 gP;have J:=A9 (cl:=cO scope.names X.env.cells) (tk:=tk) (f:=h'.objs.size) (h':=h'.push (PySem.W.kla_obj "<lambda>" (X.env.qual ++ "<lambda>") params body scope (cO scope.names X.env.cells) ((X.mg "__name__").getD .none) c' ctv)) (more:=#[rawInt pos.line,rawInt pos.col,.ref c']) I hP (λb o n e=>F7 _ (hx b o n e)) hge hlt (F7 _ htb) (hrec.push _) (F8 _ rfl);rw[Array.empty_append]at J;exact⟨.ref h'.objs.size,_,J,rfl,q _ c' nc nf (Nat.ne_of_gt (GH lP hge)) (Nat.ne_of_gt (GH lP hf)) (Nat.ne_of_gt hlt)⟩
 ·have gP:s.heap.get? P=some (PySem.W.tabObj #[rawInt pos.line,rawInt pos.col,.ref c']):=I.hok P _ hP;refine PySem.W.kla_makeFunctionHit (cv:=.ref c') hcl hgl hg hcode C' gP trivial (by simp[codeAmong,rawInt]) hb λctv h' tk hx hge=>?_;exact⟨.ref h'.objs.size,_,I.laid (t':=tk) (o:=eQ h'.objs.size c' (X.env.qual ++ "<lambda>") params body scope (cO scope.names X.env.cells)) (λb o e=>F7 _ (hx b o e)) hge (vE (F8 _ rfl)),rfl,q _ (I.hok.fresh hge)⟩
def pZ{cells:List (Str×Addr)}{K:F6}{x q:Str}{params:Arguments}{body:Expr}{scope:Scope}{H:Hp}{Q:VK}{c T:Addr}{pos:Pos}(ht:dn K x q pos.line pos.col H)(e:PySem.W.tabIn K x=some (c,T))
  (h:∀f c' cl H',ClOk scope cells cl->Et H H'->dn K x q pos.line pos.col H'->(∀y q2 l2 k2,(∀c2 T2,PySem.W.tabIn K y=some (c2,T2)->T2≠T)->dn K y q2 l2 k2 H->dn K y q2 l2 k2 H')->H' f=some (eQ f c' q params body scope cl)->H' c'=some (fE c' q)->Q (.ref f) H'):lO T pos q params body scope cells H Q:=by
 intro cl hcl;rcases ht c T e with hT|⟨c',hT,hc'⟩
 ·refine .inl ⟨hT,λf c' nc nf cT fT fc=>?_⟩;have old:∀b o,H b=some o->b≠T->upd (upd (upd H T (.tbl #[rawInt pos.line,rawInt pos.col,.ref c'])) c' (fE c' q)) f (eQ f c' q params body scope cl) b=some o:=λb o hb n=>by rw[az (bW hb nf),az (bW hb nc),az n];exact hb
  refine h f c' cl _ hcl (λb o hb n=>old b o hb λz=>by rw[z,hT]at hb;cases hb;exact n _ rfl) (λc2 T2 e2=>.inr ⟨c',?_,?_⟩) (λy q2 l2 k2 hn hy c2 T2 e2=>?_) aO ?_
  ·rw[e]at e2;cases e2;rw[az (Ne.symm fT),az (Ne.symm cT),aO]
  ·rw[az (Ne.symm fc),aO]
  ·rcases hy c2 T2 e2 with g|⟨c3,g1,g2⟩
   ·exact .inl (old _ _ g (hn c2 T2 e2))
   ·exact .inr ⟨c3,old _ _ g1 (hn c2 T2 e2),old _ _ g2 λz=>by rw[z,hT]at g2;cases g2⟩
  ·rw[az (Ne.symm fc),aO]
 ·refine .inr ⟨c',hT,hc',λf nf=>?_⟩;have ex:Ext H (upd H f (eQ f c' q params body scope cl)):=bO nf;exact h f c' cl _ hcl ex.et (dn.ext ex ht) (λy q2 l2 k2 _ hy=>hy.ext ex) aO (ex _ _ hc')
def oX{P:Addr}{pos:Pos}{q:Str}{params:Arguments}{body:Expr}{scope:Scope}{cells:List (Str×Addr)}{σ:St}{H:Hp}{Q:VK}(h:lO P pos q params body scope cells H Q):tH P pos q params body scope cells σ H Q:=h
def jM{x:Str}{c:Addr}:∀(names:List (Str×NameKind)) (n:Nat) (a acc:List (Str×Addr)),(cellsFrom n names (a++acc)).lookup x=some c->acc.lookup x=some c\/(cellsFrom n names a).lookup x=some c
 | [],_,a,acc,h=>by
  unfold cellsFrom at h ⊢;rw[List.lookup_append]at h;cases q:a.lookup x with
  | none=>rw[q]at h;exact .inl h
  | some d=>rw[q]at h;exact .inr h
 | (y,k)::r,n,a,acc,h=>by
  unfold cellsFrom at h ⊢;by_cases hk:(k == NameKind.cell)=true
  ·rw[Hf hk]at h ⊢;exact jM r (n+1) ((y,n)::a) acc h
  ·rw[He hk]at h ⊢;exact jM r n a acc h
structure InL(s₀:Shared)(L:Addr)(m:Str->Option Value)(own:List (Str×Addr))(cm:Str->Option Value)(s:Shared):Prop where
 same:∃h' tk,s={ s₀ with heap:=h',toks:=tk }
 ns:s.heap.Ns L m
 keep:∀b o,s₀.heap.get? b=some o->s.heap.get? b=some o
 fresh:s₀.heap.objs.size<=L
 cell:∀n c,own.lookup n=some c->s.heap.IsCell c (cm n)
 apart:own.Pairwise λx y=>x.2≠y.2
 above:∀n c,(n,c)∈own->L<c
section
variable {M:Model} {A:Around} {E:Value->Shared->Prop} {s₀ s:Shared} {m cm:Str->Option Value} {env:Env} {own:List (Str×Addr)}
def InL.st{n:Str}{v:Value}{Q:Unit->Shared->Prop}(x:InL s₀ env.locals m own cm s)(hk:env.scope.kind=.function)(hl:env.kindOf n=some .local)
  (h:∀s',InL s₀ env.locals (λy=>if y=n then some v else m y) own cm s'->Q () s'):wpAny M A (storeName env n v) Q E s:=by
 refine wpAny_storeName_local hl x.ns (λh' hn' hs'=>h _ ⟨?_,hn',λb o e=>?_,x.fresh,λk c hc=>?_,x.apart,x.above⟩) (by rw[hk];rfl)
 ·obtain⟨h₁,tk,rfl⟩:=x.same;exact⟨h',_,rfl⟩
 ·exact hs'.extBut b o (Gv (GH (F9 e) x.fresh)) (x.keep b o e)
 ·exact(x.cell k c hc).sameBut hs' (Nat.ne_of_gt (x.above k c (PySem.mem_of_lookup hc)))
def InL.stC{n:Str}{c:Addr}{v:Value}{Q:Unit->Shared->Prop}(x:InL s₀ env.locals m own cm s)(hk:env.scope.kind=.function)(hl:env.kindOf n=some .cell)
  (hc:env.cells.lookup n=some c) (ho:own.lookup n=some c)
  (h:∀s',InL s₀ env.locals m own (λy=>if y=n then some v else cm y) s'->Q () s'):wpAny M A (storeName env n v) Q E s:=by
 have hLc:=x.above n c (PySem.mem_of_lookup ho);refine wpAny_storeName_cell hk hl hc (x.cell n c ho) λh' hc' hs'=>h _ ⟨?_,x.ns.sameBut hs' (Gv hLc),λb o e=>?_,x.fresh,λk c' hk'=>?_,x.apart,x.above⟩
 ·obtain⟨h₁,tk,rfl⟩:=x.same;exact⟨h',_,rfl⟩
 ·exact hs'.extBut b o (Gv (Nat.lt_trans (GH (F9 e) x.fresh) hLc)) (x.keep b o e)
 ·by_cases hkn:k=n
  ·subst hkn;rw[ho]at hk';cases hk';simpa using hc'
  ·rw[He hkn];exact(x.cell k c' hk').sameBut hs' λe=>hkn (name_of_addr x.apart (PySem.mem_of_lookup hk') (e ▸ PySem.mem_of_lookup ho))
def InL.binds(f:Str×Value->PUnit->Sem (ForInStep PUnit))(hf:∀n v u,f (n,v) u=(do storeName env n v;pure (.yield ⟨⟩)))(hk:env.scope.kind=.function):
  ∀(binds:List (Str×Value)) (m cm:Str->Option Value) (s:Shared) (Q:PUnit->Shared->Prop),InL s₀ env.locals m own cm s →
   (∀x∈binds,env.kindOf x.1=some .local\/(env.kindOf x.1=some .cell/\∃c,env.cells.lookup x.1=some c/\own.lookup x.1=some c)) →
   (∀s',InL s₀ env.locals (bindL env.kindOf binds m) own (bindC env.kindOf binds cm) s'->Q ⟨⟩ s')->wpAny M A (forIn binds ⟨⟩ f) Q E s
 | [],m,cm,s,Q,x,_,h=>by rw[List.forIn_nil];exact F5 (h s x)
 | (n,v)::r,m,cm,s,Q,x,hkind,h=>by
  rw[List.forIn_cons,hf];have hr:∀y∈r,env.kindOf y.1=some .local\/(env.kindOf y.1=some .cell/\∃c,env.cells.lookup y.1=some c/\own.lookup y.1=some c):=λy hy=>hkind y (Ge _ hy);rcases hkind (n,v) Gh with hl|⟨hl,c,hc,ho⟩
  ·refine F4 (F4 (InL.st x hk hl λs' x'=>F5 (InL.binds f hf hk r _ _ s' Q x' hr λs'' x''=>h s'' ?_)));unfold bindL bindC;rw[Hf hl,Hf hl];exact x''
  ·have hnl:¬env.kindOf n=some .local:=by rw[hl];decide
   refine F4 (F4 (InL.stC x hk hl hc ho λs' x'=>F5 (InL.binds f hf hk r _ _ s' Q x' hr λs'' x''=>h s'' ?_)));unfold bindL bindC;rw[He hnl,He hnl];exact x''
end
def dY(q:Str)(scope:Scope)(L f:Addr)(cd:Value)(cl:List (Str×Addr)):Env:=
 { scope:=scope,locals:=L,globals:=mainGlobals,cells:=cellsFrom (L+1) scope.names cl,qual:=q ++ ".<locals>.",func:=some f,code:=cd,frame:=some L,builtins:=builtinsNs }
section
variable {M:Model} {A:Around} {E:Value->Shared->Prop} {s:Shared}
def Ek {scope : Scope} {cl : List (Str × Addr)} {binds : List (Str × Value)} {q : Str} {f : Addr} {cd : Value} {Q : Env → Shared → Prop} (hk : scope.kind = .function) (hsc : jq scope = true) (hcl : ∀ x c, cl.lookup x = some c → scope.names.lookup x = some .free)
    (hkind : ∀ x ∈ binds, scope.names.lookup x.1 = some .local ∨ scope.names.lookup x.1 = some .cell)
    (hQ : ∀ s', InL s s.heap.objs.size (bindL (dY q scope s.heap.objs.size f cd cl).kindOf binds λ_ => none) (cellsFrom (s.heap.objs.size + 1) scope.names []) (bindC (dY q scope s.heap.objs.size f cd cl).kindOf binds λ_ => none) s' → Q (dY q scope s.heap.objs.size f cd cl) s') :
    wpAny M A (newFunctionEnv scope mainGlobals cl binds (q ++ ".<locals>.") (some f) cd none builtinsNs) Q E s := by
  simp only [newFunctionEnv, Option.isSome_none, GV, if_false];refine F4 (wpAny_alloc ?_);refine F4 (wpAny_layCells _ (λname kind cells => by cases hkc : kind == NameKind.cell <;> simp [hkc]) _ _ _ _ ?_);have ok := cellsFrom_ok scope.names (s.heap.push { cls := .type "frame", data := .dict #[] }) (s.heap.objs.size + 1) [] ⟨λ_ _ hm => (nomatch hm), List.Pairwise.nil⟩ (by rw [Heap.size_push]; exact Gw _);rw [Heap.size_push] at ok;rw [show ({ s with heap := s.heap.push { cls := .type "frame", data := .dict #[] } } : Shared).heap.objs.size = s.heap.objs.size + 1 from Heap.size_push ..];refine F4 (InL.binds (s₀ := s) (env := dY q scope s.heap.objs.size f cd cl) (own := cellsFrom (s.heap.objs.size + 1) scope.names [])
    _ (λ_ _ _ => rfl) hk binds (λ_ => none) (λ_ => none) _ _
    ⟨⟨_, _, rfl⟩, (Heap.Ns.new s.heap (.type "frame")).keeps (pushCells_keeps _ _), λb o e => pushCells_keeps _ _ b o (F7 _ e), Gw _,
      λn c hc => (ok.empty n c (PySem.mem_of_lookup hc)).1, ok.apart, λn c hm => (ok.empty n c hm).2⟩
    (λx hx => ?_) λs' x => F5 (hQ s' x))
  rcases hkind x hx with h|h
  · exact .inl h
  · obtain ⟨c, hc⟩ := Option.isSome_iff_exists.mp (PySem.W.cellsFrom_some scope.names (s.heap.objs.size + 1) cl (.inl h))
    rcases jM scope.names (s.heap.objs.size + 1) [] cl hc with h2|h2
    · rw [hcl _ _ h2] at h; cases h
    · exact .inr ⟨h, c, hc, h2⟩
end
def jr(P:Program)(w:World)(K:F6)(mg:Str->Option Value)(base:Heap)(N:List Str)(q:Str)(scope:Scope)(f:Addr)(cd:Value)(cl:List (Str×Addr))(A:Around)(outer:List Env)(s:Shared)(H:Hp):Cx where
 prog:=P
 w:=w
 K:=K
 mg:=mg
 base:=base
 A:=A.deeper (dY q scope s.heap.objs.size f cd cl)
 N:=N
 s₀:=s
 H₀:=H
 env:=dY q scope s.heap.objs.size f cd cl
 outer:=outer
 stack:=dY q scope s.heap.objs.size f cd cl::outer
 ex:=[]
 calm:=true
 fn:=λx=>scope.names.lookup x == some .cell
 pn:=[]
 xe:=λ_ _=>False
structure Caps(H:Hp)(cl:List (Str×Addr))(cp:List Cap):Prop where
 at_:∀e∈cp,cl.lookup e.n=some e.c/\H e.c=some (cM e.c e.o)/\∃u,e.o.data=.cell (some u)/\RelV e.v u
 all:∀x c,cl.lookup x=some c->∃e∈cp,e.n=x/\e.c=c
def Caps.ext{H H':Hp}(e:Ext H H'){cl:List (Str×Addr)}{cp:List Cap}(h:Caps H cl cp):Caps H' cl cp:=⟨λx hx=>⟨(h.at_ x hx).1,e _ _ (h.at_ x hx).2.1,(h.at_ x hx).2.2⟩,h.all⟩
def Caps.look{H:Hp}{cl:List (Str×Addr)}{cp:List Cap}(h:Caps H cl cp):∀b o,(cellsOf cp).lookup b=some o->H b=some (cM b o):=λb o e=>by obtain⟨x,hx,rfl,rfl⟩:=fQ e;exact(h.at_ x hx).2.1
structure LamSc(ps:List Str)(sc:Scope):Prop where
 kind:sc.kind=.function
 co:sc.isCoroutine=false
 gen:sc.isGenerator=false
 nd:ps.Nodup
 par:∀x∈ps,sc.names.lookup x=some .local\/sc.names.lookup x=some .cell
def Dy{P:Program}{w:World}{K:F6}{mg:Str->Option Value}{base:Heap}{ps:List Str}{q:Str}{scope:Scope}{f:Addr}{cd:Value}{cl cells:List (Str×Addr)}{cp:List Cap}{A:Around}{outer:List Env}{s s1:Shared}{H:Hp}{us:List Value}{vs:List V}
  (S:LamSc ps scope) (C:ClOk scope cells cl) (hcp:Caps H cl cp) (hd:A.handled=none) (e0:Env0 P w K mg base A outer s H) (hl:vs.length=ps.length) (r:Vals vs us)
  (x:InL s s.heap.objs.size (bindL (dY q scope s.heap.objs.size f cd cl).kindOf (ps.zip us) λ_=>none) (cellsFrom (s.heap.objs.size+1) scope.names []) (bindC (dY q scope s.heap.objs.size f cd cl).kindOf (ps.zip us) λ_=>none) s1) :
  Inv (jr P w K mg base (ps++cp.map (·.n)) q scope f cd cl A outer s (aW (cellsOf cp) H)) [] (vs.map some++cp.map λe=>some e.v) (aW (cellsOf cp) H) s1:=by
 obtain⟨h1,tk,rfl⟩:=x.same;have hk:=x.keep;have noA:∀b:Addr,b∉(jr P w K mg base (ps++cp.map (·.n)) q scope f cd cl A outer s (aW (cellsOf cp) H)).ex:=λb z=>absurd (show b∈([]:List Addr)from z) (by simp);have nn:∀b,H b=none->aW (cellsOf cp) H b=none:=λb hb=>by
  cases z:(cellsOf cp).lookup b with
  | none=>rw[cx z];exact hb
  | some o=>exact gn z
 have obj:∀e∈cp,s.heap.get? e.c=some e.o:=λe he=>(e0.hok _ _ (hcp.at_ e he).2.1).1;have clt:∀y c,cl.lookup y=some c->@LT.lt Nat _ c s.heap.objs.size:=λy c h=>by obtain⟨e,he,_,rfl⟩:=hcp.all y c h;exact F9 (obj e he)
 have cinC:∀y c,cl.lookup y=some c->aW (cellsOf cp) H c=none:=λy c h=>by obtain⟨e,he,_,rfl⟩:=hcp.all y c h;obtain⟨o,ho⟩:=Ap he;exact gn ho
 have hfr:∀y,scope.names.lookup y=some .free->∃c,cl.lookup y=some c/\(cellsFrom (s.heap.objs.size+1) scope.names cl).lookup y=some c:=λy hy=>by
  obtain⟨c,hc⟩:=C.has y hy;obtain⟨c',hc'⟩:=Option.isSome_iff_exists.mp (PySem.W.cellsFrom_some scope.names (s.heap.objs.size+1) cl (x:=y) (.inr (by rw[hc];rfl)));rcases gK _ _ _ hc' with h|⟨_,h⟩
  ·rw[hc]at h;cases h;exact⟨c,hc,hc'⟩
  ·have:=rS C.one h;rw[hy]at this;cases this
 refine⟨⟨e0.mod,S.kind,rfl,rfl,Gw _,λy z c h1 h2=>?_,λy hy=>?_,λy c h hc=>?_,λ_=>hd,Around.frames_deeper e0.frames,.inr ⟨rfl,rfl⟩,λb z=>absurd z (noA b),λb o e=>⟨(e0.bs b o e).1,nn b (e0.bs b o e).2⟩,e0.bsz,λb _ _=>noA b,λb z=>absurd z (noA b),e0.funs,λb hb=>nn b (e0.frf b hb)⟩,
  rfl,e0.bare,Un.kept hk,⟨_,x.ns,λi y v h1 h2 h3=>?_⟩,λy c h=>?_,nn _ (e0.hok.fresh (Gw _)),λy c h=>?_,λp hp=>absurd (show p∈([]:List (Addr×Obj))from hp) (by simp),(rH e0.hok hcp.look).kept hk,?_⟩
 ·exact kh scope.names _ _ (λx c e=>Nat.lt_succ_of_lt (clt x c e)) C.inj h1 h2
 ·have hy:scope.names.lookup y=some .cell\/scope.names.lookup y=some .free:=hy;rcases hy with hy|hy
  ·exact Option.isSome_iff_exists.mp (PySem.W.cellsFrom_some scope.names _ _ (.inl hy))
  ·obtain⟨c,_,h⟩:=hfr y hy;exact⟨c,h⟩
 ·have hy:scope.names.lookup y=some .cell:=by simpa[jr]using h
  have hc':(cellsFrom (s.heap.objs.size+1) scope.names cl).lookup y=some c:=hc;rcases gK _ _ _ hc' with h2|⟨h2,_⟩
  ·rw[(C.fr y c h2).1]at hy;cases hy
  ·exact Nat.le_of_succ_le h2
 ·by_cases hi:i<vs.length
  ·have ha:vs[i]?=some v:=by
    rw[GC (by simpa using hi),Gd]at h2;cases e:vs[i]? with
    | none=>rw[e]at h2;cases h2
    | some a=>rw[e]at h2;cases h2;rfl
   obtain⟨u,hu,rv⟩:=r.get ha;have hp:ps[i]?=some y:=by have h1':(ps++cp.map (·.n))[i]?=some y:=h1;rw[GC (by omega)]at h1';exact h1'
   refine⟨u,rv,?_⟩;rcases S.par y (Gk hp)with k|k
   ·exact .inl ⟨k,mM S.nd hp hu k⟩
   ·obtain⟨c,e⟩:=Option.isSome_iff_exists.mp (PySem.W.cellsFrom_some scope.names (s.heap.objs.size+1) cl (.inl k));refine .inr ⟨.inl k,c,e,?_⟩;rcases jM scope.names (s.heap.objs.size+1) [] cl e with h4|h4
    ·rw[(C.fr y c h4).1]at k;cases k
    ·have qq:=x.cell y c h4;rw[nk S.nd hp hu (by show scope.names.lookup y≠_;rw[k];decide)]at qq;exact qq
  ·have h1':(ps++cp.map (·.n))[i]?=some y:=h1;rw[GA (by omega),Gd]at h1';rw[GA (by simpa using Nat.le_of_not_lt hi),Ga,Gd]at h2;rw[hl]at h2;cases he:cp[i-ps.length]? with
   | none=>rw[he]at h2;cases h2
   | some e=>
    rw[he]at h1' h2;cases h1';cases h2;have hm:=Gk he;obtain⟨a1,a2,u,hu,rv⟩:=hcp.at_ e hm;have hf:=(C.fr _ _ a1).1;obtain⟨c,b1,b2⟩:=hfr e.n hf;rw[a1]at b1;cases b1;exact⟨u,rv,.inr ⟨.inr hf,e.c,b2,e.o,hk _ _ (obj e hm),hu⟩⟩
 ·have h':(cellsFrom (s.heap.objs.size+1) scope.names cl).lookup y=some c:=h;rcases jM scope.names (s.heap.objs.size+1) [] cl h' with h2|h2
  ·obtain⟨e,he,_,rfl⟩:=hcp.all y c h2;obtain⟨_,_,u,hu,_⟩:=hcp.at_ e he;exact⟨some u,e.o,hk _ _ (obj e he),hu⟩
  ·exact⟨_,x.cell y c h2⟩
 ·have h':(cellsFrom (s.heap.objs.size+1) scope.names cl).lookup y=some c:=h;rcases gK _ _ _ h' with h2|⟨h2,_⟩
  ·exact cinC y c h2
  ·exact nn c (e0.hok.fresh (Nat.le_of_succ_le h2))
 ·show(vs.map some++cp.map λe=>some e.v).length=(ps++cp.map (·.n)).length;simp[hl]
def gj(f c:Addr)(q:Str)(params:Arguments)(body:Expr)(scope:Scope)(cl:List (Str×Addr))(cp:List Cap)(H:Hp):Prop:=H f=some (eQ f c q params body scope cl)/\H c=some (fE c q)/\Caps H cl cp
def gj.ext{H H':Hp}(e:Ext H H'){f c:Addr}{q:Str}{params:Arguments}{body:Expr}{scope:Scope}{cl:List (Str×Addr)}{cp:List Cap}(h:gj f c q params body scope cl cp H):gj f c q params body scope cl cp H':=⟨e _ _ h.1,e _ _ h.2.1,h.2.2.ext e⟩
def Cn{P:Program}{w:World}{K:F6}{mg:Str->Option Value}{base:Heap}{k:Nat}{f c:Addr}{q:Str}{params:Arguments}{body:Expr}{scope:Scope}{cl cells:List (Str×Addr)}{cp:List Cap}{ps:List Str}{R:List V->Hp->VK->Prop}(I:Hp->Prop)
  (S:LamSc ps scope) (C:ClOk scope cells cl) (bind:∀(pm cv ctv:Value) (us:List Value),us.length=ps.length->bindArgs (PySem.W.kla_fn "<lambda>" q params body scope cl pm cv ctv) ⟨us,[]⟩=pure (ps.zip us))
  (hR:∀vs H Q,R vs H Q->vs.length=ps.length)
  (hbody:∀(A:Around) (outer:List Env) (s:Shared) (H:Hp) (vs:List V) (Q:VK),Room k (A.deeper (dY q scope s.heap.objs.size f (.ref c) cl))->gj f c q params body scope cl cp H->I H->R vs H Q →
   ∃te,PE (jr P w K mg base (ps++cp.map (·.n)) q scope f (.ref c) cl A outer s (aW (cellsOf cp) H)) body te/\te (vs.map some++cp.map λe=>some e.v) (aW (cellsOf cp) H) λv H'=>(∀b o,(cellsOf cp).lookup b=some o->H' b=none)->Q v (bE (cellsOf cp) H')) :
  FunR P w K mg base (k+1) f (λH=>gj f c q params body scope cl cp H/\I H) R:=by
 refine⟨λH h hok hp=>?_,λA outer s H us vs Q hr e0 hp r hq=>?_⟩
 ·obtain⟨⟨pm,ctv,gf⟩,_⟩:=hok f _ hp.1.1;exact⟨_,_,_,_,gf⟩
 ·obtain⟨⟨hf,hc,hcp⟩,hI⟩:=id hp;obtain⟨⟨pm,ctv,gf⟩,_⟩:=e0.hok f _ hf;obtain⟨gc,_⟩:=e0.hok c _ hc;have lim:s.heap.NoLimit:=e0.mod.nolimit.keeps λb o e=>(e0.bs b o e).1;have hl:=hR vs H Q hq;refine PySem.W.kla_callFunE hr.depth gf rfl S.co S.gen rfl gc ?_;rw[bind _ _ _ us (by rw[←r.length];exact hl)];refine F5 ?_;refine Ek (q:=q) (f:=f) (cd:=.ref c) S.kind C.one (λx c h=>(C.fr x c h).1) (λz hz=>?_) λs1 z=>?_
  ·exact S.par z.1 (List.of_mem_zip hz).1
  refine⟨lim.keeps z.keep,PySem.W.kla_codeExpr ?_⟩;have J:=Dy S C hcp hr.hd e0 hl r z;obtain⟨te,ht,hq'⟩:=hbody A outer s H vs Q (hr.deeper _) hp.1 hI hq;refine wpAny_mono (ht [] s1 _ _ _ J hq') (λu s' ⟨v,H',J',rv,q'⟩=>?_) λe s' hs=>hs.elim;have obj:∀b o,(cellsOf cp).lookup b=some o->s.heap.get? b=some o:=λb o e=>(e0.hok _ _ (hcp.look b o e)).1;have nfs:∀b o,(cellsOf cp).lookup b=some o->b∉aX outer:=λb o e hb=>by have:=e0.frf b hb;rw[hcp.look b o e]at this;cases this
  have un:Un (aX outer) [] (aW (cellsOf cp) H) H' s.heap s'.heap:=J'.base;exact⟨v,bE (cellsOf cp) H',J'.os,J'.bare,y9 un hcp.look,tG J'.hok (λb o e=>un.keep b o (obj b o e) (gn e) (nfs b o e) (by simp)) (λb o e=>un.free b o (obj b o e) (gn e) (by simp)),rv,q' λb o e=>un.free b o (obj b o e) (gn e) (by simp)⟩
section
variable {X:Cx}
def Fh:V->List V->Hp->VK->Prop:=λx vs H Q=>∃(n:Nat) (p:Addr) (xs:List V) (a:V) (d:PyData) (ds:List PyData) (j:Nat),x=.ref p/\vs=[a]/\aV H n a d/\H p=some (.lst xs)/\Paired (aV H n) xs ds/\n<=50/\(∃e,ds[j]?=some e/\PyData.eqv e d=true)/\(∀m e,m<j->ds[m]?=some e->PyData.eqv e d=false)/\j<2 ^ 32/\Q (.int (j:Int)) H
def EB{k:Nat}{A0:Around}(hr:Room k A0)(hA:X.A=A0:=by rfl):ia X "list.index" Fh:=by
 subst hA;intro pins s σ H x xs v us Q I rx rv h;obtain⟨n,p,ys,a,d,ds,j,rfl,rfl,h1,h2,h3,hn,⟨e,hj,he⟩,hno,hjs,q⟩:=h;cases rx;obtain⟨u,rfl,ru⟩:=rv.one;have h4:aV H (n+1) (.ref p) (.list ds):=.inr ⟨p,ys,ds,rfl,.inr ⟨h2,rfl⟩,h3⟩;obtain⟨as,ra⟩:=aV.reads I n h1 ru;obtain⟨bs,rb⟩:=aV.reads I (n+1) h4 rfl;have l1:=aV.lay n h1;have l2:=i8 (λ{x d}=>aV.lay (H:=H) n) h3;have hu:=hr.units;have hm:min (PyData.depthAll ds) d.depth<=50:=GI (Nat.min_le_right _ _) (GI l1.2 hn);obtain⟨_,its,nn,rvv,gt⟩:=I.hok p _ h2;cases rb with
 | list g1 g2 g3 g4=>
  rw[gt]at g1;cases g1;cases g3;have mp:=SeqAt.readsAll_map ds _ _ l2.1 g4;have hlen:its.length=ds.length:=by rw[←mp,Ga]
  have hjl:j<ds.length:=(Gj.mp hj).1;have hsz:j<its.toArray.size:=by rw[Gg];omega
  have hat:∀m (hm:m<its.toArray.size),ds[m]?=some (SeqAt.readOf s.heap its.toArray[m]):=λm hm=>by
   have hm':m<its.length:=by simpa using hm
   rw[←mp,Gd];simp[hm']
  refine call_meets PySem.F.slot_list_index ⟨_,gt,rfl⟩ PySem.F.entry_list_index (PySem.F.args_list_index_2 _ _) (SeqAt.list_indexAt p its.toArray nn none #[] u (λy=>PyData.eqv (SeqAt.readOf s.heap y) d) j hsz (by omega) ?_ ?_)
   ⟨gt,SeqAt.items_eqAt g4 ra l2.1 l1.1 (by omega),?_⟩
  ·have:=hat j hsz;rw[hj]at this;cases this;exact he
  ·intro m hm hmj;exact hno m _ hmj (hat m hm)
  ·exact⟨.int _,H,I.tok _,⟨_,rfl⟩,q⟩
end
open AutoSeq1 (wpAny_loadPart')in
section
variable {K:F6} {σ:St} {H:Hp} {Q:VK}
end
section
variable {X:Cx}
end
end L2
namespace L2.Og.Tb
open PySem
end L2.Og.Tb
namespace L2.Og
open PySem PySem.Spec PyProof.Rows
section
variable {P:Program} {w:World} {A:Around} {E:Value->Shared->Prop} {s:Shared} {K:Type} [DecidableEq K] {knd:KeyKind P w K}
end
section
variable {P:Program} {w:World} {A:Around} {K:Type} [DecidableEq K] {knd:KeyKind P w K} {I:Addr} {fp wr:List Addr} {G:Array GenState->Array GenState->Prop} {n:Nat} {Pz:Nat->Value->Prop} {St:Nat->Shared->Prop}
end
end L2.Og
namespace L2.Og
open PySem PySem.Spec PyProof.Rows
section
variable {P:Program} {w:World} {A:Around} {E:Value->Shared->Prop} {s:Shared} {K:Type} [DecidableEq K] {knd:KeyKind P w K}
end
end L2.Og
namespace L2.Og
open PySem PySem.Spec PyProof.Rows
section
variable {X:Cx}
end
end L2.Og
namespace L2.Ti
open PySem PySem.Spec PyProof.Rows
section
variable {P:Program} {w:World} {A:Around} {E:Value->Shared->Prop} {s:Shared}
end
section
variable {X:Cx}
end
end L2.Ti
namespace L2
open PySem PySem.Spec PyProof.Rows
section
variable {X:Cx} {pins:List (Addr×Obj)} {σ:St} {H:Hp} {s:Shared}
def ic{i:Nat}{y:Str}{py:Pos}{elt tg iter:Expr}{ifs:List Expr}{sc:Scope}{pos spos:Pos}(own:List Str)(js:List Nat){wi:TI}{g:TG}{tc:TT}{te:TE}(hN:X.N.Nodup)(hi':X.N[i]?=some y)(hx:Loc X.env.scope y)
  (hi:PI X tg iter wi) (hg:∀z,PG (cy X sc own js z) tg g) (ht:∀z,jR (cy X sc own js z) ifs tc)
  (he:∀z,PE (cy X sc own js z) elt te) (hsw:swapsWith (.ListComp elt [⟨tg,iter,ifs,0⟩] sc pos) (some (.Name y py)) spos.line X.env=pure true:=by rfl) (hc:X.calm=true:=by rfl) (hk:sc.kind=.function:=by rfl) (hb:dG sc X.env.scope=true:=by rfl) (hj:lD sc X.N js=true:=by rfl)
  (hs:∀x,foldedSetIterable iter X.env x=pure x:=by intro _;rfl) (hf:X.fn y=true\/X.env.scope.names.lookup y=some .local:=by first|exact .inl rfl|exact .inr rfl|assumption) :
  PS X (.Assign [.Name y py] (.ListComp elt [⟨tg,iter,ifs,0⟩] sc pos) spos) (lI (oV own.length js wi g tc te) (i7 i)):=by
 intro pins s σ H D' I h;rw[exec_Assign_Name_used _ _ _ _ hsw];refine F4 (wpAny_standAt (F4 ?_));show wpAny _ X.A (do let _ ←comprehension (.ListComp elt [⟨tg,iter,ifs,0⟩] sc pos) sc X.env _ (newList []) false (eval iter X.env) (some (assign (.Name y py) X.env))) _ _ s;refine F4 (wpAny_mono (wpAny_comprehension_free (use:=some (assign (.Name y py) X.env)) (Q:=λ_ s'=>SP X pins D' .next s') rfl hs (ni λp hp hf=>I.ok.has p.1 (lz hb hp hf)) hk (λp hp hl=>xX hb hp hl)
  (ax (hi pins s σ H _ I h) λv s1 h1=>ax h1 λitv s2 h2=>?_)) (λ_ s' hq=>F5 (F5 hq)) λ_ _ e=>e)
 obtain⟨it,fp,tn,J,H2,e,I2,T,st2,f2,W,w0,turn⟩:=h2;subst e;refine yD (Q:=λx H1=>i7 i x σ H1 D'.nx) (RR:=λacc C=>compPost (model X.prog X.w) X.A X.xe (some (assign (.Name y py) X.env)) (λ_ s'=>SP X pins D' .next s') acc C) hk hb hj (λ_=>hg _) (λ_=>ht _) (λ_=>he _) I2 (λC=>Turn.at_ (Y:=cy X sc own js ⟨_,_,_,C⟩) T hc) st2 f2 w0 turn ?_;intro D C s' ys H' nD I' hC ⟨m,hm⟩ hCs q;show wpAny _ X.A (assign (.Name y py) X.env (.ref D)) _ _ _;refine wpAny_assign_Name (sT I' hN hi' hx (v:=.ref D) rfl (λs'' I'' ⟨a,hsb,ha⟩=>?_) hf);obtain⟨f0,f1,f2,f3,f4,f5⟩:=hC;have hac:a≠C:=by
  rcases ha with rfl|ha
  ·exact Ne.symm f1
  ·exact f4 y a ha
 refine⟨m,hm.sameBut hsb (Ne.symm hac),λh' hs'=>?_⟩;exact⟨_,_,I''.turned (t':=s''.toks) (it:=C) (λb o hb' e=>(hs'.2 b hb').trans e) f0 f1 f3 f4 f5,q⟩
end
section
variable {X:Cx}
end
section
variable {X:Cx} {pins:List (Addr×Obj)} {σ:St} {H:Hp}
end
end L2
namespace St
section
variable {b s:Int} {o a:List Int}
end
end St
namespace St
def bB(f:Nat->Bool)(b d:Nat):Prop:=∀x,b<=x->f (x+d)=f x
def bB.mul{f:Nat->Bool}{b d:Nat}(h:bB f b d):∀k x,b<=x->f (x+k*d)=f x
 | 0,x,hx=>by simp
 | k+1,x,hx=>by rw[Nat.succ_mul,←Nat.add_assoc,h _ (by omega),h.mul k x hx]
def bB.times{f:Nat->Bool}{b d:Nat}(h:bB f b d)(k:Nat):bB f b (k*d):=λx hx=>h.mul k x hx
def bB.down{f:Nat->Bool}{b s b' d:Nat}(h:bB f b s)(hs:1<=s)(h':bB f b' d):bB f b d:=λx hx=>by have e1:=h.mul b' (x+d) (by omega);have e2:=h.mul b' x hx;rw[←e1,←e2,show x+d+b'*s=(x+b'*s)+d by omega];exact h' _ (by have:b'*1<=b'*s:=Nat.mul_le_mul_left _ hs;omega)
def bB.mod{f:Nat->Bool}{b s d:Nat}(h:bB f b s)(h':bB f b d):bB f b (s % d):=λx hx=>by have e:=(h'.times (s / d)) (x+s % d) (by omega);rw[←e,show x+s % d+s / d*d=x+s by have:=Nat.div_add_mod s d;rw[Nat.mul_comm]at this;omega];exact h x hx
structure Least(f:Nat->Bool)(st low:Nat):Prop where
 pos:1<=st
 per:bB f low st
 step:∀d b,1<=d->bB f b d->st<=d
 base:∀b,bB f b st->low<=b
def Alike(f:Nat->Bool)(b s d:Nat):Prop:=s % d=0/\∀i,i+d<s->f (b+i+d)=f (b+i)
def Alike.per{f:Nat->Bool}{b s d:Nat}(h:bB f b s)(hs:1<=s)(hd:1<=d)(a:Alike f b s d):bB f b d:=by
 obtain⟨q,rfl⟩:∃q,s=d*q:=⟨s / d,by have:=Nat.div_add_mod s d;rw[a.1]at this;omega⟩;have hq:1<=q:=by
  cases q with
  | zero=>simp at hs
  | succ q=>omega
 have inner:∀k i,i<d->k<q->f (b+i+k*d)=f (b+i):=by
  intro k;induction k with
  | zero=>intro i _ _;simp
  | succ k ih=>
   intro i hi hk;have e:=a.2 (i+k*d) (by have:(k+1+1)*d<=q*d:=Nat.mul_le_mul_right _ (by omega);rw[Nat.succ_mul,Nat.succ_mul,Nat.mul_comm q d]at this;omega)
   rw[show b+i+(k+1)*d=b+(i+k*d)+d by rw[Nat.succ_mul];omega,e,←Nat.add_assoc];exact ih i hi (by omega)
 have all:∀n,f (b+n)=f (b+n % d):=λn=>by
  have e1:f (b+n)=f (b+n % (d*q)):=by have:=h.mul (n / (d*q)) (b+n % (d*q)) (by omega);rw[←this];congr 1;have:=Nat.div_add_mod n (d*q);rw[Nat.mul_comm (d*q)]at this;omega
  rw[e1];have hlt:n % (d*q)<d*q:=Nat.mod_lt _ (by omega);have e2:n % (d*q)=n % (d*q) % d+n % (d*q) / d*d:=by have:=Nat.div_add_mod (n % (d*q)) d;rw[Nat.mul_comm]at this;omega
  have e3:n % (d*q) % d=n % d:=Nat.mod_mul_right_mod n d q;have e4:n % (d*q) / d<q:=Nat.div_lt_of_lt_mul hlt;rw[e2,←Nat.add_assoc,inner _ _ (Nat.mod_lt _ (by omega)) e4,e3]
 intro x hx;obtain⟨n,rfl⟩:∃n,x=b+n:=⟨x-b,by omega⟩;rw[Nat.add_assoc,all (n+d),all n,Nat.add_mod_right]
def bB.alike{f:Nat->Bool}{b s d:Nat}(h:bB f b d)(hm:s % d=0):Alike f b s d:=⟨hm,λi _=>h (b+i) (by omega)⟩
def zP{f:Nat->Bool}{b s d:Nat}(h:bB f b s)(hs:1<=s)(hd:1<=d)(a:Alike f b s d)(first:∀e,1<=e->e<d->¬Alike f b s e):bB f b d/\∀e b',1<=e->bB f b' e->d<=e:=by
 have pd:=a.per h hs hd;refine⟨pd,λe b' he pe=>?_⟩;have pe':bB f b e:=h.down hs pe;have go:∀n e,e<=n->1<=e->bB f b e->d<=e:=by
  intro n;induction n with
  | zero=>intro e h1 h2;omega
  | succ n ih=>
   intro e h1 h2 pe;by_cases hz:s % e=0
   ·rcases GW e d with hlt|hge
    ·exact absurd (pe.alike hz) (first e h2 hlt)
    ·exact hge
   ·have hlt:s % e<e:=Nat.mod_lt _ (by omega);have:=ih (s % e) (by omega) (by omega) (h.mod pe);omega
 exact go e e (Gw _) he pe'
def An{f:Nat->Bool}{b s d low:Nat}(h:bB f b s)(hs:1<=s)(hd:1<=d)(a:Alike f b s d)(first:∀e,1<=e->e<d->¬Alike f b s e)(hl:low<=b)
  (down:∀x,low<=x->x<b->f x=f (x+d)) (stop:low=0\/f (low-1)≠f (low-1+d)):Least f d low:=by
 obtain⟨pd,hmin⟩:=zP h hs hd a first
 refine⟨hd,λx hx=>?_,hmin,λb' pb=>?_⟩
 ·rcases GW x b with hlt|hge
  ·exact(down x hx hlt).symm
  ·exact pd x hge
 ·rcases stop with h0|hne
  ·omega
  ·rcases GW b' low with hlt|hge
   ·exact absurd (pb (low-1) (by omega)).symm hne
   ·exact hge
def row(f:Nat->Bool)(lo n:Nat):List Int:=((Hb n).filter λi=>f (lo+i)).map λi=>((lo+i:Nat):Int)
end St
namespace St
def sA(f:Nat->Bool)(lo n:Nat):row f lo (n+1)=row f lo n++if f (lo+n)then[((lo+n:Nat):Int)]else[]:=by unfold row;rw[List.range_succ,List.filter_append,Gs];congr 1;by_cases h:f (lo+n)=true<;>simp[h]
def sY(f:Nat->Bool)(lo n:Nat):(row f lo n).length<=n:=by unfold row;rw[Ga];exact GI (List.length_filter_le _ _) (by simp)
end St
namespace St
end St
namespace St
end St
namespace Bfs
def oI:∀(N:Nat) (l:List Nat),l.Nodup->(∀x∈l,x<N)->l.length<=N
 | 0,l,_,h=>by
  cases l with
  | nil=>exact Gw _
  | cons x l=>exact absurd (h x Gh) (Nat.not_lt_zero _)
 | N+1,l,hn,h=>by
  have ih:=oI N (l.erase N) (hn.erase N) (λx hx=>by
   have:=h x (List.mem_of_mem_erase hx);have hne:x≠N:=λe=>by subst e;exact(List.Nodup.not_mem_erase hn) hx
   omega)
  by_cases hm:N∈l
  ·rw[List.length_erase_of_mem hm]at ih;omega
  ·rw[List.erase_of_not_mem hm]at ih;omega
abbrev Pl:=Int×Int
def inR(T:Int)(x:Pl):Prop:=0<=x.1/\x.1<12/\0<=x.2/\x.2<=T
def y7{T:Int}{l:List Pl}(hT:T<=2000)(hn:l.Nodup)(h:∀x∈l,inR T x):l.length<=24012:=by
 have hmap:(l.map λx=>(x.1*2001+x.2).toNat).Nodup:=by unfold List.Nodup at hn ⊢;rw[List.pairwise_map];refine List.Pairwise.imp_of_mem ?_ hn;intro a b ha hb hab e;obtain⟨a1,a2,a3,a4⟩:=h a ha;obtain⟨b1,b2,b3,b4⟩:=h b hb;refine hab (Prod.ext ?_ ?_)<;>omega
 have:=oI 24012 _ hmap (λy hy=>by obtain⟨x,hx,rfl⟩:=List.mem_map.mp hy;obtain⟨a1,a2,a3,a4⟩:=h x hx;omega)
 rwa [Ga]at this
section
variable (nx:Pl->Nat->Option Pl) (s:Pl)
inductive Wk:Nat->Pl->Prop
 | zero:Wk 0 s
 | succ {n:Nat} {x y:Pl} {k:Nat}:Wk n x->nx x k=some y->Wk (n+1) y
def lH(n:Nat)(x:Pl):Prop:=Wk nx s n x/\∀m,m<n->¬Wk nx s m x
abbrev Ent:=Pl×Nat×Option (Pl×Nat)
structure QI(q:List Ent)(i B:Nat):Prop where
 nd:(q.map (·.1)).Nodup
 par:∀e∈q,(e.2.2=none/\e.1=s/\e.2.1=0)\/∃p k d o,e.2.2=some (p,k)/\nx p k=some e.1/\e.2.1=d+1/\(p,d,o)∈q
 le:∀e∈q,e.2.1<=B+1
 lo:∀j e,q[j]?=some e->i<=j->B<=e.2.1
 srt:q.Pairwise λa b=>a.2.1<=b.2.1
 cl:∀j e,j<i->q[j]?=some e->∀k y,nx e.1 k=some y->∃e'∈q,e'.1=y/\e'.2.1<=e.2.1+1
 s0:(s,0,none)∈q
def QI.begin:QI nx s [(s,0,none)] 0 0:=by
 refine⟨by simp,?_,?_,?_,by simp,?_,by simp⟩
 ·intro e he;rw[Gm]at he;subst he;exact .inl ⟨rfl,rfl,rfl⟩
 ·intro e he;rw[Gm]at he;subst he;simp
 ·intro j e _ _;exact Nat.zero_le _
 ·intro j e hj;exact absurd hj (Nat.not_lt_zero _)
variable {nx s}
def QI.wk{q:List Ent}{i B:Nat}(h:QI nx s q i B):∀(d:Nat) (e:Ent),e∈q->e.2.1=d->Wk nx s d e.1
 | 0,e,he,hd=>by
  rcases h.par e he with⟨_,hs,_⟩|⟨p,k,d,o,_,_,hd',_⟩
  ·rw[hs];exact .zero
  ·omega
 | d+1,e,he,hd=>by
  rcases h.par e he with⟨_,_,h0⟩|⟨p,k,d',o,_,hn,hd',hm⟩
  ·omega
  ·have:d'=d:=by omega
   subst this;exact .succ (QI.wk h d' _ hm rfl) hn
def QI.all{q:List Ent}{i B:Nat}(h:QI nx s q i B):∀(n:Nat) (y:Pl),Wk nx s n y->(n<=B\/i=q.length)->∃e∈q,e.1=y/\e.2.1<=n:=by
 intro n y w;induction w with
 | zero=>intro _;exact⟨_,h.s0,rfl,Gw _⟩
 | @succ n x y k w hk ih=>
  intro hB;obtain⟨e,he,hx,hd⟩:=ih (hB.imp (λh=>by omega) id);obtain⟨j,hj⟩:=GX he;have hji:j<i:=by
   rcases hB with hB|hB
   ·rcases GW j i with l|l
    ·exact l
    ·have:=h.lo j e hj l;omega
   ·rw[hB];exact(Gj.mp hj).1
  obtain⟨e',he',hy,hd'⟩:=h.cl j e hji hj k y (by rw[hx];exact hk);exact⟨e',he',hy,by omega⟩
def ED{q:List Ent}(hn:(q.map (·.1)).Nodup){e e':Ent}(h:e∈q)(h':e'∈q)(he:e.1=e'.1):e=e':=by
 induction q with
 | nil=>cases h
 | cons a q ih=>
  rw[List.map_cons,List.nodup_cons]at hn;rcases Gq.mp h with r|r<;>rcases Gq.mp h' with r'|r'
  ·rw[r,r']
  ·subst r;exact absurd (List.mem_map.mpr ⟨e',r',he.symm⟩) hn.1
  ·subst r';exact absurd (List.mem_map.mpr ⟨e,r,he⟩) hn.1
  ·exact ih hn.2 r r'
def QI.dist{q:List Ent}{i B:Nat}(h:QI nx s q i B){e:Ent}(he:e∈q):lH nx s e.2.1 e.1:=by refine⟨h.wk _ e he rfl,λm hm w=>?_⟩;have:=h.le e he;obtain⟨e',he',hy,hd⟩:=h.all m e.1 w (.inl (by omega));have:=ED h.nd he' he hy;subst this;omega
def QI.done{q:List Ent}{B:Nat}(h:QI nx s q q.length B){y:Pl}(hy:y∉q.map (·.1))(n:Nat):¬lH nx s n y:=λd=>by obtain⟨e,he,hx,_⟩:=h.all n y d.1 (.inr rfl);exact hy (List.mem_map.mpr ⟨e,he,hx⟩)
def wJ{q:List Ent}(hs:q.Pairwise λa b=>a.2.1<=b.2.1){i j:Nat}{a b:Ent}(ha:q[i]?=some a)(hb:q[j]?=some b)(hij:i<=j):a.2.1<=b.2.1:=by
 rcases GW i j with l|l
 ·obtain⟨h1,e1⟩:=Gj.mp ha;obtain⟨h2,e2⟩:=Gj.mp hb;have:=List.pairwise_iff_getElem.mp hs i j h1 h2 l;rw[e1,e2]at this;exact this
 ·have:i=j:=by omega
  subst this;rw[ha]at hb;cases hb;exact Gw _
def QI.deepAt{q:List Ent}{i B:Nat}(h:QI nx s q i B):∀(j:Nat) (e:Ent),q[j]?=some e->e.2.1<=j:=by
 intro j;induction j using Nat.strongRecOn with
 | _ j ih=>
  intro e he;rcases h.par e (Gk he)with⟨_,_,h0⟩|⟨p,k,d,o,_,_,hd,hm⟩
  ·omega
  ·obtain⟨j',hj'⟩:=GX hm;have hlt:j'<j:=by
    rcases GW j' j with l|l
    ·exact l
    ·have:=wJ h.srt he hj' l;dsimp only at this;omega
   have:=ih j' hlt _ hj';dsimp only at this;omega
def QI.deep{q:List Ent}{i B:Nat}(h:QI nx s q i B){e:Ent}(he:e∈q):e.2.1<=q.length:=by obtain⟨j,hj⟩:=GX he;have h1:=h.deepAt j e hj;have h2:=(Gj.mp hj).1;omega
structure QF(q:List Ent)(i:Nat)(h:Ent)(ks:List Nat)(m:Nat):Prop where
 at_:q[i]?=some h
 nd:(q.map (·.1)).Nodup
 par:∀e∈q,(e.2.2=none/\e.1=s/\e.2.1=0)\/∃p k d o,e.2.2=some (p,k)/\nx p k=some e.1/\e.2.1=d+1/\(p,d,o)∈q
 le:∀e∈q,e.2.1<=h.2.1+1
 srt:q.Pairwise λa b=>a.2.1<=b.2.1
 cl:∀j e,j<i->q[j]?=some e->∀k y,nx e.1 k=some y->∃e'∈q,e'.1=y/\e'.2.1<=e.2.1+1
 ch:∀k∈ks.take m,∀y,nx h.1 k=some y->∃e'∈q,e'.1=y/\e'.2.1<=h.2.1+1
 s0:(s,0,none)∈q
def QI.look{q:List Ent}{i B:Nat}{h:Ent}(H:QI nx s q i B)(ha:q[i]?=some h)(ks:List Nat):QF (nx:=nx) (s:=s) q i h ks 0:=by refine⟨ha,H.nd,H.par,λe he=>?_,H.srt,H.cl,λk hk=>by simp at hk,H.s0⟩;have:=H.le e he;have:=H.lo i h ha (Gw _);omega
def QF.next{q:List Ent}{i:Nat}{h:Ent}{ks:List Nat}(H:QF (nx:=nx) (s:=s) q i h ks ks.length)(hk:∀k y,nx h.1 k=some y->k∈ks):QI nx s q (i+1) h.2.1:=by
 refine⟨H.nd,H.par,H.le,λj e hj hij=>wJ H.srt H.at_ hj (by omega),H.srt,λj e hj he k y hy=>?_,H.s0⟩;rcases GW j i with l|l
 ·exact H.cl j e l he k y hy
 ·have:j=i:=by omega
  subst this;have e':=H.at_;rw[he]at e';cases e';exact H.ch k (by rw[GG];exact hk k y hy) y hy
def QF.skip{q:List Ent}{i:Nat}{h:Ent}{ks:List Nat}{m k:Nat}(H:QF (nx:=nx) (s:=s) q i h ks m)(hk:ks[m]?=some k)(hy:∀y,nx h.1 k=some y->y∈q.map (·.1)):QF (nx:=nx) (s:=s) q i h ks (m+1):=by
 refine⟨H.at_,H.nd,H.par,H.le,H.srt,H.cl,λk' hk' y hy'=>?_,H.s0⟩;rw[List.take_succ,hk]at hk';rcases Gz.mp hk' with z|z
 ·exact H.ch k' z y hy'
 ·have:k'=k:=by simpa using z
  subst this;obtain⟨e,he,hx⟩:=List.mem_map.mp (hy y hy');exact⟨e,he,hx,H.le e he⟩
def QF.add{q:List Ent}{i:Nat}{h:Ent}{ks:List Nat}{m k:Nat}{y:Pl}(H:QF (nx:=nx) (s:=s) q i h ks m)(hk:ks[m]?=some k)(hy:nx h.1 k=some y)(hn:y∉q.map (·.1)):
  QF (nx:=nx) (s:=s) (q++[(y,h.2.1+1,some (h.1,k))]) i h ks (m+1):=by
 have hil:=(Gj.mp H.at_).1;have hmem:h∈q:=Gk H.at_;refine⟨by rw[GC hil];exact H.at_,?_,?_,?_,?_,?_,?_,GS _ H.s0⟩
 ·rw[Gs,List.nodup_append];refine⟨H.nd,by simp,λa ha b hb e=>?_⟩;have:b=y:=by simpa using hb
  subst this;subst e;exact hn ha
 ·intro e he;rcases Gz.mp he with z|z
  ·rcases H.par e z with p|⟨p,k',d,o,h1,h2,h3,h4⟩
   ·exact .inl p
   ·exact .inr ⟨p,k',d,o,h1,h2,h3,GS _ h4⟩
  ·have:e=(y,h.2.1+1,some (h.1,k)):=by simpa using z
   subst this;exact .inr ⟨h.1,k,h.2.1,h.2.2,rfl,hy,rfl,GS _ hmem⟩
 ·intro e he;rcases Gz.mp he with z|z
  ·exact H.le e z
  ·have:e=(y,h.2.1+1,some (h.1,k)):=by simpa using z
   subst this;exact Gw _
 ·rw[List.pairwise_append];refine⟨H.srt,by simp,λa ha b hb=>?_⟩;have:b=(y,h.2.1+1,some (h.1,k)):=by simpa using hb
  subst this;exact H.le a ha
 ·intro j e hj he k' y' hy';rw[GC (by omega)]at he;obtain⟨e',h1,h2⟩:=H.cl j e hj he k' y' hy';exact⟨e',GS _ h1,h2⟩
 ·intro k' hk' y' hy';rw[List.take_succ,hk]at hk';rcases Gz.mp hk' with z|z
  ·obtain⟨e',h1,h2⟩:=H.ch k' z y' hy';exact⟨e',GS _ h1,h2⟩
  ·have:k'=k:=by simpa using z
   subst this;rw[hy]at hy';cases hy';exact⟨_,GR _ Gh,rfl,Gw _⟩
def gone:Pl->List Nat->Option Pl
 | x,[]=>some x
 | x,k::r=>(nx x k).bind λy=>gone y r
end
end Bfs
namespace Bfs
inductive Rw(S:Pl->Pl->Prop):Nat->Pl->Pl->Prop
 | nil {x:Pl}:Rw S 0 x x
 | snoc {n:Nat} {x y z:Pl}:Rw S n x y->S y z->Rw S (n+1) x z
def Rw.trans{S:Pl->Pl->Prop}{n k:Nat}{x y z:Pl}(h:Rw S n x y)(g:Rw S k y z):Rw S (n+k) x z:=by
 induction g with
 | nil=>exact h
 | snoc _ hs ih=>exact .snoc (ih h) hs
def Rw.fn{S:Pl->Pl->Prop}{n:Nat}{x y:Pl}(h:Rw S n x y):∃w:Nat->Pl,w 0=x/\w n=y/\∀i,i<n->S (w i) (w (i+1)):=by
 induction h with
 | @nil x=>exact⟨λ_=>x,rfl,rfl,λi hi=>absurd hi (Nat.not_lt_zero _)⟩
 | @snoc n x y z _ hs ih=>
  obtain⟨w,h0,hn,hw⟩:=ih;refine⟨λi=>if i<=n then w i else z,by simp[h0],(by show(if n+1<=n then w (n+1)else z)=z;rw[He (by omega)]),λi hi=>?_⟩
  try dsimp only
  rcases GW i n with l|l
  ·rw[Hf (by omega),Hf (by omega)];exact hw i l
  ·have:i=n:=by omega
   subst this;rw[Hf (Gw _),He (by omega),hn];exact hs
def w6{S:Pl->Pl->Prop}{w:Nat->Pl}{i:Nat}:∀(k:Nat),(∀j,i<=j->j<i+k->S (w j) (w (j+1)))->Rw S k (w i) (w (i+k))
 | 0,_=>.nil
 | k+1,h=>.snoc (w6 k λj h1 h2=>h j h1 (by omega)) (h (i+k) (by omega) (by omega))
def BW{S:Pl->Pl->Prop}{w:Nat->Pl}{i j:Nat}(hij:i<=j)(h:∀k,i<=k->k<j->S (w k) (w (k+1))):Rw S (j-i) (w i) (w j):=by
 have:=w6 (S:=S) (w:=w) (i:=i) (j-i) (λk h1 h2=>h k h1 (by omega))
 rwa [show i+(j-i)=j by omega]at this
def kW{h:Nat->Int}{l:Int}:∀(P:Nat),(∀i,i<P->h (i+1)<=h i+1)->h 0<=l->l<=h P->∃u,u<=P/\h u=l/\∀i,u<i->i<=P->l<h i
 | 0,_,h0,hP=>⟨0,Gw _,by omega,λi h1 h2=>by omega⟩
 | P+1,hs,h0,hP=>by
  by_cases e:h (P+1)=l
  ·exact⟨P+1,Gw _,e,λi h1 h2=>by omega⟩
  ·have:=hs P (by omega);obtain⟨u,hu,hl,hi⟩:=kW P (λi hi=>hs i (by omega)) h0 (by omega);refine⟨u,by omega,hl,λi h1 h2=>?_⟩;rcases GW P i with g|g
   ·have:i=P+1:=by omega
    subst this;omega
   ·exact hi i h1 g
def Dg{h:Nat->Int}{l:Int}{P n:Nat}(hP:P<=n)(hs:∀i,P<=i->i<n->h i<=h (i+1)+1)(h0:h n<=l)(hl:l<=h P):∃d,P<=d/\d<=n/\h d=l/\∀i,P<=i->i<d->l<h i:=by
 obtain⟨u,hu,hul,hui⟩:=kW (h:=λi=>h (n-i)) (l:=l) (n-P) (λi hi=>by
  have:=hs (n-(i+1)) (by omega) (by omega)
  rwa [show n-(i+1)+1=n-i by omega]at this) (by simpa using h0) (by
  try dsimp only
  rw[show n-(n-P)=P by omega];exact hl)
 refine⟨n-u,by omega,by omega,hul,λi h1 h2=>?_⟩;have:=hui (n-i) (by omega) (by omega)
 (try dsimp only at this)
 rwa [show n-(n-i)=i by omega]at this
end Bfs
namespace Bfs
end Bfs
namespace Rnd
section
variable {n:Nat} {A:Nat->Nat->Prop} (hA:∀i j,A i j->i<n/\j<n)
end
end Rnd
namespace My
open PySem L2 St
def stq (i : Nat) : Stmt := PySem.Challenge.pw_stairrooms_k40_refusals_of_papers.main.body.getD i (.Pass ⟨0, 0, 0, 0⟩)
local macro_rules|`(tactic| walk_at "cond") => `(tactic| first|decide|omega|(dsimp only; omega)|(unfold lC; omega)|(unfold tL; exact ⟨by decide, by decide, by decide⟩)|(dsimp only; exact ⟨by omega, by omega⟩)|exact .inr ⟨by decide, by decide⟩|exact .inl ⟨by decide, by decide⟩|(unfold SmallR; omega))
local macro_rules|`(tactic| walk_at"") => do
 let ts ← ("seq ret retN asg drop ifS next name var c op un CB cons nil ints test B exb not and or andV orV notV ifE yes I0 I U EqI NeI EqB NeB call BM tup lst sl noPart part exi chain comp iL iT i1 i2 i3 for tTru intB max2 min2 sub gcons gnil aug ipI zip rev par par2 lam calV raise fs try bseq bnext bplain bif bcall enum gget gin revL leS disp dget lrev disp1 din dnin dput min3 iS iD bm0 revS iD2 iLT thaw iD3 iDL dgt2 fs3 fs5".splitOn " ").toArray.mapM λn =>
  let i := Lean.mkIdent (.mkSimple ("rd_" ++ n))
  if n == "var" || n == "aug" then `(tacticSeq| ((with_reducible apply $i); (exact rfl)))
  else if n == "I" then `(tacticSeq| ((with_reducible apply $i); (walk_at "cond")))
  else `(tacticSeq| with_reducible refine $i ?_)
 `(tactic| repeat (first $[| $ts]*|dsimp only))
structure Blt(mg:Str->Option Value):Prop where
 len_:mg "len" = none
 isinstance_:mg "isinstance" = none
 tuple_:mg "tuple" = none
 list_:mg "list" = none
 int_:mg "int" = none
 bool_:mg "bool" = none
 range_:mg "range" = none
 zip_:mg "zip" = none
 max_:mg "max" = none
 min_:mg "min" = none
 abs_:mg "abs" = none
 all_:mg "all" = none
 ValueError_:mg "ValueError" = none
 enumerate_:mg "enumerate" = none
 set_:mg "set" = none
 str_:mg "str" = none
 reversed_:mg "reversed" = none
 any_:mg "any" = none
abbrev jz:List Str:=["Endless","NoDeed","NoHouse","NoLine","NoPlace","NoStair","NoText","NoWalk","NoWay","NotBare","StairError","TooGreat"]
abbrev jA:List Str:=["NoHouse","NoPlace","TooGreat"]
def isInt:V->Bool
 | .int _=>true
 | _=>false
def isStr:V->Bool
 | .str _=>true
 | _=>false
def isTup(H:Hp):V->Bool
 | .ref p=>match H p with
  | some (.tup _)=>true
  | _=>false
 | _=>false
def CC{H:Hp}{v:V}{n:String}(h:dR H v n):∃b c,fS n "int" = some b/\fS n "bool" = some c/\(b && !c)=isInt v:=by
 cases v with
 | non=>cases(show n = "NoneType" from h);exact⟨_,_,rfl,rfl,rfl⟩
 | bl b=>cases(show n = "bool" from h);exact⟨_,_,rfl,rfl,rfl⟩
 | int i=>cases(show n = "int" from h);exact⟨_,_,rfl,rfl,rfl⟩
 | str z=>cases(show n = "str" from h);exact⟨_,_,rfl,rfl,rfl⟩
 | ref a=>rcases h with⟨rfl,xs,e⟩|⟨rfl,xs,e⟩<;>exact⟨_,_,rfl,rfl,rfl⟩
 | _=>exact False.elim h
def xm{H:Hp}{v:V}{n:String}(h:dR H v n):fS n "str" = some (isStr v):=by
 cases v with
 | non=>cases(show n = "NoneType" from h);rfl
 | bl b=>cases(show n = "bool" from h);rfl
 | int i=>cases(show n = "int" from h);rfl
 | str z=>cases(show n = "str" from h);rfl
 | ref a=>rcases h with⟨rfl,xs,e⟩|⟨rfl,xs,e⟩<;>rfl
 | _=>exact False.elim h
def mz{H:Hp}{v:V}{n:String}(h:dR H v n):fS n "tuple" = some (isTup H v):=by
 cases v with
 | non=>cases(show n = "NoneType" from h);rfl
 | bl b=>cases(show n = "bool" from h);rfl
 | int i=>cases(show n = "int" from h);rfl
 | str z=>cases(show n = "str" from h);rfl
 | ref a=>rcases h with⟨rfl,xs,e⟩|⟨rfl,xs,e⟩<;>(unfold isTup;dsimp only;rw[e];rfl)
 | _=>exact False.elim h
def bw(H:Hp):Nat->V->Prop
 | _,.non=>True
 | _,.bl _=>True
 | _,.int _=>True
 | _,.str z=>z.length<=1000
 | 0,.ref _=>False
 | n+1,.ref p=>∃xs,(H p=some (.tup xs)\/H p=some (.lst xs))/\xs.length<=2000/\∀x∈xs,bw H n x
 | _,_=>False
def bw.ext{H H':Hp}(e:Ext H H'):∀{n:Nat} {v:V},bw H n v->bw H' n v:=by
 intro n;induction n with
 | zero=>intro v h;cases v<;>exact h
 | succ n ih=>
  intro v h;cases v with
  | ref p=>
   obtain⟨xs,h1,h2,h3⟩:=h;exact⟨xs,h1.imp (e _ _) (e _ _),h2,λx hx=>ih (h3 x hx)⟩
  | _=>exact h
def bw.kind{H:Hp}{n:Nat}{v:V}(h:bw H n v):∃k,dR H v k:=by
 cases v with
 | non=>exact⟨_,rfl⟩
 | bl b=>exact⟨_,rfl⟩
 | int i=>exact⟨_,rfl⟩
 | str z=>exact⟨_,rfl⟩
 | ref p=>
  cases n with
  | zero=>exact h.elim
  | succ n=>
   obtain⟨xs,h1,_⟩:=h;rcases h1 with h1|h1
   ·exact⟨"tuple",.inr ⟨rfl,xs,h1⟩⟩
   ·exact⟨"list",.inl ⟨rfl,xs,h1⟩⟩
 | _=>cases n<;>exact h.elim
def kL{H:Hp}{v:V}(h:isTup H v=true):∃p xs,v=.ref p/\H p=some (.tup xs):=by
 cases v with
 | ref p=>
  unfold isTup at h;dsimp only at h;split at h
  ·rename_i xs e;exact⟨p,xs,rfl,e⟩
  ·cases h
 | _=>cases h
def bw.items{H:Hp}{n:Nat}{p:Addr}{xs:List V}(h:bw H (n+1) (.ref p))(e:H p=some (.tup xs)):xs.length<=2000/\∀x∈xs,bw H n x:=by obtain⟨ys,h1,h2,h3⟩:=h;rcases h1 with h1|h1<;>rw[e]at h1<;>cases h1;exact⟨h2,h3⟩
def f6{n:Nat}(h:n<=2000):n<=sizeLine:=GI h (by decide)
def o8(K:F6):Sp:=λvs H Q _=>∃v n,vs=[v]/\dR H v n/\Q (.bl (isInt v)) H
abbrev oE:Stmt:=stq 14
def sN:FnScope ["thing"] ["thing"] (aJ oE):=⟨rfl,rfl,rfl,by decide +kernel,rfl,by decide +kernel,by decide +kernel⟩
def Ed{P:Program}{w:World}{K:F6}{mg:Str->Option Value}{base:Heap}(D:Dfn K mg "is_whole" oE ["thing"])(T:Blt mg):Cal P w K mg base "is_whole" 1 ["thing"] (o8 K):=by
 have nd:=(sN).nd;refine D.ok sN (λvs H Q E h=>?_) (λX hX H vs Q E h=>?_)
 ·obtain⟨v,n,rfl,_⟩:=h;rfl
 ·obtain⟨f,cdv,A,outer,s,H0,E0,rfl,hr⟩:=hX;obtain⟨v,n,rfl,hk,q⟩:=h;obtain⟨b,c,hb,hc,e⟩:=CC hk;refine⟨_,(aq (aI (dI (bt hJ rfl T.isinstance_ PyProof.Rows.boot_isinstance (aa (pv 0) (aa (fM (v:=.ty "int") rfl T.int_ PyProof.Rows.boot_int rfl) ae))) (eO (xE (bt hJ rfl T.isinstance_ PyProof.Rows.boot_isinstance (aa (pv 0) (aa (fM (v:=.ty "bool") rfl T.bool_ PyProof.Rows.boot_bool rfl) ae)))))))),?_⟩;walk_at"";refine gM hk hb ?_;walk_at"";cases b with
  | false=>refine aC ?_;rw[←e]at q;exact q
  | true=>
   refine ay ?_;walk_at"";refine gM hk hc ?_;walk_at"";rw[←e]at q;exact q
def cJ(m:Int):V->Bool
 | .int i=>decide (0<=i) && decide (i<m)
 | _=>false
def jh:List (Key×V):=[(.inr "up",.str "down"),(.inr "down",.str "up"),(.inr "stay",.str "stay"),(.inr "zero",.str "zero")]
def xp{w:World}{K:F6}{a:Addr}{t1 t2 t3 t4 t5 t6 t7 t8:Tok}{ep:Nat}(h:K.lookup a=some (iQ w [("up",t1,.str "down" t2),("down",t3,.str "up" t4),("stay",t5,.str "stay" t6),("zero",t7,.str "zero" t8)] ep))(hs:(a == sysModules)=false):GDict w K a jh:=
 ⟨⟨_,_,h,.cons ⟨rfl,⟨_,rfl⟩⟩ (.cons ⟨rfl,⟨_,rfl⟩⟩ (.cons ⟨rfl,⟨_,rfl⟩⟩ (.cons ⟨rfl,⟨_,rfl⟩⟩ .nil)))⟩,by decide +kernel,hs⟩
def gJ:V->Bool
 | .str z=>(bI jh (.inr z)).isSome
 | _=>false
def jZ(z:Str):Bool:=!decide (z.cps.toList<(GP "a").cps.toList) && !decide ((GP "z").cps.toList<z.cps.toList)
def gZ:V->Bool
 | .str z=>decide (z.length=1) && jZ z
 | _=>false
def xU{v:V}(h:isInt v=true):∃i,v=.int i:=by cases v<;>first|exact ⟨_,rfl⟩|cases h
def isStr_of{v:V}(h:isStr v=true):∃z,v=.str z:=by cases v<;>first|exact ⟨_,rfl⟩|cases h
def Ex{m:Int}{v:V}(h:isInt v=false):cJ m v=false:=by cases v<;>first|rfl|cases h
def Fp{v:V}(h:isStr v=false):gJ v=false:=by cases v<;>first|rfl|cases h
def BG{v:V}(h:isStr v=false):gZ v=false:=by cases v<;>first|rfl|cases h
def nN(K:F6):Sp:=λvs H Q _=>∃v m n,vs=[v,.int m]/\dR H v n/\Q (.bl (cJ m v)) H
abbrev oO:Stmt:=stq 23
def va:FnScope ["thing","many"] ["thing","many"] (aJ oO):=⟨rfl,rfl,rfl,by decide +kernel,rfl,by decide +kernel,by decide +kernel⟩
def Ah{P:Program}{w:World}{K:F6}{mg:Str->Option Value}{base:Heap}(D:Dfn K mg "is_room" oO ["thing","many"])(T:Blt mg)(C_is_whole:Cal P w K mg base "is_whole" 1 ["thing"] (o8 K)):Cal P w K mg base "is_room" 2 ["thing","many"] (nN K):=by
 have nd:=(va).nd;refine D.ok va (λvs H Q E h=>?_) (λX hX H vs Q E h=>?_)
 ·obtain⟨i,m,n,rfl,_⟩:=h;rfl
 ·obtain⟨f,cdv,A,outer,s,H0,E0,rfl,hr⟩:=hX;obtain⟨v,m,n,rfl,hk,q⟩:=h;refine⟨_,(aq (aI (dI (aE C_is_whole hr (aa (pv 0) ae)) (eO (oq jS gL af (pv 0) (pv 1)))))),?_⟩;walk_at"";refine⟨v,n,rfl,hk,?_⟩;refine rd_exb ?_;cases hv:isInt v with
  | false=>
   refine aC ?_;rw[Ex hv]at q;exact q
  | true=>
   obtain⟨i,rfl⟩:=xU hv;refine ay ?_;walk_at"";unfold cJ at q;dsimp only at q;cases h0:decide (0<=i)with
   | false=>
    refine aC ?_;rw[h0]at q;exact q
   | true=>
    refine ay ?_;walk_at"";rw[h0,Bool.true_and]at q;exact q
def u7(K:F6):Sp:=λvs H Q _=>∃v n,vs=[v]/\dR H v n/\Q (.bl (gJ v)) H
abbrev qj:Stmt:=stq 24
def rh:FnScope ["thing"] ["thing"] (aJ qj):=⟨rfl,rfl,rfl,by decide +kernel,rfl,by decide +kernel,by decide +kernel⟩
def CS{P:Program}{w:World}{K:F6}{mg:Str->Option Value}{base:Heap}(D:Dfn K mg "is_deed" qj ["thing"])(T:Blt mg)(g_TURNED:∃a,mg "TURNED" = some (.ref a)/\GDict w K a jh):Cal P w K mg base "is_deed" 1 ["thing"] (u7 K):=by
 have nd:=(rh).nd;refine D.ok rh (λvs H Q E h=>?_) (λX hX H vs Q E h=>?_)
 ·obtain⟨z,n,rfl,_⟩:=h;rfl
 ·obtain⟨f,cdv,A,outer,s,H0,E0,rfl,hr⟩:=hX;obtain⟨a_TURNED,m_TURNED,d_TURNED⟩:=g_TURNED;obtain⟨v,n,rfl,hk,q⟩:=h;refine⟨_,(aq (aI (dI (bt hJ rfl T.isinstance_ PyProof.Rows.boot_isinstance (aa (pv 0) (aa (fM (v:=.ty "str") rfl T.str_ PyProof.Rows.boot_str rfl) ae))) (eO (CJ (zH rfl m_TURNED d_TURNED (pv 0)) (by with_unfolding_all rfl)))))),?_⟩;walk_at"";refine gM hk (xm hk) ?_;walk_at"";cases hv:isStr v with
  | false=>
   refine aC ?_;rw[Fp hv]at q;exact q
  | true=>
   obtain⟨z,rfl⟩:=isStr_of hv;refine ay ?_;walk_at"";exact⟨.inr z,rfl,q⟩
def xP(K:F6):Sp:=λvs H Q _=>∃v n j,vs=[v]/\dR H v n/\bw H j v/\Q (.bl (gZ v)) H
abbrev mh:Stmt:=stq 25
def q9:FnScope ["thing"] ["thing"] (aJ mh):=⟨rfl,rfl,rfl,by decide +kernel,rfl,by decide +kernel,by decide +kernel⟩
def zy{P:Program}{w:World}{K:F6}{mg:Str->Option Value}{base:Heap}(D:Dfn K mg "is_sign" mh ["thing"])(T:Blt mg):Cal P w K mg base "is_sign" 1 ["thing"] (xP K):=by
 have nd:=(q9).nd;refine D.ok q9 (λvs H Q E h=>?_) (λX hX H vs Q E h=>?_)
 ·obtain⟨z,n,j,rfl,_⟩:=h;rfl
 ·obtain⟨f,cdv,A,outer,s,H0,E0,rfl,hr⟩:=hX;obtain⟨v,n,j,rfl,hk,ht,q⟩:=h;refine⟨_,(aq (aI (dI (bt hJ rfl T.isinstance_ PyProof.Rows.boot_isinstance (aa (pv 0) (aa (fM (v:=.ty "str") rfl T.str_ PyProof.Rows.boot_str rfl) ae))) (dI (fb b6 (bt DN rfl T.len_ PySem.boot_len (aa (pv 0) ae)) af (aP _)) (eO (oq sy sy aF (pv 0) aF)))))),?_⟩;walk_at"";refine gM hk (xm hk) ?_;walk_at"";cases hv:isStr v with
  | false=>
   refine aC ?_;rw[BG hv]at q;exact q
  | true=>
   obtain⟨z,rfl⟩:=isStr_of hv;refine ay ?_;walk_at"";refine⟨_,rfl,f6 (GI (show z.length<=1000 by cases j<;>exact ht) (by decide)),?_⟩;walk_at"";unfold gZ jZ at q;dsimp only at q;by_cases h1:z.length=1
   ·rw[Hd (show((z.length:Nat):Int)=1 by omega)];refine ay ?_;walk_at"";rw[Hd h1,Bool.true_and]at q;cases h2:!decide (z.cps.toList<(GP "a").cps.toList)with
    | false=>
     refine aC ?_;rw[h2]at q;exact q
    | true=>
     refine ay ?_;walk_at"";rw[h2,Bool.true_and]at q;exact q
   ·rw[Hc (show ¬((z.length:Nat):Int)=1 by omega)];refine aC ?_;rw[Hc h1,Bool.false_and]at q;exact q
def fF(m:Int):List V->Bool
 | [a,b,c,d]=>cJ m a && (cJ m c && (gJ b && gZ d))
 | _=>false
def bP(H:Hp)(m:Int):V->Bool
 | .ref p=>match H p with
  | some (.tup xs)=>fF m xs
  | _=>false
 | _=>false
def rf{H:Hp}{m:Int}{v:V}(h:isTup H v=false):bP H m v=false:=by
 cases v with
 | ref p=>
  unfold isTup at h;unfold bP;dsimp only at h ⊢;split
  ·rename_i xs e;rw[e]at h;cases h
  ·rfl
 | _=>rfl
def gX{H:Hp}{m:Int}{p:Addr}{xs:List V}(h:H p=some (.tup xs)):bP H m (.ref p)=fF m xs:=by unfold bP;dsimp only;rw[h]
def qk{m:Int}{xs:List V}(h:xs.length≠4):fF m xs=false:=by
 unfold fF;split
 ·exact absurd rfl h
 ·rfl
def four{xs:List V}(h:xs.length=4):∃a b c d,xs=[a,b,c,d]:=by
 match xs,h with
 | [a,b,c,d],_=>exact⟨a,b,c,d,rfl⟩
def tU(K:F6):Sp:=λvs H Q _=>∃v m,vs=[v,.int m]/\bw H 2 v/\Q (.bl (bP H m v)) H
abbrev oa:Stmt:=stq 26
def vc:FnScope ["thing","many"] ["thing","many"] (aJ oa):=⟨rfl,rfl,rfl,by decide +kernel,rfl,by decide +kernel,by decide +kernel⟩
def yW{P:Program}{w:World}{K:F6}{mg:Str->Option Value}{base:Heap}(D:Dfn K mg "is_way" oa ["thing","many"])(T:Blt mg)(C_is_sign:Cal P w K mg base "is_sign" 1 ["thing"] (xP K))(C_is_deed:Cal P w K mg base "is_deed" 1 ["thing"] (u7 K))(C_is_room:Cal P w K mg base "is_room" 2 ["thing","many"] (nN K)):Cal P w K mg base "is_way" 3 ["thing","many"] (tU K):=by
 have nd:=(vc).nd;refine D.ok vc (λvs H Q E h=>?_) (λX hX H vs Q E h=>?_)
 ·obtain⟨p,m,rfl,_⟩:=h;rfl
 ·obtain⟨f,cdv,A,outer,s,H0,E0,rfl,hr⟩:=hX;obtain⟨v,m,rfl,ht,q⟩:=h;obtain⟨n,hk⟩:=ht.kind;refine⟨_,(ai (bM (PW.pt (dX (fX (cC (bt hJ rfl T.isinstance_ PyProof.Rows.boot_isinstance (aa (pv 0) (aa (fM (v:=.ty "tuple") rfl T.tuple_ PyProof.Rows.boot_tuple rfl) ae))))) (dZ (aS cE (bt (df K) rfl T.len_ PySem.boot_len (aa (pv 0) ae)) af (aP _))))) (aq (aI bL)) bf)
    (ai (bM (PW.pt (dX (fX (cC (aE C_is_room hr (aa (ah (aA K) (pv 0) af (λ_ _=>rfl)) (aa (pv 1) ae))))) (dZ (fX (cC (aE C_is_room hr (aa (ah (aA K) (pv 0) af (λ_ _=>rfl)) (aa (pv 1) ae)))))))) (aq (aI bL)) bf)
    (aq (aI (dI (aE C_is_deed hr (aa (ah (aA K) (pv 0) af (λ_ _=>rfl)) ae)) (eO (aE C_is_sign hr (aa (ah (aA K) (pv 0) af (λ_ _=>rfl)) ae)))))))),?_⟩
  walk_at"";refine gM hk (mz hk) ?_;walk_at"";cases hv:isTup H v with
  | false=>
   refine ay ?_;walk_at"";rw[rf hv]at q;exact q
  | true=>
   refine aC ?_;obtain⟨p,xs,rfl,hp⟩:=kL hv;obtain⟨hx1,hx2⟩:=ht.items hp;rw[gX hp]at q;walk_at"";refine iY (aj.of hp) ?_;walk_at"";by_cases h4:xs.length=4
   ·obtain⟨a,b,c,d,rfl⟩:=four h4;have ta:=hx2 a (by simp);have tb:=hx2 b (by simp);have tc:=hx2 c (by simp);have td:=hx2 d (by simp);obtain⟨ka,hka⟩:=ta.kind;obtain⟨kb,hkb⟩:=tb.kind;obtain⟨kc,hkc⟩:=tc.kind;obtain⟨kd,hkd⟩:=td.kind;unfold fF at q;dsimp only at q;refine aC ?_;walk_at"";refine aB (aj.of hp) (v:=a) rfl ?_;walk_at"";refine⟨a,m,ka,rfl,hka,?_⟩;walk_at"";cases ra:cJ m a with
    | false=>
     refine ay ?_;walk_at"";rw[ra]at q;exact q
    | true=>
     refine aC ?_;walk_at"";refine aB (aj.of hp) (v:=c) rfl ?_;walk_at"";refine⟨c,m,kc,rfl,hkc,?_⟩;walk_at"";rw[ra,Bool.true_and]at q;cases rc:cJ m c with
     | false=>
      refine ay ?_;walk_at"";rw[rc]at q;exact q
     | true=>
      refine aC ?_;walk_at"";refine aB (aj.of hp) (v:=b) rfl ?_;walk_at"";refine⟨b,kb,rfl,hkb,?_⟩;walk_at"";rw[rc,Bool.true_and]at q;cases rb:gJ b with
      | false=>
       refine aC ?_;rw[rb]at q;exact q
      | true=>
       refine ay ?_;walk_at"";refine aB (aj.of hp) (v:=d) rfl ?_;walk_at"";rw[rb,Bool.true_and]at q;exact⟨d,kd,1,rfl,hkd,td,q⟩
   ·rw[qk h4]at q;rw[Hc (show ¬((xs.length:Nat):Int)=4 by omega)];refine ay ?_;walk_at"";exact q
def bN{n:Nat}(h:n<=1000000):n<=sizeLine:=GI h (by decide)
def aw{xs:List V}{H:Hp}{o:HO}{Q:VK}(h:∀p H',Ext H H'->H' p=some o->H p=none->Q (.ref p) H')(hz:xs.length<=1000000:=by simp):xs.length<=sizeLine/\fg H o Q:=⟨bN hz,cc h⟩
def kR(K:F6):Sp:=λvs H Q _=>∃(a:Addr) (ns:List Int) (k:Int),vs=[.ref a,.int k]/\ag K H a (ns.map V.int)/\ns.length<=63/\0<=k/\∀z,Q (.int z) H
def uc{ns:List Int}{i:Int}(h0:0<=i)(h:i<ns.length):∃z,bC (ns.map V.int) i=some (.int z)/\ns[i.toNat]?=some z:=by
 have hi:i.toNat<ns.length:=by omega
 refine⟨ns[i.toNat],eG h0 ?_,Gb hi⟩;rw[Gd,Gb hi];rfl
abbrev oA:Stmt:=stq 67
def vU:FnScope ["_law_script","_law_k"] ["_law_script","_law_k"] (aJ oA):=⟨rfl,rfl,rfl,by decide +kernel,rfl,by decide +kernel,by decide +kernel⟩
def yL{P:Program}{w:World}{K:F6}{mg:Str->Option Value}{base:Heap}(D:Dfn K mg "_law_cell" oA ["_law_script","_law_k"])(T:Blt mg):Cal P w K mg base "_law_cell" 1 ["_law_script","_law_k"] (kR K):=by
 have nd:=(vU).nd;refine D.ok vU (λvs H Q E h=>?_) (λX hX H vs Q E h=>?_)
 ·obtain⟨a,ns,k,rfl,_⟩:=h;rfl
 ·obtain⟨f,cdv,A,outer,s,H0,E0,rfl,hr⟩:=hX;obtain⟨a,ns,k,rfl,ha,hl,hk,q⟩:=h;refine⟨_,(ai (bM (aS b6 (bt (df K) rfl T.len_ PySem.boot_len (aa (pv 0) ae)) af (aP _)) (aq (aI (av eR af (av aU (pv 1) af)))) bf)
    (ai (bM (aS gL (pv 1) (bt (df K) rfl T.len_ PySem.boot_len (aa (pv 0) ae)) (aP _)) (aq (aI (ah (aH K) (pv 0) (pv 1) (λ_ _=>rfl)))) bf)
    (aq (aI (av aU (ah (aH K) (pv 0) (av cn (pv 1) (bt (df K) rfl T.len_ PySem.boot_len (aa (pv 0) ae))) (λ_ _=>rfl)) (av eR af (pv 1))))))),?_⟩
  walk_at"";refine fo ha ?_;walk_at"";rw[Ga];by_cases h0:(ns.length:Int)=0
  ·rw[Hd h0];refine ay ?_;walk_at"";exact q _
  ·rw[Hc h0];refine aC ?_;walk_at"";refine fo ha ?_;walk_at"";rw[Ga];by_cases h1:k<ns.length
   ·rw[Hd h1];refine ay ?_;obtain⟨z,hz,_⟩:=uc hk h1;walk_at"";refine aG ha hz ?_;exact q _
   ·rw[Hc h1];refine aC ?_;walk_at"";refine fo ha ?_;rw[Ga];have hp:(0:Int)<ns.length:=by omega
    refine rd_I hp ?_;obtain⟨z,hz,_⟩:=uc (ns:=ns) (Int.emod_nonneg k (by omega)) (Int.emod_lt_of_pos k hp);refine aG ha hz ?_;walk_at"";exact q _
def xj(K:F6):Sp:=λvs H Q _=>∃c k p,vs=[.int c,.int k,.int p]/\0<=k/\k<100000/\0<p/\∀z,0<=z->z<p->Q (.int z) H
abbrev lU:Stmt:=stq 68
def yC:FnScope ["_law_cell_here","_law_k","_law_prime","_law_far"] ["_law_cell_here","_law_k","_law_prime"] (aJ lU):=⟨rfl,rfl,rfl,by decide +kernel,rfl,by decide +kernel,by decide +kernel⟩
def Fc{P:Program}{w:World}{K:F6}{mg:Str->Option Value}{base:Heap}(D:Dfn K mg "_law_mixed" lU ["_law_cell_here","_law_k","_law_prime"])(T:Blt mg):Cal P w K mg base "_law_mixed" 1 ["_law_cell_here","_law_k","_law_prime"] (xj K):=by
 have nd:=(yC).nd;refine D.ok yC (λvs H Q E h=>?_) (λX hX H vs Q E h=>?_)
 ·obtain⟨c,k,p,rfl,_⟩:=h;rfl
 ·obtain⟨f,cdv,A,outer,s,H0,E0,rfl,hr⟩:=hX;obtain⟨c,k,p,rfl,hk,hk2,hp,q⟩:=h;refine⟨_,(ai (aD (i:=3) nd rfl (Or.inl rfl) (av cn (av eR (av aU (av aU (av aU (pv 0) (av eR (av eR af (pv 1)) (pv 1))) (av eR af (pv 1))) af) af) af))
    (ai (aD (i:=3) nd rfl (Or.inl rfl) (av cn (av eR (pv 3) (pv 3)) af))
    (aq (aI (av cn (av eR (pv 3) af) (pv 2)))))),?_⟩
  walk_at"";exact q _ (Int.emod_nonneg _ (by omega)) (Int.emod_lt_of_pos _ hp)
def cG{H H2:Hp}{q:Addr}{o:HO}(e:Ext H H2)(hq:H q=none):Ext H (upd H2 q o):=λb u hb=>by rw[az (bW hb hq)];exact e b u hb
def fO(K:F6):Sp:=λvs H Q _=>∃(c:Int) (w:Addr) (ws:List Int) (p:Int),vs=[.int c,.ref w,.int p]/\H w=some (.lst (ws.map V.int))/\(∀x∈ws,0<x/\x<2 ^ 40)/\ws.length<=10000/\0<p ∧
 ∀(q:Addr) (ds:List Int) (H':Hp),Ext H H'->H' q=some (.lst (ds.map V.int))->H q=none->ds.length=ws.length->(∀(i:Nat) d x,ds[i]?=some d->ws[i]?=some x->0<=d/\d<x)->Q (.ref q) H'
def i6{K:F6}{H:Hp}{c:Int}{w:Addr}{p:Int}{Q:VK}{xe:XK}(ws:List Int)(h1:H w=some (.lst (ws.map V.int)))(h2:∀x∈ws,0<x/\x<2 ^ 40)(h3:ws.length<=10000)(h4:0<p)
  (k:∀(q:Addr) (ds:List Int) (H':Hp),Ext H H'->H' q=some (.lst (ds.map V.int))->H q=none->ds.length=ws.length->(∀(i:Nat) d x,ds[i]?=some d->ws[i]?=some x->0<=d/\d<x)->Q (.ref q) H'):fO K [.int c,.ref w,.int p] H Q xe:=⟨c,w,ws,p,rfl,h1,h2,h3,h4,k⟩
abbrev mf:Stmt:=stq 69
def uU:FnScope ["_law_cell_here","_law_widths","_law_prime","_law_left","_law_found","_law_k"] ["_law_cell_here","_law_widths","_law_prime"] (aJ mf):=⟨rfl,rfl,rfl,by decide +kernel,rfl,by decide +kernel,by decide +kernel⟩
def FE{P:Program}{w:World}{K:F6}{mg:Str->Option Value}{base:Heap}(D:Dfn K mg "_law_draws" mf ["_law_cell_here","_law_widths","_law_prime"])(T:Blt mg)(C__law_mixed:Cal P w K mg base "_law_mixed" 1 ["_law_cell_here","_law_k","_law_prime"] (xj K)):Cal P w K mg base "_law_draws" 2 ["_law_cell_here","_law_widths","_law_prime"] (fO K):=by
 have nd:=(uU).nd;refine D.ok uU (λvs H Q E h=>?_) (λX hX H vs Q E h=>?_)
 ·obtain⟨c,w,ws,p,rfl,_⟩:=h;rfl
 ·obtain⟨f,cdv,A,outer,s,H0,E0,rfl,hr⟩:=hX;obtain⟨c,w,ws,p,rfl,hw,hpos,hlen,hp,q⟩:=h;refine⟨_,(ai (aD (i:=3) nd rfl (Or.inl rfl) af)
    (ai (cV (aS uM (pv 0) (av gE af af) (aP _)) (aq (aD (i:=3) nd rfl (Or.inl rfl) (av cX (pv 0) (av gE af af)))) bf)
    (ai (aD (i:=4) nd rfl (Or.inl rfl) (aZ ae))
    (ai (bD PassesOwn.never rfl (cq rfl T.range_ (aa (bt (df K) rfl T.len_ PySem.boot_len (aa (pv 1) ae)) ae)) (aR (i:=5) nd rfl (Or.inl rfl)) (aq (cV (aS iN (pv 3) af (aP _)) (ai (br (bG K Gi Gx Gy bT (pv 4) (aa (av cn (pv 3) (ah (aH K) (pv 1) (pv 5) (λ_ _=>rfl))) ae)))
    (aq (aD (i:=3) nd rfl (Or.inl rfl) (av v8 (pv 3) (ah (aH K) (pv 1) (pv 5) (λ_ _=>rfl)))))) (aq (br (bG K Gi Gx Gy bT (pv 4) (aa (av cn (aE C__law_mixed hr (aa (pv 0) (aa (pv 5) (aa (pv 2) ae)))) (ah (aH K) (pv 1) (pv 5) (λ_ _=>rfl))) ae)))))))
    (aq (aI (pv 4))))))),?_⟩
  walk_at"";refine gG (λσ' H'=>H'=H/\∃l,σ'=[some (.int c),some (.ref w),some (.int p),some (.int l),none,none]) ?_ ?_
  ·walk_at"";refine fD (λh=>?_) (λh=>?_)
   ·walk_at"";exact⟨rfl,_,rfl⟩
   ·walk_at"";exact⟨rfl,_,rfl⟩
  rintro σ' H' ⟨rfl,l,rfl⟩;walk_at"";refine aw λf H1 e1 hf hfn=>?_;walk_at"";refine fo (ag.of (e1 _ _ hw)) ?_;rw[Ga];walk_at"";refine cw (by omega) ?_;refine forR (λi σ H2=>Ext H' H2/\∃(l:Int) (k:Option V) (ds:List Int),σ=[some (.int c),some (.ref w),some (.int p),some (.int l),some (.ref f),k]/\H2 f=some (.lst (ds.map V.int))/\ds.length=i/\∀(i:Nat) d x,ds[i]?=some d->ws[i]?=some x->0<=d/\d<x)
   ⟨e1,l,none,[],rfl,hf,rfl,λi d x hd=>by simp at hd⟩ ?_ ?_
  ·rintro i σ H2 hi ⟨e2,l,k,ds,rfl,hf2,hds,hb⟩;rw[Gp]at hi;have hwi:ws[i]?=some ws[i]:=Gb hi;have hx:=hpos ws[i] (GD hi);have hat:bC (ws.map V.int) (0+(i:Int))=some (.int ws[i]):=by rw[Int.zero_add];exact eE (by rw[Gd,hwi];rfl)
   have next:∀d,0<=d->d<ws[i]->∀(j:Nat) (d' x:Int),(ds++[d])[j]?=some d'->ws[j]?=some x->0<=d'/\d'<x:=λd h0 h1 j d' x hj hx'=>by
    rcases GW j ds.length with h|h
    ·rw[GC h]at hj;exact hb j d' x hj hx'
    ·rw[GA h]at hj;have hj0:j-ds.length=0:=by
      rcases Nat.eq_zero_or_pos (j-ds.length)with h|h
      ·exact h
      ·rw[List.getElem?_eq_none (by simp;omega)]at hj;cases hj
     rw[hj0]at hj;have hji:j=i:=by omega
     subst hji;rw[hwi]at hx';cases hx';have:d=d':=by simpa using hj
     rw[←this];exact⟨h0,h1⟩
   walk_at"";refine fj ?_;walk_at"";refine fD (λh=>?_) (λh=>?_)
   ·have h':1<l:=by simpa using h
    walk_at"";refine⟨bZ (ag.of hf2),?_⟩;walk_at"";refine aG (ag.of (e2 _ _ hw)) hat ?_;refine rd_I (show 0<ws[i] by omega) ?_;walk_at"";refine bR hf2 (by rw[Ga];exact Nat.lt_of_le_of_lt (show ds.length<=10000 by omega) (by decide)) ?_;walk_at"";refine aG (ag.of (cG e2 hfn _ _ hw)) hat ?_;refine rd_I (show 0<ws[i]/\ws[i]<2 ^ 64 by omega) ?_;walk_at"";refine⟨cG e2 hfn,_,_,ds++[l % ws[i]],rfl,?_,by rw[Gu,hds];rfl,next _ (Int.emod_nonneg _ (by omega)) (Int.emod_lt_of_pos _ (by omega))⟩;rw[aO,Gs];rfl
   ·walk_at"";refine⟨bZ (ag.of hf2),?_⟩;walk_at"";refine⟨c,0+(i:Int),p,rfl,by omega,by omega,hp,λz hz0 hz1=>?_⟩;walk_at"";refine aG (ag.of (e2 _ _ hw)) hat ?_;refine rd_I (show 0<ws[i] by omega) ?_;walk_at"";refine bR hf2 (by rw[Ga];exact Nat.lt_of_le_of_lt (show ds.length<=10000 by omega) (by decide)) ?_;walk_at"";refine⟨cG e2 hfn,_,_,ds++[z % ws[i]],rfl,?_,by rw[Gu,hds];rfl,next _ (Int.emod_nonneg _ (by omega)) (Int.emod_lt_of_pos _ (by omega))⟩;rw[aO,Gs];rfl
  ·rintro σ H2 ⟨e2,l,k,ds,rfl,hf2,hds,hb⟩;walk_at"";exact q f ds H2 e2 hf2 hfn (by rw[hds,Gp]) hb
def qJ(K:F6):Sp:=λvs H Q _=>∃c w,vs=[.int c,.int w]/\0<w/\w<2 ^ 64/\∀z,Q (.int z) H
abbrev pF:Stmt:=stq 70
def yh:FnScope ["_law_cell_here","_law_width"] ["_law_cell_here","_law_width"] (aJ pF):=⟨rfl,rfl,rfl,by decide +kernel,rfl,by decide +kernel,by decide +kernel⟩
def CF{P:Program}{w:World}{K:F6}{mg:Str->Option Value}{base:Heap}(D:Dfn K mg "_law_spare" pF ["_law_cell_here","_law_width"])(T:Blt mg):Cal P w K mg base "_law_spare" 1 ["_law_cell_here","_law_width"] (qJ K):=by
 have nd:=(yh).nd;refine D.ok yh (λvs H Q E h=>?_) (λX hX H vs Q E h=>?_)
 ·obtain⟨c,w,rfl,_⟩:=h;rfl
 ·obtain⟨f,cdv,A,outer,s,H0,E0,rfl,hr⟩:=hX;obtain⟨c,w,rfl,h1,h2,q⟩:=h;refine⟨_,(ai (bM (aS uM (pv 0) (av gE af af) (aP _)) (aq (aI (av aU (av v8 (av cX (pv 0) (av gE af af)) (pv 1)) (av gE af af)))) bf)
    (aq (aI (av aU (pv 0) af)))),?_⟩
  walk_at"";refine fD (λh=>?_) (λh=>?_)
  ·walk_at"";exact q _
  ·walk_at"";exact q _
def vG:List V->List Key
 | [.int a,.str b,.int c,.str d]=>[.inl a,.inr b,.inl c,.inr d]
 | _=>[]
def dE(H:Hp):V->List Key
 | .ref p=>match H p with
  | some (.tup xs)=>vG xs
  | _=>[]
 | _=>[]
def xR{H:Hp}{p:Addr}{xs:List V}(h:H p=some (.tup xs)):dE H (.ref p)=vG xs:=by unfold dE;dsimp only;rw[h]
def BL{H:Hp}{m:Int}{v:V}(h:bP H m v=true):∃p a b c d,v=.ref p/\H p=some (.tup [.int a,.str b,.int c,.str d])/\(0<=a/\a<m)/\(0<=c/\c<m)/\gJ (.str b)=true/\gZ (.str d)=true:=by
 cases ht:isTup H v with
 | false=>rw[rf ht]at h;cases h
 | true=>
  obtain⟨p,xs,rfl,hp⟩:=kL ht;rw[gX hp]at h;by_cases h4:xs.length=4
  ·obtain⟨a,b,c,d,rfl⟩:=four h4;unfold fF at h;simp only[GO]at h;obtain⟨h1,h2,h3,h5⟩:=h;cases a with
   | int i=>
    cases c with
    | int j=>
     cases b with
     | str y=>
      cases d with
      | str z=>
       unfold cJ at h1 h2;simp only[GO,decide_eq_true_eq]at h1 h2;exact⟨p,i,y,j,z,rfl,hp,h1,h2,h3,h5⟩
      | _=>cases h5
     | _=>cases h3
    | _=>cases h2
   | _=>cases h1
  ·rw[qk h4]at h;cases h
def vP{H:Hp}{m:Int}:∀{xs:List V},xs.all (bP H m)=true->∃bs:List Addr,xs=bs.map V.ref/\jf H bs (xs.map (dE H))
 | [],_=>⟨[],rfl,rfl,λj b k e=>by simp at e⟩
 | x::xs,h=>by
  rw[List.all_cons,GO]at h;obtain⟨bs,e,h1,h2⟩:=vP h.2;obtain⟨p,a,b,c,d,rfl,hp,_⟩:=BL h.1;refine⟨p::bs,by rw[List.map_cons,←e],by rw[GF,List.map_cons,GF,h1],λj b' k e1 e2=>?_⟩;cases j with
  | zero=>
   cases e1;rw[List.map_cons,xR hp]at e2;cases e2;exact hp
  | succ j=>exact h2 j b' k e1 e2
def kX{H H':Hp}{m:Int}{n:Nat}{v:V}(e:Ext H H')(h:bw H n v):bP H' m v=bP H m v:=by
 cases v with
 | ref p=>
  cases n with
  | zero=>exact h.elim
  | succ n=>
   obtain⟨xs,h1,_⟩:=h;unfold bP;dsimp only;rcases h1 with h1|h1<;>rw[h1,e _ _ h1]
 | _=>rfl
def Bo{H H':Hp}{n:Nat}{v:V}(e:Ext H H')(h:bw H n v):dE H' v=dE H v:=by
 cases v with
 | ref p=>
  cases n with
  | zero=>exact h.elim
  | succ n=>
   obtain⟨xs,h1,_⟩:=h;unfold dE;dsimp only;rcases h1 with h1|h1<;>rw[h1,e _ _ h1]
 | _=>rfl
def gU(H:Hp)(m:Int)(xs:List V):Bool:=decide (xs.length<=100) && (xs.all (bP H m) && decide (xs.map (dE H)).Nodup)
def eU(H:Hp)(m:Int):V->Bool
 | .ref p=>match H p with
  | some (.tup xs)=>gU H m xs
  | _=>false
 | _=>false
def Fx{H:Hp}{m:Int}{v:V}(h:isTup H v=false):eU H m v=false:=by
 cases v with
 | ref p=>
  unfold isTup at h;unfold eU;dsimp only at h ⊢;split
  ·rename_i xs e;rw[e]at h;cases h
  ·rfl
 | _=>rfl
def lK{H:Hp}{m:Int}{p:Addr}{xs:List V}(h:H p=some (.tup xs)):eU H m (.ref p)=gU H m xs:=by unfold eU;dsimp only;rw[h]
open Classical in
def ki{α:Type}:∀{D l:List α},D.Nodup->(∀k∈D,k∈l)->D.length<=l.length
 | [],l,_,_=>Nat.zero_le _
 | d::D,l,hn,hs=>by have hn':=List.nodup_cons.mp hn;have hm:=hs d Gh;have:=ki (D:=D) (l:=l.erase d) hn'.2 λk hk=>(List.mem_erase_of_ne (by rintro rfl;exact hn'.1 hk)).mpr (hs k (Ge _ hk));rw[List.length_erase_of_mem hm]at this;have h0:0<l.length:=List.length_pos_of_mem hm;rw[GF];omega
def nodup_iff{α:Type}{D l:List α}(hn:D.Nodup)(hm:∀k,k∈D↔k∈l):D.length=l.length↔l.Nodup:=by
 constructor
 ·intro e;exact(qH hn (λk hk=>(hm k).mp hk) e.symm).nodup_iff.mpr hn
 ·intro hl;have h1:=ki hn λk hk=>(hm k).mp hk;have h2:=ki hl λk hk=>(hm k).mpr hk;omega
def uI(K:F6):Sp:=λvs H Q _=>∃v m,vs=[v,.int m]/\bw H 3 v/\∀H',Ext H H'->Q (.bl (eU H m v)) H'
abbrev mx:Stmt:=stq 27
def rg:FnScope ["thing","many"] ["thing","many"] (aJ mx):=⟨rfl,rfl,rfl,by decide +kernel,rfl,by decide +kernel,by decide +kernel⟩
def Ao{P:Program}{w:World}{K:F6}{mg:Str->Option Value}{base:Heap}(D:Dfn K mg "are_ways" mx ["thing","many"])(T:Blt mg)(g_GREATEST_WAYS:∃t,mg "GREATEST_WAYS" = some (.int 100 t))(C_is_way:Cal P w K mg base "is_way" 3 ["thing","many"] (tU K)):Cal P w K mg base "are_ways" 4 ["thing","many"] (uI K):=by
 have nd:=(rg).nd;refine D.ok rg (λvs H Q E h=>?_) (λX hX H vs Q E h=>?_)
 ·obtain⟨p,m,rfl,_⟩:=h;rfl
 ·obtain⟨f,cdv,A,outer,s,H0,E0,rfl,hr⟩:=hX;obtain⟨t_GREATEST_WAYS,c_GREATEST_WAYS⟩:=g_GREATEST_WAYS;obtain⟨v,m,rfl,ht,q⟩:=h;obtain⟨n,hk⟩:=ht.kind;refine⟨_,(ai (bM (PW.pt (dX (fX (cC (bt hJ rfl T.isinstance_ PyProof.Rows.boot_isinstance (aa (pv 0) (aa (fM (v:=.ty "tuple") rfl T.tuple_ PyProof.Rows.boot_tuple rfl) ae))))) (dZ (aS iN (bt (df K) rfl T.len_ PySem.boot_len (aa (pv 0) ae)) (cY (v:=.int 100) rfl c_GREATEST_WAYS ⟨_,rfl⟩) (aP _))))) (aq (aI bL)) bf)
    (aq (aI (dI (bt (B4 K rfl) rfl T.all_ PyProof.Rows.boot_all (aa (eC ["way"] [1] (jX K (pv 0)) (λ_=>(aR (i:=0) (show(["way","many"]:List Str).Nodup from by decide +kernel) rfl (Or.inl rfl) (Or.inr rfl))) (λ_=>fJ) (λ_=>(aE C_is_way hr (aa (pv 0) (aa (pv 1) ae))))) ae)) (eO (fb b6 (bt Cj rfl T.len_ PySem.boot_len (aa (gH (BI hr) rfl T.set_ PyProof.Rows.boot_set (aa (pv 0) ae)) ae)) (bt (df K) rfl T.len_ PySem.boot_len (aa (pv 0) ae)) (aP _))))))),?_⟩
  walk_at"";refine gM hk (mz hk) ?_;walk_at"";cases hv:isTup H v with
  | false=>
   refine ay ?_;walk_at"";rw[Fx hv]at q;exact q H λ_ _ z=>z
  | true=>
   refine aC ?_;obtain⟨p,xs,rfl,hp⟩:=kL hv;obtain⟨hx1,hx2⟩:=ht.items hp;rw[lK hp]at q;unfold gU at q;walk_at"";refine iY (aj.of hp) ?_;walk_at"";by_cases h4:xs.length<=100
   ·rw[Hc (show ¬((100:Int)<((xs.length:Nat):Int)) by omega)];rw[Hd h4,Bool.true_and]at q;refine aC ?_;walk_at"";refine kM (aj.of hp) ?_;refine mY (xs:=xs) (λi ys H'=>Ext H H'/\ys=((xs.take i).map (bP H m)).map V.bl) (f6 hx1) ⟨λ_ _ z=>z,rfl⟩ (λi ys H' hi h=>⟨aj.of (h.1 _ _ hp),by rw[h.2,Ga,Ga,GZ];omega⟩) ?_ ?_
    ·rintro i x ys H' hx ⟨e,rfl⟩;have hxt:=hx2 x (Gk hx);walk_at"";refine ay ?_;walk_at"";refine⟨x,m,rfl,hxt.ext e,e,?_⟩;rw[kX e hxt,List.take_add_one,hx];simp
    ·rintro ys H' pl ⟨e,rfl⟩ hpl;rw[GG];walk_at"";have eN:Ext H (upd H' pl (.lst ((xs.map (bP H m)).map V.bl))):=e.trans (bO hpl);refine⟨pl,xs.map (bP H m),rfl,ag.of aO,?_⟩;have ea:(xs.map (bP H m)).all id=xs.all (bP H m):=by rw[List.all_map];rfl
     rw[ea];walk_at"";cases hall:xs.all (bP H m)with
     | false=>
      refine aC ?_;rw[hall,Bool.false_and]at q;exact q _ eN
     | true=>
      refine ay ?_;rw[hall,Bool.true_and]at q;obtain⟨bs,ebs,hka⟩:=vP hall;generalize upd H' pl (.lst ((xs.map (bP H m)).map V.bl))=H2 at eN ⊢;walk_at"";refine⟨p,bs,xs.map (dE H),rfl,.inl (by rw[←ebs];exact eN _ _ hp),hka.ext eN,by rw[Ga];omega,λl L hl hnd hmem hL=>?_⟩;have hll:L.length<=xs.length:=by
       have:=ki hnd λk hk=>(hmem k).mp hk
       rwa [Ga,Ga]at this
      walk_at"";refine⟨l,L,rfl,aO,by omega,?_⟩;walk_at"";have eL:Ext H (upd H2 l (kF P w l L)):=eN.trans (bO hl);refine iY (aj.of (eL _ _ hp)) ?_;walk_at"";have hiff:=nodup_iff hnd hmem;rw[Ga,Ga]at hiff;have eb:decide ((((L.length:Nat):Int))=((xs.length:Nat):Int))=decide ((xs.map (dE H)).Nodup):=by
       by_cases hq:(xs.map (dE H)).Nodup
       ·rw[Hd (show((L.length:Nat):Int)=((xs.length:Nat):Int) by have:=hiff.mpr hq;omega)];exact(Hd hq).symm
       ·rw[Hc (show ¬((L.length:Nat):Int)=((xs.length:Nat):Int)from λz=>hq (hiff.mp (by omega)))];exact(Hc hq).symm
      rw[eb];exact q _ eL
   ·rw[Hd (show((100:Int)<((xs.length:Nat):Int)) by omega)];rw[Hc h4,Bool.false_and]at q;refine ay ?_;walk_at"";exact q H λ_ _ z=>z
def dS(H:Hp):List V->Bool
 | [.int m,q]=>decide (1<=m) && (decide (m<=12) && eU H m q)
 | _=>false
def cZ(H:Hp):V->Bool
 | .ref p=>match H p with
  | some (.tup xs)=>dS H xs
  | _=>false
 | _=>false
def DO{H:Hp}{v:V}(h:isTup H v=false):cZ H v=false:=by
 cases v with
 | ref p=>
  unfold isTup at h;unfold cZ;dsimp only at h ⊢;split
  ·rename_i xs e;rw[e]at h;cases h
  ·rfl
 | _=>rfl
def iT{H:Hp}{p:Addr}{xs:List V}(h:H p=some (.tup xs)):cZ H (.ref p)=dS H xs:=by unfold cZ;dsimp only;rw[h]
def uP{H:Hp}{xs:List V}(h:xs.length≠2):dS H xs=false:=by
 unfold dS;split
 ·exact absurd rfl h
 ·rfl
def Co{H:Hp}{a b:V}(h:isInt a=false):dS H [a,b]=false:=by cases a<;>first|rfl|cases h
def Bh{xs:List V}(h:xs.length=2):∃a b,xs=[a,b]:=by
 match xs,h with
 | [a,b],_=>exact⟨a,b,rfl⟩
def rj(K:F6):Sp:=λvs H Q _=>∃v,vs=[v]/\bw H 4 v/\∀H',Ext H H'->Q (.bl (cZ H v)) H'
abbrev m9:Stmt:=stq 28
def yj:FnScope ["thing"] ["thing"] (aJ m9):=⟨rfl,rfl,rfl,by decide +kernel,rfl,by decide +kernel,by decide +kernel⟩
def Ew{P:Program}{w:World}{K:F6}{mg:Str->Option Value}{base:Heap}(D:Dfn K mg "is_house" m9 ["thing"])(T:Blt mg)(g_GREATEST_MANY:∃t,mg "GREATEST_MANY" = some (.int 12 t))(C_are_ways:Cal P w K mg base "are_ways" 4 ["thing","many"] (uI K))(C_is_whole:Cal P w K mg base "is_whole" 1 ["thing"] (o8 K)):Cal P w K mg base "is_house" 5 ["thing"] (rj K):=by
 have nd:=(yj).nd;refine D.ok yj (λvs H Q E h=>?_) (λX hX H vs Q E h=>?_)
 ·obtain⟨p,rfl,_⟩:=h;rfl
 ·obtain⟨f,cdv,A,outer,s,H0,E0,rfl,hr⟩:=hX;obtain⟨t_GREATEST_MANY,c_GREATEST_MANY⟩:=g_GREATEST_MANY;obtain⟨v,rfl,ht,q⟩:=h;obtain⟨n,hk⟩:=ht.kind;refine⟨_,(ai (bM (PW.pt (dX (fX (cC (bt hJ rfl T.isinstance_ PyProof.Rows.boot_isinstance (aa (pv 0) (aa (fM (v:=.ty "tuple") rfl T.tuple_ PyProof.Rows.boot_tuple rfl) ae))))) (dZ (aS cE (bt (df K) rfl T.len_ PySem.boot_len (aa (pv 0) ae)) af (aP _))))) (aq (aI bL)) bf)
    (aq (aI (dI (aE C_is_whole hr (aa (ah (aA K) (pv 0) af (λ_ _=>rfl)) ae)) (dI (oq jS jS af (ah (aA K) (pv 0) af (λ_ _=>rfl)) (cY (v:=.int 12) rfl c_GREATEST_MANY ⟨_,rfl⟩)) (eO (aE C_are_ways hr (aa (ah (aA K) (pv 0) af (λ_ _=>rfl)) (aa (ah (aA K) (pv 0) af (λ_ _=>rfl)) ae))))))))),?_⟩
  walk_at"";refine gM hk (mz hk) ?_;walk_at"";cases hv:isTup H v with
  | false=>
   refine ay ?_;walk_at"";rw[DO hv]at q;exact q H λ_ _ z=>z
  | true=>
   refine aC ?_;obtain⟨p,xs,rfl,hp⟩:=kL hv;obtain⟨hx1,hx2⟩:=ht.items hp;rw[iT hp]at q;walk_at"";refine iY (aj.of hp) ?_;walk_at"";by_cases h4:xs.length=2
   ·obtain⟨a,b,rfl⟩:=Bh h4;have ta:=hx2 a (by simp);have tb:=hx2 b (by simp);obtain⟨ka,hka⟩:=ta.kind;refine aC ?_;walk_at"";refine aB (aj.of hp) (v:=a) rfl ?_;walk_at"";refine⟨a,ka,rfl,hka,?_⟩;refine rd_exb ?_;cases ha:isInt a with
    | false=>
     refine aC ?_;rw[Co ha]at q;exact q H λ_ _ z=>z
    | true=>
     obtain⟨m,rfl⟩:=xU ha;refine ay ?_;unfold dS at q;dsimp only at q;walk_at"";refine aB (aj.of hp) (v:=.int m) rfl ?_;walk_at"";cases h1:decide (1<=m)with
     | false=>
      refine aC ?_;walk_at"";refine aC ?_;rw[h1]at q;exact q H λ_ _ z=>z
     | true=>
      refine ay ?_;walk_at"";rw[h1,Bool.true_and]at q;cases h2:decide (m<=12)with
      | false=>
       refine aC ?_;rw[h2]at q;exact q H λ_ _ z=>z
      | true=>
       refine ay ?_;walk_at"";refine aB (aj.of hp) (v:=b) rfl ?_;walk_at"";refine aB (aj.of hp) (v:=.int m) rfl ?_;walk_at"";rw[h2,Bool.true_and]at q;exact⟨b,m,rfl,tb,q⟩
   ·rw[uP h4]at q;rw[Hc (show ¬((xs.length:Nat):Int)=2 by omega)];refine ay ?_;walk_at"";exact q H λ_ _ z=>z
def ck(H:Hp)(p:Addr)(kk:List (List Key)):Prop:=∃bs:List Addr,H p=some (.tup (bs.map V.ref))/\bs.length=kk.length/\∀(j:Nat) (b:Addr) (k:List Key),bs[j]?=some b->kk[j]?=some k->H b=some (.tup (k.map kV))
def ck.ext{H H':Hp}{p:Addr}{kk:List (List Key)}(e:Ext H H')(h:ck H p kk):ck H' p kk:=by obtain⟨bs,h1,h2,h3⟩:=h;exact⟨bs,e _ _ h1,h2,λj b k e1 e2=>e _ _ (h3 j b k e1 e2)⟩
structure Way where
 room:Int
 deed:Str
 other:Int
 sign:Str
 deriving DecidableEq
abbrev Way.key(w:Way):List Key:=[.inl w.room,.inr w.deed,.inl w.other,.inr w.sign]
abbrev Way.vs(w:Way):List V:=[.int w.room,.str w.deed,.int w.other,.str w.sign]
def Way.key_inj{w u:Way}(h:w.key=u.key):w=u:=by cases w;cases u;simp only[Way.key,List.cons.injEq,Sum.inl.injEq,Sum.inr.injEq]at h;obtain⟨rfl,rfl,rfl,rfl,_⟩:=h;rfl
def tN(z:Str):Prop:=∃c:Nat,97<=c/\c<=122/\z=⟨#[c]⟩
def bK(z:Str):Prop:=z = "up"\/z = "down"\/z = "stay"\/z = "zero"
structure Way.Ok(m:Int)(w:Way):Prop where
 r0:0<=w.room
 r1:w.room<m
 o0:0<=w.other
 o1:w.other<m
 dd:bK w.deed
 sg:tN w.sign
structure HOuse(m:Int)(ws:List Way):Prop where
 m1:1<=m
 m12:m<=12
 few:ws.length<=100
 ok:∀w∈ws,w.Ok m
 nd:ws.Nodup
def aY(H:Hp)(v:V)(m:Int)(ws:List Way):Prop:=∃p q,v=.ref p/\H p=some (.tup [.int m,.ref q])/\ck H q (ws.map Way.key)
def aY.ext{H H':Hp}{v:V}{m:Int}{ws:List Way}(e:Ext H H')(h:aY H v m ws):aY H' v m ws:=by obtain⟨p,q,rfl,h1,h2⟩:=h;exact⟨p,q,rfl,e _ _ h1,h2.ext e⟩
def ck.item{H:Hp}{ws:List Way}{bs:List Addr}(h:∀(j:Nat) (b:Addr) (k:List Key),bs[j]?=some b->(ws.map Way.key)[j]?=some k->H b=some (.tup (k.map kV))){j:Nat}{b:Addr}{w:Way}(e1:bs[j]?=some b)(e2:ws[j]?=some w):H b=some (.tup w.vs):=
 h j b w.key e1 (by rw[Gd,e2];rfl)
def aM(H:Hp)(bs:List Addr)(ws:List Way):Prop:=bs.length=ws.length/\∀(j:Nat) (b:Addr) (w:Way),bs[j]?=some b->ws[j]?=some w->H b=some (.tup w.vs)
def aM.ext{H H':Hp}{bs:List Addr}{ws:List Way}(e:Ext H H')(h:aM H bs ws):aM H' bs ws:=⟨h.1,λj b w e1 e2=>e _ _ (h.2 j b w e1 e2)⟩
def aM.put{H:Hp}{f:Addr}{xs ys:List V}{bs:List Addr}{ws:List Way}(hf:H f=some (.lst xs))(h:aM H bs ws):aM (upd H f (.lst ys)) bs ws:=⟨h.1,λj b w e1 e2=>by have:=h.2 j b w e1 e2;rw[az (cK this hf (by intro z;cases z))];exact this⟩
def aM.nil(H:Hp):aM H [] []:=⟨rfl,λj b w e=>by simp at e⟩
def aM.snoc{H:Hp}{bs:List Addr}{ws:List Way}{b:Addr}{w:Way}(h:aM H bs ws)(hb:H b=some (.tup w.vs)):aM H (bs++[b]) (ws++[w]):=by
 refine⟨by simp[h.1],λj b' w' e1 e2=>?_⟩;rcases GW j bs.length with hj|hj
 ·rw[GC hj]at e1;rw[GC (by rw[←h.1];exact hj)]at e2;exact h.2 j b' w' e1 e2
 ·rw[GA hj]at e1;rw[GA (by rw[←h.1];exact hj),←h.1]at e2;cases hk:j-bs.length with
  | zero=>
   rw[hk]at e1 e2;cases e1;cases e2;exact hb
  | succ k=>rw[hk]at e1;simp at e1
def aM.ways{H:Hp}{p:Addr}{bs:List Addr}{ws:List Way}(h:aM H bs ws)(hp:H p=some (.tup (bs.map V.ref))):ck H p (ws.map Way.key):=
 ⟨bs,hp,by rw[Ga];exact h.1,λj b k e1 e2=>by rw[Gd]at e2;obtain⟨w,hw,rfl⟩:=Gn.mp e2;exact h.2 j b w e1 hw⟩
def ck.al{H:Hp}{p:Addr}{ws:List Way}(h:ck H p (ws.map Way.key)):∃bs:List Addr,H p=some (.tup (bs.map V.ref))/\aM H bs ws:=by obtain⟨bs,h1,h2,h3⟩:=h;rw[Ga]at h2;exact⟨bs,h1,h2,λj b w e1 e2=>ck.item h3 e1 e2⟩
abbrev Way.D(w:Way):PyData:=.tuple [.int w.room,.str w.deed,.int w.other,.str w.sign]
structure Way.Lay(w:Way):Prop where
 d:(PyData.str w.deed).canLay0=true
 s:(PyData.str w.sign).canLay0=true
def zk:∀c:Fin 123,97<=c.1->(PyData.str ⟨#[c.1]⟩).canLay0=true:=by decide +kernel
def Way.Ok.lay{m:Int}{w:Way}(h:w.Ok m):w.Lay:=by
 constructor
 ·rcases h.dd with e|e|e|e<;>rw[e]<;>decide +kernel
 ·obtain⟨c,h1,h2,e⟩:=h.sg;rw[e];exact zk ⟨c,Nat.lt_succ_of_le h2⟩ h1
def Way.rep{H:Hp}{b:Addr}{w:Way}(h:H b=some (.tup w.vs))(l:w.Lay):aV H 1 (.ref b) w.D:=
 .inr ⟨b,w.vs,_,rfl,.inl ⟨h,rfl⟩,.cons rfl (.cons ⟨rfl,l.d⟩ (.cons rfl (.cons ⟨rfl,l.s⟩ .nil)))⟩
def Way.eqv(w u:Way):PyData.eqv w.D u.D=decide (w=u):=by
 simp only[PyData.eqv,PyData.eqvAll];by_cases h:w=u
 ·subst h;simp
 ·rw[Hc h];obtain⟨a,b,c,d⟩:=w;obtain⟨a',b',c',d'⟩:=u;simp only[Way.mk.injEq,not_and]at h;simp only[Bool.and_true,Bool.and_eq_false_iff,beq_eq_false_iff_ne];by_cases h1:a=a'
  ·by_cases h2:b=b'
   ·by_cases h3:c=c'
    ·exact .inr (.inr (.inr (h h1 h2 h3)))
    ·exact .inr (.inr (.inl h3))
   ·exact .inr (.inl h2)
  ·exact .inl h1
def aM.reps{H:Hp}:∀{bs:List Addr} {ws:List Way},aM H bs ws->(∀w∈ws,w.Lay)->Paired (aV H 1) (bs.map V.ref) (ws.map Way.D)
 | [],[],_,_=>.nil
 | [],_::_,h,_=>by cases h.1
 | _::_,[],h,_=>by cases h.1
 | b::bs,w::ws,h,l=>.cons (Way.rep (h.2 0 b w rfl rfl) (l w Gh)) (aM.reps ⟨Nat.succ.inj h.1,λj b w e1 e2=>h.2 (j+1) b w e1 e2⟩ λu hu=>l u (Ge _ hu))
def zj(ws:List Way)(w:Way):((ws.map Way.D).any λe=>PyData.eqv e w.D)=decide (w∈ws):=by
 rw[List.any_map];induction ws with
 | nil=>rfl
 | cons u ws ih=>
  rw[List.any_cons,ih,Function.comp_apply,Way.eqv];by_cases h:w∈ws
  ·simp[h]
  ·by_cases e:u=w
   ·simp[e]
   ·have:¬w=u:=λz=>e z.symm;simp[h,e,this]
def pz(K:F6):Sp:=λvs H Q _=>∃l bs ws,vs=[.ref l]/\H l=some (.lst (bs.map V.ref))/\aM H bs ws/\(∀w∈ws,Way.Lay w)/\ws.length<=200 ∧
 ∀q H' us,Ext H H'->ck H' q (List.map Way.key us)->us.Nodup->(∀u∈us,u∈ws)->us.length<=ws.length->Q (.ref q) H'
abbrev qb:Stmt:=stq 71
def xK:FnScope ["_law_ways","_law_found","_law_way"] ["_law_ways"] (aJ qb):=⟨rfl,rfl,rfl,by decide +kernel,rfl,by decide +kernel,by decide +kernel⟩
def Dk{P:Program}{w:World}{K:F6}{mg:Str->Option Value}{base:Heap}(D:Dfn K mg "_law_unlike" qb ["_law_ways"])(T:Blt mg):Cal P w K mg base "_law_unlike" 1 ["_law_ways"] (pz K):=by
 have nd:=(xK).nd;refine D.ok xK (λvs H Q E h=>?_) (λX hX H vs Q E h=>?_)
 ·obtain⟨l,bs,ws,rfl,_⟩:=h;rfl
 ·obtain⟨f,cdv,A,outer,s,H0,E0,rfl,hr⟩:=hX;obtain⟨l,bs,ws,rfl,hl,al,lay,hlen,q⟩:=h;refine⟨_,(ai (aD (i:=1) nd rfl (Or.inl rfl) (aZ ae))
    (ai (bD PassesOwn.never rfl (cj K (pv 0)) (aR (i:=2) nd rfl (Or.inl rfl)) (aq (cV (aS (xI hr) (pv 2) (pv 1) (by with_unfolding_all rfl)) (aq (br (bG K Gi Gx Gy bT (pv 1) (aa (pv 2) ae)))) bf)))
    (aq (aI (gH (jH K) rfl T.tuple_ PyProof.Rows.boot_tuple (aa (pv 1) ae)))))),?_⟩
  walk_at"";refine aw λf H1 e1 hf hfn=>?_;walk_at"";refine cb (ag.of (e1 _ _ hl)) ?_;refine forL (xs:=bs.map V.ref) (λi σ H2=>Ext H H2/\∃(k:Option V) (cs:List Addr) (us:List Way),σ=[some (.ref l),some (.ref f),k]/\H2 f=some (.lst (cs.map V.ref))/\aM H2 cs us/\us.Nodup/\(∀u∈us,u∈ws)/\us.length<=i)
   ⟨e1,none,[],[],rfl,hf,aM.nil _,List.nodup_nil,λu hu=>by simp at hu,Gw _⟩ (λi σ H2 _ h=>ag.of (h.1 _ _ hl)) ?_ ?_
  ·rintro i x σ H2 hx ⟨e2,k,cs,us,rfl,hf2,al2,nd2,sub2,len2⟩;rw[Gd]at hx;obtain⟨b,hb,rfl⟩:=Gn.mp hx;have hi:i<ws.length:=by rw[←al.1];exact(Gj.mp hb).1
   have hwi:ws[i]?=some ws[i]:=Gb hi;have hbw:=e2 _ _ (al.2 i b _ hb hwi);walk_at"";refine fj ?_;walk_at"";refine sV (Way.rep hbw (lay _ (GD hi))) hf2 (al2.reps λu hu=>lay u (sub2 u hu)) (by decide) ?_;simp only[if_true,zj];refine rd_exb ?_;by_cases hm:ws[i]∈us
   ·rw[Hd hm];refine aC ?_;walk_at"";exact⟨e2,_,cs,us,rfl,hf2,al2,nd2,sub2,by omega⟩
   ·rw[Hc hm];refine ay ?_;walk_at"";refine⟨bZ (ag.of hf2),?_⟩;walk_at"";refine bR hf2 (by rw[Ga,al2.1];exact Nat.lt_of_le_of_lt (show us.length<=1000 by omega) (by decide)) ?_;walk_at"";refine⟨cG e2 hfn,_,cs++[b],us++[ws[i]],rfl,by rw[aO,Gs];rfl,(al2.put hf2).snoc ?_,?_,?_,by simp;omega⟩
    ·rw[az (cK hbw hf2 (by intro z;cases z))];exact hbw
    ·rw[List.nodup_append];exact⟨nd2,by simp,λa ha c hc=>by rw[Gm.mp hc];exact λz=>hm (z ▸ ha)⟩
    ·intro u hu;rcases Gz.mp hu with hu|hu
     ·exact sub2 u hu
     ·rw[Gm.mp hu];exact GD hi
  ·rintro σ H2 ⟨e2,k,cs,us,rfl,hf2,al2,nd2,sub2,len2⟩;walk_at"";refine jG (ag.of hf2) (cc λp H3 e3 hp _=>?_);exact q p H3 us (e2.trans e3) ((al2.ext e3).ways hp) nd2 sub2 (by rw[Ga,al.1]at len2;exact len2)
def kI(z:Str):Prop:=∃c:Nat,97<=c/\c<=99/\z=⟨#[c]⟩
structure Way.Ok3(m:Int)(w:Way):Prop where
 r0:0<=w.room
 r1:w.room<m
 o0:0<=w.other
 o1:w.other<m
 dd:bK w.deed
 sg:kI w.sign
structure HOuse3(m:Int)(ws:List Way):Prop where
 m1:1<=m
 m12:m<=12
 few:ws.length<=100
 ok:∀w∈ws,w.Ok3 m
 nd:ws.Nodup
def Way.Ok3.ok{m:Int}{w:Way}(h:w.Ok3 m):w.Ok m:=by obtain⟨c,h1,h2,h3⟩:=h.sg;exact⟨h.r0,h.r1,h.o0,h.o1,h.dd,c,h1,by omega,h3⟩
def Way.Ok3.lay{m:Int}{w:Way}(h:w.Ok3 m):w.Lay:=h.ok.lay
def HOuse3.house{m:Int}{ws:List Way}(h:HOuse3 m ws):HOuse m ws:=⟨h.m1,h.m12,h.few,λw hw=>(h.ok w hw).ok,h.nd⟩
def Ei{ds:List Int}{i:Nat}(h:i+4<=ds.length):∃a b c d,b5 (ds.map V.int) (some (i:Int)) (some ((i+4:Nat):Int))=[.int a,.int b,.int c,.int d]/\ds[i]?=some a/\ds[i+1]?=some b/\ds[i+2]?=some c/\ds[i+3]?=some d:=by refine⟨ds[i],ds[i+1],ds[i+2],ds[i+3],?_,Gb _,Gb _,Gb _,Gb _⟩;unfold b5;rw[HT.xA,HT.xA,Ga,Nat.min_eq_left (by omega),Nat.min_eq_left (by omega),show i+4-i=4 by omega,←List.map_drop,←List.map_take];rw[List.drop_eq_getElem_cons (show i<ds.length by omega),List.drop_eq_getElem_cons (show i+1<ds.length by omega),List.drop_eq_getElem_cons (show i+1+1<ds.length by omega),List.drop_eq_getElem_cons (show i+1+1+1<ds.length by omega)];rfl
def fh:List Int:=[8,12,13,31]++(GU 30 ([12,6,12,3]:List Int)).flatten
def EA{k:Nat}(h:k<30):fh[4+4*k]?=some 12/\fh[4+4*k+1]?=some 6/\fh[4+4*k+2]?=some 12/\fh[4+4*k+3]?=some 3:=by
 have:∀k:Fin 30,fh[4+4*k.val]?=some 12/\fh[4+4*k.val+1]?=some 6/\fh[4+4*k.val+2]?=some 12/\fh[4+4*k.val+3]?=some 3:=by decide +kernel
 exact this ⟨k,h⟩
def xQ(K:F6):Sp:=λvs H Q _=>∃c p,vs=[.int c,.int p]/\0<p/\∀v m ws H',Ext H H'->aY H' v m ws->HOuse3 m ws->Q v H'
def Fs{e:Int}(h0:0<=e)(h1:e<6):∃z,bC ([.str "up",.str "down",.str "stay",.str "zero",.str "up",.str "down"]:List V) e=some (.str z)/\bK z:=by
 have:e=0\/e=1\/e=2\/e=3\/e=4\/e=5:=by omega
 rcases this with rfl|rfl|rfl|rfl|rfl|rfl
 ·exact⟨_,rfl,.inl rfl⟩
 ·exact⟨_,rfl,.inr (.inl rfl)⟩
 ·exact⟨_,rfl,.inr (.inr (.inl rfl))⟩
 ·exact⟨_,rfl,.inr (.inr (.inr rfl))⟩
 ·exact⟨_,rfl,.inl rfl⟩
 ·exact⟨_,rfl,.inr (.inl rfl)⟩
def BH:(GP "abc").cps.toList=[97,98,99]:=by decide +kernel
def Eg{e:Int}(h0:0<=e)(h1:e<3):∃c,bC (GP "abc").cps.toList e=some c/\97<=c/\c<=99:=by
 rw[BH];have:e=0\/e=1\/e=2:=by omega
 rcases this with rfl|rfl|rfl
 ·exact⟨97,rfl,by decide,by decide⟩
 ·exact⟨98,rfl,by decide,by decide⟩
 ·exact⟨99,rfl,by decide,by decide⟩
def CH{e:Int}(h0:0<=e)(h1:e<8):∃w:Int,bC (([4,4,4,5,3,2,5,12]:List Int).map V.int) e=some (.int w)/\1<=w/\w<=12:=by
 obtain⟨n,rfl⟩:=Int.eq_ofNat_of_zero_le h0;have hn:n<8:=Int.ofNat_lt.mp h1;have key:∀i:Fin 8,1<=([4,4,4,5,3,2,5,12]:List Int)[i]/\([4,4,4,5,3,2,5,12]:List Int)[i]<=12:=by decide
 exact⟨([4,4,4,5,3,2,5,12]:List Int)[n],eE (by rw[Gd,Gb hn];rfl),key ⟨n,hn⟩⟩
def aY.mk{H:Hp}{p q:Addr}{m:Int}{ws:List Way}(h1:H p=some (.tup [.int m,.ref q]))(h2:ck H q (ws.map Way.key)):aY H (.ref p) m ws:=⟨p,q,rfl,h1,h2⟩
abbrev mV:Stmt:=stq 72
def tT:FnScope ["_law_cell_here","_law_prime","_law_draws_here","_law_many","_law_often","_law_ways","_law_k","_law_room","_law_deed","_law_other","_law_sign","_law_word"] ["_law_cell_here","_law_prime"] (aJ mV):=⟨rfl,rfl,rfl,by decide +kernel,rfl,by decide +kernel,by decide +kernel⟩
def yU{P:Program}{w:World}{K:F6}{mg:Str->Option Value}{base:Heap}(D:Dfn K mg "_law_drawn_house" mV ["_law_cell_here","_law_prime"])(T:Blt mg)(C__law_unlike:Cal P w K mg base "_law_unlike" 1 ["_law_ways"] (pz K))(C__law_draws:Cal P w K mg base "_law_draws" 2 ["_law_cell_here","_law_widths","_law_prime"] (fO K)):Cal P w K mg base "_law_drawn_house" 3 ["_law_cell_here","_law_prime"] (xQ K):=by
 have nd:=(tT).nd;refine D.ok tT (λvs H Q E h=>?_) (λX hX H vs Q E h=>?_)
 ·obtain⟨c,p,rfl,_⟩:=h;rfl
 ·obtain⟨f,cdv,A,outer,s,H0,E0,rfl,hr⟩:=hX;obtain⟨c,p,rfl,hp,q⟩:=h;refine⟨_,(@ai _ _ _ _ _ (@aD _ _ 2 _ _ _ _ nd rfl (Or.inl rfl) (aE C__law_draws hr (@aa _ _ _ _ _ (pv 0) (@aa _ _ _ _ _ (av oM (@aZ _ _ _ _ (iC (.c (.c (.c (.c .n)))))) (av pQ (@aZ _ _ _ _ (iC (.c (.c (.c (.c .n)))))) af)) (@aa _ _ _ _ _ (pv 1) ae rfl) rfl) rfl)) rfl (Or.inl rfl))
    (@ai _ _ _ _ _ (@aD _ _ 3 _ _ _ _ nd rfl (Or.inl rfl) (av aU af (av cn (@ah _ _ _ _ _ _ _ (aH K) (pv 2) af (λ_ _=>rfl)) (@ah _ _ _ _ _ _ _ (aH K) (@aZ _ _ _ _ (iC (.c (.c (.c (.c (.c (.c (.c (.c .n)))))))))) (@ah _ _ _ _ _ _ _ (aH K) (pv 2) af (λ_ _=>rfl)) (λ_ _=>rfl)))) rfl (Or.inl rfl))
    (@ai _ _ _ _ _ (@aD _ _ 4 _ _ _ _ nd rfl (Or.inl rfl) (@ah _ _ _ _ _ _ _ (aH K) (pv 2) af (λ_ _=>rfl)) rfl (Or.inl rfl))
    (@ai _ _ _ _ _ (cV (aS b6 (@ah _ _ _ _ _ _ _ (aH K) (pv 2) af (λ_ _=>rfl)) af (aP _)) (@aq _ _ _ (@aD _ _ 4 _ _ _ _ nd rfl (Or.inl rfl) (@ah _ _ _ _ _ _ _ (aH K) (pv 2) af (λ_ _=>rfl)) rfl (Or.inl rfl))) bf)
    (@ai _ _ _ _ _ (@aD _ _ 5 _ _ _ _ nd rfl (Or.inl rfl) (@aZ _ _ _ _ ae) rfl (Or.inl rfl))
    (@ai _ _ _ _ _ (bD PassesOwn.never rfl (cq rfl T.range_ (@aa _ _ _ _ _ (pv 4) ae rfl)) (aR (i:=6) nd rfl (Or.inl rfl)) (@ai _ _ _ _ _ (@fZ _ _ _ _ _ _ (gD (jO K) (pv 2) (fA (av aU af (av eR af (pv 6)))) (fA (av aU af (av eR af (pv 6))))) (mQ (n:=4) K rfl (cQ (aR (i:=7) nd rfl (Or.inl rfl)) (cQ (aR (i:=8) nd rfl (Or.inl rfl)) (cQ (aR (i:=9) nd rfl (Or.inl rfl)) (cQ (aR (i:=10) nd rfl (Or.inl rfl)) hG))))) rfl rfl rfl)
    (@ai _ _ _ _ _ (@aD _ _ 11 _ _ _ _ nd rfl (Or.inl rfl) (@ah _ _ _ _ _ _ _ (aH K) (@aZ _ _ _ _ (@aa _ _ _ _ _ aF (@aa _ _ _ _ _ aF (@aa _ _ _ _ _ aF (@aa _ _ _ _ _ aF (@aa _ _ _ _ _ aF (@aa _ _ _ _ _ aF ae rfl) rfl) rfl) rfl) rfl) rfl)) (pv 8) (λ_ _=>rfl)) rfl (Or.inl rfl))
    (@aq _ _ _ (br (bG K Gi Gx Gy bT (pv 5) (@aa _ _ _ _ _ (@aT _ _ _ _ _ (@aa _ _ _ _ _ (av cn (pv 7) (pv 3)) (@aa _ _ _ _ _ (pv 11) (@aa _ _ _ _ _ (av cn (pv 9) (pv 3)) (@aa _ _ _ _ _ (@ah _ _ _ _ _ _ _ wU aF (pv 10) (λ_ _=>rfl)) ae rfl) rfl) rfl) rfl)) ae rfl)))))))
    (@aq _ _ _ (@aI _ _ _ _ (@aT _ _ _ _ _ (@aa _ _ _ _ _ (pv 3) (@aa _ _ _ _ _ (aE C__law_unlike hr (@aa _ _ _ _ _ (pv 5) ae rfl)) ae rfl) rfl)))))))))),?_⟩
  walk_at"";refine aw λw0 G1 f1 hw0 _=>?_;walk_at"";refine aw λw1 G2 f2 hw1 _=>?_;walk_at"";refine oi hw1 (by omega) (bN (by decide)) (cc λw2 G3 f3 hw2 _=>?_);walk_at"";refine qC (f3 _ _ (f2 _ _ hw0)) hw2 (bN (by decide)) (cc λw3 G4 f4 hw3 _=>?_);walk_at"";refine i6 fh hw3 (by decide +kernel) (by decide +kernel) (hp) λdq ds H1 e1 hd hdn hl hb=>?_;have eH:Ext H H1:=f1.trans (f2.trans (f3.trans (f4.trans e1)));have hl':ds.length=124:=hl;have at_:∀(i:Nat) (x:Int),fh[i]?=some x->∃d,ds[i]?=some d/\0<=d/\d<x:=λi x hx=>by
   have hi:i<ds.length:=by rw[hl];exact(Gj.mp hx).1
   exact⟨ds[i],Gb hi,hb i _ x (Gb hi) hx⟩
  obtain⟨d0,g0,b00,b01⟩:=at_ 0 8 rfl;obtain⟨d1,g1,b10,b11⟩:=at_ 1 12 rfl;obtain⟨d2,g2,b20,b21⟩:=at_ 2 13 rfl;obtain⟨d3,g3,b30,b31⟩:=at_ 3 31 rfl;have pick:∀{i:Nat} {d:Int},ds[i]?=some d->bC (ds.map V.int) (i:Int)=some (.int d):=λ{i d} h=>eE (by rw[Gd,h];rfl);walk_at"";refine aG (ag.of hd) (pick (i:=1) g1) ?_;walk_at"";refine aw λmq H2 e2 hmq _=>?_;walk_at"";refine aG (ag.of (e2 _ _ hd)) (pick (i:=0) g0) ?_;obtain⟨w,hw,hw1',hw2'⟩:=CH b00 b01;refine aG (ag.of hmq) hw ?_
  try refine rd_I (show(0:Int)<w by omega) ?_
  walk_at"";have r0:0<=d1 % w:=Int.emod_nonneg _ (by omega);have r1:d1 % w<w:=Int.emod_lt_of_pos _ (by omega);obtain⟨m,hm,m1,m2⟩:∃m,1+d1 % w=m/\1<=m/\m<=12:=⟨_,rfl,by omega,by omega⟩;rw[hm];refine aG (ag.of (e2 _ _ hd)) (pick (i:=2) g2) ?_;walk_at"";have eH2:Ext H H2:=eH.trans e2;have hd2:=e2 _ _ hd;refine gG (λσ' H'=>H'=H2/\∃o:Nat,o<=30/\σ'=[some (.int c),some (.int p),some (.ref dq),some (.int m),some (.int o),none,none,none,none,none,none,none]) ?_ ?_
  ·walk_at"";refine aG (ag.of hd2) (pick (i:=0) g0) ?_;walk_at"";refine fD (λh=>?_) (λh=>?_)
   ·walk_at"";refine aG (ag.of hd2) (pick (i:=3) g3) ?_;walk_at"";exact⟨rfl,d3.toNat,by omega,by rw[Int.toNat_of_nonneg b30];rfl⟩
   ·walk_at"";exact⟨rfl,d2.toNat,by omega,by rw[Int.toNat_of_nonneg b20];rfl⟩
  rintro σ' H' ⟨rfl,o,ho,rfl⟩;clear hw hw1' hw2' r0 r1 b00 b01 b10 b11 b20 b21 b30 b31;walk_at"";refine aw λf H3 e3 hf hfn=>?_;walk_at"";refine cw (by omega) ?_;refine forR (λi σ H4=>Ext H' H4/\∃(k1 k2 k3 k4 k5 k6:Option V) (cs:List Addr) (us:List Way),σ=[some (.int c),some (.int p),some (.ref dq),some (.int m),some (.int o),some (.ref f),k1,k2,k3,k4,k5,k6]/\H4 f=some (.lst (cs.map V.ref))/\aM H4 cs us/\(∀u∈us,u.Ok3 m)/\us.length=i)
   ⟨e3,none,none,none,none,none,none,[],[],rfl,hf,aM.nil _,λu hu=>by simp at hu,rfl⟩ ?_ ?_
  ·rintro i σ H4 hi ⟨e4,k1,k2,k3,k4,k5,k6,cs,us,rfl,hf4,al,ok,len⟩;rw[Gp]at hi;have hi30:i<30:=by omega
   obtain⟨a,b,c',d,hcut,ga,gb,gc,gd⟩:=Ei (ds:=ds) (i:=4+4*i) (by omega);obtain⟨y0,y1,y2,y3⟩:=EA hi30;have ba:=hb _ _ _ ga y0;have bb:=hb _ _ _ gb y1;have bc:=hb _ _ _ gc y2;have bd:=hb _ _ _ gd y3;have hd4:=e4 _ _ hd2;walk_at"";refine jc (ag.of hd4) (cc λt H5 e5 ht htn=>?_);rw[show (4:Int)+4*(0+(i:Int))=((4+4*i:Nat):Int) by omega,show (8:Int)+4*(0+(i:Int))=((4+4*i+4:Nat):Int) by omega,hcut]at ht;walk_at"";refine og (ag.of ht) rfl ?_;walk_at"";refine aw λu1 H6 e6 hu1 _=>?_;walk_at"";obtain⟨z,hz,okz⟩:=Fs bb.1 bb.2;refine aG (ag.of hu1) hz ?_;walk_at"";have hf6:=e6 _ _ (e5 _ _ hf4);refine⟨bZ (ag.of hf6),?_⟩;walk_at""
   try refine rd_I (show(0:Int)<m by omega) ?_
   walk_at""
   try refine rd_I (show(0:Int)<m by omega) ?_
   walk_at"";obtain⟨s,hs,s1,s2⟩:=Eg bd.1 bd.2;refine⟨_,_,s,rfl,rfl,f6 (by decide +kernel),hs,?_⟩;walk_at"";refine aw λv H7 e7 hv _=>?_;have hf7:=e7 _ _ hf6;walk_at"";refine bR hf7 (by rw[Ga,al.1,len];exact Nat.lt_of_le_of_lt (show i<=1000 by omega) (by decide)) ?_;walk_at"";have al7:aM H7 cs us:=((al.ext e5).ext e6).ext e7;have hv7:H7 v=some (.tup (Way.vs ⟨a % m,z,c' % m,⟨#[s]⟩⟩)):=hv;refine⟨cG (e4.trans (e5.trans (e6.trans e7))) hfn,_,_,_,_,_,_,cs++[v],us++[⟨a % m,z,c' % m,⟨#[s]⟩⟩],rfl,by rw[aO,Gs];rfl,(al7.put hf7).snoc ?_,?_,by simp[len]⟩
   ·rw[az (cK hv7 hf7 (by intro z;cases z))];exact hv7
   ·intro u hu;rcases Gz.mp hu with hu|hu
    ·exact ok u hu
    ·rw[Gm.mp hu];exact⟨Int.emod_nonneg _ (by omega),Int.emod_lt_of_pos _ (by omega),Int.emod_nonneg _ (by omega),Int.emod_lt_of_pos _ (by omega),okz,s,s1,s2,rfl⟩
  ·rintro σ H4 ⟨e4,k1,k2,k3,k4,k5,k6,cs,us,rfl,hf4,al,ok,len⟩;rw[Gp]at len;walk_at"";refine⟨f,cs,us,rfl,hf4,al,λu hu=>(ok u hu).lay,by omega,λr H5 ws e5 hws nd sub ln=>?_⟩;walk_at"";refine aw λt H6 e6 ht _=>?_;exact q _ m ws H6 (eH2.trans (e4.trans (e5.trans e6))) (aY.mk ht (hws.ext e6)) ⟨m1,m2,by omega,λu hu=>ok u (sub u hu),nd⟩
structure WL(H0 H:Hp)(f:Addr)(us:List Way):Prop where
 ext:Ext H0 H
 at_:∃cs:List Addr,H f=some (.lst (cs.map V.ref))/\aM H cs us
def WL.nil{H0 H:Hp}{f:Addr}(e:Ext H0 H)(hf:H f=some (.lst [])):WL H0 H f []:=⟨e,[],hf,aM.nil _⟩
def WL.push{H0 H H1:Hp}{f v:Addr}{us:List Way}{w:Way}(h:WL H0 H f us)(hfn:H0 f=none)(e:Ext H H1)(hv:H1 v=some (.tup w.vs)):
  ∃xs,H1 f=some (.lst xs)/\xs.length=us.length/\WL H0 (upd H1 f (.lst (xs++[.ref v]))) f (us++[w]):=by
 obtain⟨e0,cs,hf,al⟩:=h;have hf1:=e _ _ hf;refine⟨cs.map V.ref,hf1,by rw[Ga];exact al.1,cG (e0.trans e) hfn,cs++[v],by rw[aO,Gs];rfl,((al.ext e).put hf1).snoc ?_⟩;rw[az (cK hv hf1 (by intro z;cases z))];exact hv
def WL.ty{K:F6}{H0 H H1:Hp}{f:Addr}{us:List Way}(h:WL H0 H f us)(e:Ext H H1):i5 K "list" (.ref f) H1:=by obtain⟨_,cs,hf,al⟩:=h;exact bZ (ag.of (e _ _ hf))
def jY:kI "a":=⟨97,by decide,by decide,by decide +kernel⟩
def ju:kI "b":=⟨98,by decide,by decide,by decide +kernel⟩
def oY:kI "c":=⟨99,by decide,by decide,by decide +kernel⟩
def kf:bK "up":=.inl rfl
def pS:bK "down":=.inr (.inl rfl)
def iJ:bK "stay":=.inr (.inr (.inl rfl))
def pB:bK "zero":=.inr (.inr (.inr rfl))
def dz{n:Nat}(h:n<=1000):n<sizeLine:=Nat.lt_of_le_of_lt h (by decide)
def kS{a b:V}{e:Int}(h0:0<=e)(h1:e<2):∃v,bC [a,b] e=some v/\(v=a\/v=b):=by
 have:e=0\/e=1:=by omega
 rcases this with rfl|rfl
 ·exact⟨a,rfl,.inl rfl⟩
 ·exact⟨b,rfl,.inr rfl⟩
def eh{m:Int}{us:List Way}{w:Way}(h:∀u∈us,u.Ok3 m)(hw:w.Ok3 m):∀u∈us++[w],u.Ok3 m:=λu hu=>by
 rcases Gz.mp hu with hu|hu
 ·exact h u hu
 ·rw[Gm.mp hu];exact hw
def Dz:(GP "ab").cps.toList=[97,98]:=by decide +kernel
def yP{e:Int}(h0:0<=e)(h1:e<2):∃c,bC (GP "ab").cps.toList e=some c/\97<=c/\c<=99:=by
 rw[Dz];have:e=0\/e=1:=by omega
 rcases this with rfl|rfl
 ·exact⟨97,rfl,by decide,by decide⟩
 ·exact⟨98,rfl,by decide,by decide⟩
def b9{ws ds:List Int}(hl:ds.length=ws.length)(hb:∀(i:Nat) (d x:Int),ds[i]?=some d->ws[i]?=some x->0<=d/\d<x)(i:Nat){x:Int}(hx:ws[i]?=some x):∃d,bC (ds.map V.int) (i:Int)=some (.int d)/\0<=d/\d<x:=by
 have hi:i<ds.length:=by rw[hl];exact(Gj.mp hx).1
 have g:ds[i]?=some ds[i]:=Gb hi;exact⟨ds[i],eE (by rw[Gd,g];rfl),hb i _ x g hx⟩
def wa(K:F6):Sp:=λvs H Q _=>∃c p,vs=[.int c,.int p]/\0<p/\∀v m ws H',Ext H H'->aY H' v m ws->HOuse3 m ws->Q v H'
abbrev m7:Stmt:=stq 74
def vo:FnScope ["_law_cell_here","_law_prime","_law_draws_here","_law_up","_law_down","_law_many","_law_ways","_law_k"] ["_law_cell_here","_law_prime"] (aJ m7):=⟨rfl,rfl,rfl,by decide +kernel,rfl,by decide +kernel,by decide +kernel⟩
def AW{P:Program}{w:World}{K:F6}{mg:Str->Option Value}{base:Heap}(D:Dfn K mg "_law_gate_house" m7 ["_law_cell_here","_law_prime"])(T:Blt mg)(C__law_unlike:Cal P w K mg base "_law_unlike" 1 ["_law_ways"] (pz K))(C__law_draws:Cal P w K mg base "_law_draws" 2 ["_law_cell_here","_law_widths","_law_prime"] (fO K)):Cal P w K mg base "_law_gate_house" 3 ["_law_cell_here","_law_prime"] (wa K):=by
 have nd:=(vo).nd;refine D.ok vo (λvs H Q E h=>?_) (λX hX H vs Q E h=>?_)
 ·obtain⟨c,p,rfl,_⟩:=h;rfl
 ·obtain⟨f,cdv,A,outer,s,H0,E0,rfl,hr⟩:=hX;obtain⟨c,p,rfl,hp,q⟩:=h;refine⟨_,(@ai _ _ _ _ _ (@aD _ _ 2 _ _ _ _ nd rfl (Or.inl rfl) (aE C__law_draws hr (@aa _ _ _ _ _ (pv 0) (@aa _ _ _ _ _ (@aZ _ _ _ _ (iC (.c (.c (.c (.c (.c (.c (.c .n))))))))) (@aa _ _ _ _ _ (pv 1) ae rfl) rfl) rfl)) rfl (Or.inl rfl))
    (@ai _ _ _ _ _ (ux (i:=3) (j:=4) rfl nd rfl rfl (by decide) rfl rfl (@aa _ _ _ _ _ (av aU af (@ah _ _ _ _ _ _ _ (aH K) (pv 2) af (λ_ _=>rfl))) (@aa _ _ _ _ _ (av aU af (@ah _ _ _ _ _ _ _ (aH K) (pv 2) af (λ_ _=>rfl))) ae rfl) rfl) rfl)
    (@ai _ _ _ _ _ (@aD _ _ 5 _ _ _ _ nd rfl (Or.inl rfl) (av aU (av aU (pv 3) (pv 4)) af) rfl (Or.inl rfl))
    (@ai _ _ _ _ _ (@aD _ _ 6 _ _ _ _ nd rfl (Or.inl rfl) (@aZ _ _ _ _ ae) rfl (Or.inl rfl))
    (@ai _ _ _ _ _ (bD PassesOwn.never rfl (cq rfl T.range_ (@aa _ _ _ _ _ (pv 3) ae rfl)) (aR (i:=7) nd rfl (Or.inl rfl)) (@aq _ _ _ (br (bG K Gi Gx Gy bT (pv 6) (@aa _ _ _ _ _ (@aT _ _ _ _ _ (@aa _ _ _ _ _ (pv 7) (@aa _ _ _ _ _ aF (@aa _ _ _ _ _ (av cn (av aU (pv 7) af) (pv 3)) (@aa _ _ _ _ _ (@ah _ _ _ _ _ _ _ wU aF (@ah _ _ _ _ _ _ _ (aH K) (pv 2) af (λ_ _=>rfl)) (λ_ _=>rfl)) ae rfl) rfl) rfl) rfl)) ae rfl)))))
    (@ai _ _ _ _ _ (br (bG K Gi Gx Gy bT (pv 6) (@aa _ _ _ _ _ (@aT _ _ _ _ _ (@aa _ _ _ _ _ (av cn (@ah _ _ _ _ _ _ _ (aH K) (pv 2) af (λ_ _=>rfl)) (pv 3)) (@aa _ _ _ _ _ aF (@aa _ _ _ _ _ (pv 3) (@aa _ _ _ _ _ aF ae rfl) rfl) rfl) rfl)) ae rfl)))
    (@ai _ _ _ _ _ (bD PassesOwn.never rfl (cq rfl T.range_ (@aa _ _ _ _ _ (pv 4) ae rfl)) (aR (i:=7) nd rfl (Or.inl rfl)) (@aq _ _ _ (br (bG K Gi Gx Gy bT (pv 6) (@aa _ _ _ _ _ (@aT _ _ _ _ _ (@aa _ _ _ _ _ (av aU (pv 3) (pv 7)) (@aa _ _ _ _ _ aF (@aa _ _ _ _ _ (av aU (pv 3) (av cn (av aU (pv 7) af) (pv 4))) (@aa _ _ _ _ _ aF ae rfl) rfl) rfl) rfl)) ae rfl)))))
    (@ai _ _ _ _ _ (br (bG K Gi Gx Gy bT (pv 6) (@aa _ _ _ _ _ (@aT _ _ _ _ _ (@aa _ _ _ _ _ (av aU (pv 3) (av cn (@ah _ _ _ _ _ _ _ (aH K) (pv 2) af (λ_ _=>rfl)) (pv 4))) (@aa _ _ _ _ _ aF (@aa _ _ _ _ _ (av cX (pv 5) af) (@aa _ _ _ _ _ aF ae rfl) rfl) rfl) rfl)) ae rfl)))
    (@ai _ _ _ _ _ (br (bG K Gi Gx Gy bT (pv 6) (@aa _ _ _ _ _ (@aT _ _ _ _ _ (@aa _ _ _ _ _ (av cX (pv 5) af) (@aa _ _ _ _ _ (@ah _ _ _ _ _ _ _ (aH K) (@aZ _ _ _ _ (@aa _ _ _ _ _ aF (@aa _ _ _ _ _ aF ae rfl) rfl)) (@ah _ _ _ _ _ _ _ (aH K) (pv 2) af (λ_ _=>rfl)) (λ_ _=>rfl)) (@aa _ _ _ _ _ (@ah _ _ _ _ _ _ _ (aH K) (@aZ _ _ _ _ (@aa _ _ _ _ _ af (@aa _ _ _ _ _ (av cX (pv 5) af) ae rfl) rfl)) (@ah _ _ _ _ _ _ _ (aH K) (pv 2) af (λ_ _=>rfl)) (λ_ _=>rfl)) (@aa _ _ _ _ _ aF ae rfl) rfl) rfl) rfl)) ae rfl)))
    (@aq _ _ _ (@aI _ _ _ _ (@aT _ _ _ _ _ (@aa _ _ _ _ _ (pv 5) (@aa _ _ _ _ _ (aE C__law_unlike hr (@aa _ _ _ _ _ (pv 6) ae rfl)) ae rfl) rfl))))))))))))),?_⟩
  walk_at"";refine aw λw0 G1 f1 hw0 _=>?_;walk_at"";refine i6 [6,5,6,5,2,2,2] hw0 (by decide) (by decide) (hp) λdq ds H1 e1 hd hdn hl hb=>?_;have eH:Ext H H1:=f1.trans e1;obtain⟨d0,g0,b00,b01⟩:=b9 hl hb 0 rfl;obtain⟨d1,g1,b10,b11⟩:=b9 hl hb 1 rfl;obtain⟨d2,g2,b20,b21⟩:=b9 hl hb 2 rfl;obtain⟨d3,g3,b30,b31⟩:=b9 hl hb 3 rfl;obtain⟨d4,g4,b40,b41⟩:=b9 hl hb 4 rfl;obtain⟨d5,g5,b50,b51⟩:=b9 hl hb 5 rfl;obtain⟨d6,g6,b60,b61⟩:=b9 hl hb 6 rfl;clear hb hl;walk_at"";refine aG (ag.of hd) g0 ?_;walk_at"";refine aG (ag.of hd) g1 ?_;walk_at"";obtain⟨U,hU⟩:∃U:Nat,1+d0=(U:Int):=⟨(1+d0).toNat,by omega⟩;obtain⟨D,hD⟩:∃D:Nat,1+d1=(D:Int):=⟨(1+d1).toNat,by omega⟩;rw[hU,hD];have u1:1<=U:=by omega
  have u6:U<=6:=by omega
  have v1:1<=D:=by omega
  have v5:D<=5:=by omega
  clear b00 b01 b10 b11 hU hD;obtain⟨m,hm⟩:∃m:Int,(U:Int)+(D:Int)+1=m:=⟨_,rfl⟩;rw[hm];refine aw λf H2 e2 hf hfn=>?_;walk_at"";refine cw (by omega) ?_;have hfn0:H1 f=none:=hfn;refine forR (λi σ H3=>∃(k:Option V) (us:List Way),σ=[some (.int c),some (.int p),some (.ref dq),some (.int U),some (.int D),some (.int m),some (.ref f),k]/\WL H1 H3 f us/\(∀u∈us,u.Ok3 m)/\us.length=i)
   ⟨none,[],rfl,WL.nil e2 hf,λu hu=>by simp at hu,rfl⟩ ?_ ?_
  ·rintro i σ H3 hi ⟨k,us,rfl,wl,ok,len⟩;rw[Gp]at hi;walk_at"";refine⟨wl.ty (Ext.rfl' _),?_⟩;walk_at""
   try refine rd_I (show(0:Int)<(U:Int) by omega) ?_
   walk_at"";refine aG (ag.of (wl.ext _ _ hd)) g4 ?_;obtain⟨s,hs,s1,s2⟩:=yP b40 b41;refine⟨_,_,s,rfl,rfl,f6 (by decide +kernel),hs,?_⟩;walk_at"";refine aw λv H4 e4 hv _=>?_;walk_at"";obtain⟨xs,hx,hlx,wl'⟩:=wl.push (w:=⟨0+(i:Int),"up",(0+(i:Int)+1) % (U:Int),⟨#[s]⟩⟩) hfn0 e4 hv;refine bR hx (dz (by omega)) ?_;walk_at"";exact⟨_,_,rfl,wl',eh ok ⟨by show 0<=0+(i:Int);omega,by show 0+(i:Int)<m;omega,Int.emod_nonneg _ (by omega),Int.lt_trans (Int.emod_lt_of_pos _ (by omega)) (by omega),kf,s,s1,s2,rfl⟩,by simp[len]⟩
  rintro σ H3 ⟨k,us,rfl,wl,ok,len⟩;rw[Gp]at len;walk_at"";refine⟨wl.ty (Ext.rfl' _),?_⟩;walk_at"";refine aG (ag.of (wl.ext _ _ hd)) g2 ?_
  try refine rd_I (show(0:Int)<(U:Int) by omega) ?_
  walk_at"";refine aw λv H4 e4 hv _=>?_;walk_at"";have r0:0<=d2 % (U:Int):=Int.emod_nonneg _ (by omega);have r1:d2 % (U:Int)<U:=Int.emod_lt_of_pos _ (by omega);obtain⟨xs,hx,hlx,wl2⟩:=wl.push (w:=⟨d2 % (U:Int),"stay",(U:Int),"b"⟩) hfn0 e4 hv;have ok2:=eh ok (w:=⟨d2 % (U:Int),"stay",(U:Int),"b"⟩) ⟨r0,by show d2 % (U:Int)<m;omega,by show 0<=(U:Int);omega,by show(U:Int)<m;omega,iJ,ju⟩;refine bR hx (dz (by omega)) ?_;generalize upd H4 f _=H5 at wl2 ⊢;generalize hus2:us++[_]=us2 at wl2 ok2;have len2:us2.length=U+1:=by rw[←hus2];simp[len]
  clear hus2 hx hlx hv e4 r0 r1 wl ok len;walk_at"";refine cw (by omega) ?_;refine forR (λi σ H3=>∃(k:Option V) (us:List Way),σ=[some (.int c),some (.int p),some (.ref dq),some (.int U),some (.int D),some (.int m),some (.ref f),k]/\WL H1 H3 f us/\(∀u∈us,u.Ok3 m)/\us.length=U+1+i)
   ⟨_,us2,rfl,wl2,ok2,len2⟩ ?_ ?_
  ·rintro i σ H3 hi ⟨k,us,rfl,wl,ok,len⟩;rw[Gp]at hi;walk_at"";refine⟨wl.ty (Ext.rfl' _),?_⟩;walk_at""
   try refine rd_I (show(0:Int)<(D:Int) by omega) ?_
   walk_at"";refine aw λv H4 e4 hv _=>?_;walk_at"";have r0:0<=(0+(i:Int)+1) % (D:Int):=Int.emod_nonneg _ (by omega);have r1:(0+(i:Int)+1) % (D:Int)<D:=Int.emod_lt_of_pos _ (by omega);obtain⟨xs,hx,hlx,wl'⟩:=wl.push (w:=⟨(U:Int)+(0+(i:Int)),"down",(U:Int)+(0+(i:Int)+1) % (D:Int),"a"⟩) hfn0 e4 hv;refine bR hx (dz (by omega)) ?_;walk_at"";exact⟨_,_,rfl,wl',eh ok ⟨by show 0<=(U:Int)+(0+(i:Int));omega,by show(U:Int)+(0+(i:Int))<m;omega,by show 0<=(U:Int)+(0+(i:Int)+1) % (D:Int);omega,by show(U:Int)+(0+(i:Int)+1) % (D:Int)<m;omega,pS,jY⟩,by simp[len];omega⟩
  clear wl2 ok2 len2;rintro σ H3 ⟨k,us,rfl,wl,ok,len⟩;rw[Gp]at len;walk_at"";refine⟨wl.ty (Ext.rfl' _),?_⟩;walk_at"";refine aG (ag.of (wl.ext _ _ hd)) g3 ?_
  try refine rd_I (show(0:Int)<(D:Int) by omega) ?_
  walk_at"";refine aw λv H4 e4 hv _=>?_;walk_at"";have r0:0<=d3 % (D:Int):=Int.emod_nonneg _ (by omega);have r1:d3 % (D:Int)<D:=Int.emod_lt_of_pos _ (by omega);obtain⟨xs,hx,hlx,wl2⟩:=wl.push (w:=⟨(U:Int)+d3 % (D:Int),"zero",m-1,"c"⟩) hfn0 e4 hv;have ok2:=eh ok (w:=⟨(U:Int)+d3 % (D:Int),"zero",m-1,"c"⟩) ⟨by show 0<=(U:Int)+d3 % (D:Int);omega,by show(U:Int)+d3 % (D:Int)<m;omega,by show 0<=m-1;omega,by show m-1<m;omega,pB,oY⟩;refine bR hx (dz (by omega)) ?_;generalize upd H4 f _=H5 at wl2 ⊢;generalize hus2:us++[_]=us2 at wl2 ok2;have len2:us2.length=U+D+2:=by rw[←hus2];simp[len];omega
  clear hus2 hx hlx hv e4 r0 r1 wl ok len;walk_at"";refine⟨wl2.ty (Ext.rfl' _),?_⟩;walk_at"";refine aw λt1 H6 e6 ht1 _=>?_;walk_at"";refine aG (ag.of (e6 _ _ (wl2.ext _ _ hd))) g5 ?_;obtain⟨x5,hx5,ax5⟩:=kS (a:=V.str "up") (b:=V.str "stay") b50 b51;refine aG (ag.of ht1) hx5 ?_;walk_at"";refine aw λt2 H7 e7 ht2 _=>?_;walk_at"";refine aG (ag.of (e7 _ _ (e6 _ _ (wl2.ext _ _ hd)))) g6 ?_;obtain⟨x6,hx6,ax6⟩:=kS (a:=V.int 0) (b:=V.int (m-1)) b60 b61;refine aG (ag.of ht2) hx6 ?_;walk_at"";refine aw λv H8 e8 hv _=>?_;walk_at"";obtain⟨z,rfl,oz⟩:∃z,x5=.str z/\bK z:=by
   rcases ax5 with rfl|rfl
   ·exact⟨_,rfl,kf⟩
   ·exact⟨_,rfl,iJ⟩
  obtain⟨y,rfl,y0,y1⟩:∃y:Int,x6=.int y/\0<=y/\y<m:=by
   rcases ax6 with rfl|rfl
   ·exact⟨_,rfl,by omega,by omega⟩
   ·exact⟨_,rfl,by omega,by omega⟩
  obtain⟨xs,hx,hlx,wl3⟩:=wl2.push (w:=⟨m-1,z,y,"b"⟩) hfn0 (e6.trans (e7.trans e8)) hv;have ok3:=eh ok2 (w:=⟨m-1,z,y,"b"⟩) ⟨by show 0<=m-1;omega,by show m-1<m;omega,y0,y1,oz,ju⟩;refine bR hx (dz (by omega)) ?_;generalize upd H8 f _=H9 at wl3 ⊢;generalize hus3:us2++[_]=us3 at wl3 ok3;have len3:us3.length=U+D+3:=by rw[←hus3];simp[len2]
  walk_at"";obtain⟨ew,cs,hcs,al⟩:=wl3;refine⟨f,cs,us3,rfl,hcs,al,λu hu=>(ok3 u hu).lay,by omega,λr I1 ws e5 hws nd sub ln=>?_⟩;walk_at"";refine aw λt I2 e6' ht _=>?_;exact q _ m ws I2 (eH.trans (ew.trans (e5.trans e6'))) (aY.mk ht (hws.ext e6')) ⟨by omega,by omega,by omega,λu hu=>ok3 u (sub u hu),nd⟩
def aM.rev{H:Hp}{bs:List Addr}{ws:List Way}(h:aM H bs ws):aM H bs.reverse ws.reverse:=by
 refine⟨by rw[List.length_reverse,List.length_reverse];exact h.1,λj b w e1 e2=>?_⟩;have hj:j<bs.length:=by have:=(Gj.mp e1).1;simpa using this
 rw[List.getElem?_reverse hj]at e1;rw[List.getElem?_reverse (by rw[←h.1];exact hj),←h.1]at e2;exact h.2 _ b w e1 e2
def hZ{us:List Way}{w:Way}(h:us.Nodup)(hw:w∉us):(us++[w]).Nodup:=by rw[List.nodup_append];exact⟨h,by simp,λa ha c hc=>by rw[Gm.mp hc];exact λz=>hw (z ▸ ha)⟩
def jL{P:Way->Prop}{us:List Way}{w:Way}(h:∀u∈us,P u)(hw:P w):∀u∈us++[w],P u:=λu hu=>by
 rcases Gz.mp hu with hu|hu
 ·exact h u hu
 ·rw[Gm.mp hu];exact hw
def rG:(GP "a")≠"b":=by decide +kernel
def tY:(GP "a")≠"c":=by decide +kernel
def oG:(GP "b")≠"c":=by decide +kernel
def rC(K:F6):Sp:=λvs H Q _=>∃c p,vs=[.int c,.int p]/\0<p/\∀v m ws H',Ext H H'->aY H' v m ws->HOuse3 m ws->Q v H'
abbrev m5:Stmt:=stq 73
def xi:FnScope ["_law_cell_here","_law_prime","_law_draws_here","_law_one","_law_two","_law_many","_law_ways","_law_k"] ["_law_cell_here","_law_prime"] (aJ m5):=⟨rfl,rfl,rfl,by decide +kernel,rfl,by decide +kernel,by decide +kernel⟩
def EC{P:Program}{w:World}{K:F6}{mg:Str->Option Value}{base:Heap}(D:Dfn K mg "_law_ring_house" m5 ["_law_cell_here","_law_prime"])(T:Blt mg)(C__law_draws:Cal P w K mg base "_law_draws" 2 ["_law_cell_here","_law_widths","_law_prime"] (fO K)):Cal P w K mg base "_law_ring_house" 3 ["_law_cell_here","_law_prime"] (rC K):=by
 have nd:=(xi).nd;refine D.ok xi (λvs H Q E h=>?_) (λX hX H vs Q E h=>?_)
 ·obtain⟨c,p,rfl,_⟩:=h;rfl
 ·obtain⟨f,cdv,A,outer,s,H0,E0,rfl,hr⟩:=hX;obtain⟨c,p,rfl,hp,q⟩:=h;refine⟨_,(@ai _ _ _ _ _ (@aD _ _ 2 _ _ _ _ nd rfl (Or.inl rfl) (aE C__law_draws hr (@aa _ _ _ _ _ (pv 0) (@aa _ _ _ _ _ (@aZ _ _ _ _ (iC (.c (.c (.c (.c (.c (.c (.c .n))))))))) (@aa _ _ _ _ _ (pv 1) ae rfl) rfl) rfl)) rfl (Or.inl rfl))
    (@ai _ _ _ _ _ (ux (i:=3) (j:=4) rfl nd rfl rfl (by decide) rfl rfl (@aa _ _ _ _ _ (av aU af (@ah _ _ _ _ _ _ _ (aH K) (pv 2) af (λ_ _=>rfl))) (@aa _ _ _ _ _ (av aU af (@ah _ _ _ _ _ _ _ (aH K) (pv 2) af (λ_ _=>rfl))) ae rfl) rfl) rfl)
    (@ai _ _ _ _ _ (@aD _ _ 5 _ _ _ _ nd rfl (Or.inl rfl) (av aU (av aU (pv 3) (pv 4)) af) rfl (Or.inl rfl))
    (@ai _ _ _ _ _ (@aD _ _ 6 _ _ _ _ nd rfl (Or.inl rfl) (@aZ _ _ _ _ (@aa _ _ _ _ _ (@aT _ _ _ _ _ (@aa _ _ _ _ _ af (@aa _ _ _ _ _ aF (@aa _ _ _ _ _ af (@aa _ _ _ _ _ aF ae rfl) rfl) rfl) rfl)) (@aa _ _ _ _ _ (@aT _ _ _ _ _ (@aa _ _ _ _ _ af (@aa _ _ _ _ _ (@ah _ _ _ _ _ _ _ (aH K) (@aZ _ _ _ _ (@aa _ _ _ _ _ aF (@aa _ _ _ _ _ aF ae rfl) rfl)) (@ah _ _ _ _ _ _ _ (aH K) (pv 2) af (λ_ _=>rfl)) (λ_ _=>rfl)) (@aa _ _ _ _ _ (av aU af (pv 3)) (@aa _ _ _ _ _ aF ae rfl) rfl) rfl) rfl)) ae rfl) rfl)) rfl (Or.inl rfl))
    (@ai _ _ _ _ _ (bD PassesOwn.never rfl (cq rfl T.range_ (@aa _ _ _ _ _ (pv 3) ae rfl)) (aR (i:=7) nd rfl (Or.inl rfl)) (@aq _ _ _ (br (bG K Gi Gx Gy bT (pv 6) (@aa _ _ _ _ _ (@aT _ _ _ _ _ (@aa _ _ _ _ _ (av aU af (pv 7)) (@aa _ _ _ _ _ aF (@aa _ _ _ _ _ (av aU af (av cn (av aU (pv 7) af) (pv 3))) (@aa _ _ _ _ _ aF ae rfl) rfl) rfl) rfl)) ae rfl)))))
    (@ai _ _ _ _ _ (bD PassesOwn.never rfl (cq rfl T.range_ (@aa _ _ _ _ _ (pv 4) ae rfl)) (aR (i:=7) nd rfl (Or.inl rfl)) (@aq _ _ _ (br (bG K Gi Gx Gy bT (pv 6) (@aa _ _ _ _ _ (@aT _ _ _ _ _ (@aa _ _ _ _ _ (av aU (av aU af (pv 3)) (pv 7)) (@aa _ _ _ _ _ (@ah _ _ _ _ _ _ _ (aH K) (@aZ _ _ _ _ (@aa _ _ _ _ _ aF (@aa _ _ _ _ _ aF ae rfl) rfl)) (@ah _ _ _ _ _ _ _ (aH K) (pv 2) af (λ_ _=>rfl)) (λ_ _=>rfl)) (@aa _ _ _ _ _ (av aU (av aU af (pv 3)) (av cn (av aU (pv 7) af) (pv 4))) (@aa _ _ _ _ _ aF ae rfl) rfl) rfl) rfl)) ae rfl)))))
    (@ai _ _ _ _ _ (br (bG K Gi Gx Gy bT (pv 6) (@aa _ _ _ _ _ (@aT _ _ _ _ _ (@aa _ _ _ _ _ af (@aa _ _ _ _ _ aF (@aa _ _ _ _ _ (av cX (pv 5) af) (@aa _ _ _ _ _ aF ae rfl) rfl) rfl) rfl)) ae rfl)))
    (@ai _ _ _ _ _ (br (bG K Gi Gx Gy bT (pv 6) (@aa _ _ _ _ _ (@aT _ _ _ _ _ (@aa _ _ _ _ _ (av aU af (pv 3)) (@aa _ _ _ _ _ aF (@aa _ _ _ _ _ (av cX (pv 5) af) (@aa _ _ _ _ _ aF ae rfl) rfl) rfl) rfl)) ae rfl)))
    (@ai _ _ _ _ _ (cV (aS b6 (@ah _ _ _ _ _ _ _ (aH K) (pv 2) af (λ_ _=>rfl)) af (aP _)) (@aq _ _ _ (br (bG K Gi Gx Gy bT (pv 6) (@aa _ _ _ _ _ (@aT _ _ _ _ _ (@aa _ _ _ _ _ (av cX (pv 5) af) (@aa _ _ _ _ _ aF (@aa _ _ _ _ _ (av cX (pv 5) af) (@aa _ _ _ _ _ aF ae rfl) rfl) rfl) rfl)) ae rfl)))) bf)
    (@ai _ _ _ _ _ (cV (aS b6 (@ah _ _ _ _ _ _ _ (aH K) (pv 2) af (λ_ _=>rfl)) af (aP _)) (@aq _ _ _ (br (bG K Gi Gx Gy bT (pv 6) (@aa _ _ _ _ _ (@aT _ _ _ _ _ (@aa _ _ _ _ _ (av cX (pv 5) af) (@aa _ _ _ _ _ aF (@aa _ _ _ _ _ af (@aa _ _ _ _ _ aF ae rfl) rfl) rfl) rfl)) ae rfl)))) bf)
    (@ai _ _ _ _ _ (cV (aS b6 (@ah _ _ _ _ _ _ _ (aH K) (pv 2) af (λ_ _=>rfl)) af (aP _)) (@aq _ _ _ (@aD _ _ 6 _ _ _ _ nd rfl (Or.inl rfl) (zd K (pv 6) (fA (gq gR af))) rfl (Or.inl rfl))) bf)
    (@aq _ _ _ (@aI _ _ _ _ (@aT _ _ _ _ _ (@aa _ _ _ _ _ (pv 5) (@aa _ _ _ _ _ (gH (jH K) rfl T.tuple_ PyProof.Rows.boot_tuple (@aa _ _ _ _ _ (pv 6) ae rfl)) ae rfl) rfl))))))))))))))),?_⟩
  walk_at"";refine aw λw0 G1 f1 hw0 _=>?_;walk_at"";refine i6 [5,5,2,2,4,4,2] hw0 (by decide) (by decide) (hp) λdq ds H1 e1 hd hdn hl hb=>?_;have eH:Ext H H1:=f1.trans e1;obtain⟨d0,g0,b00,b01⟩:=b9 hl hb 0 rfl;obtain⟨d1,g1,b10,b11⟩:=b9 hl hb 1 rfl;obtain⟨d2,g2,b20,b21⟩:=b9 hl hb 2 rfl;obtain⟨d3,g3,b30,b31⟩:=b9 hl hb 3 rfl;obtain⟨d4,g4,_⟩:=b9 hl hb 4 rfl;obtain⟨d5,g5,_⟩:=b9 hl hb 5 rfl;obtain⟨d6,g6,_⟩:=b9 hl hb 6 rfl;clear hb hl;walk_at"";refine aG (ag.of hd) g0 ?_;walk_at"";refine aG (ag.of hd) g1 ?_;walk_at"";obtain⟨U,hU⟩:∃U:Nat,1+d0=(U:Int):=⟨(1+d0).toNat,by omega⟩;obtain⟨D,hD⟩:∃D:Nat,1+d1=(D:Int):=⟨(1+d1).toNat,by omega⟩;rw[hU,hD];have u1:1<=U:=by omega
  have u6:U<=5:=by omega
  have v1:1<=D:=by omega
  have v5:D<=5:=by omega
  clear b00 b01 b10 b11 hU hD;obtain⟨m,hm⟩:∃m:Int,(U:Int)+(D:Int)+2=m:=⟨_,rfl⟩;rw[hm];refine aw λa1 H2 e2 ha1 _=>?_;walk_at"";refine aw λt1 H3 e3 ht1 _=>?_;walk_at"";refine aG (ag.of (e3 _ _ (e2 _ _ hd))) g2 ?_;obtain⟨x2,hx2,ax2⟩:=kS (a:=V.str "stay") (b:=V.str "zero") b20 b21;refine aG (ag.of ht1) hx2 ?_;walk_at"";obtain⟨z2,rfl,oz2⟩:∃z,x2=.str z/\bK z:=by
   rcases ax2 with rfl|rfl
   ·exact⟨_,rfl,iJ⟩
   ·exact⟨_,rfl,pB⟩
  refine aw λa2 H4 e4 ha2 _=>?_;walk_at"";refine aw λf H5 e5 hf hfn=>?_;have e15:Ext H1 H5:=e2.trans (e3.trans (e4.trans e5));have hfn0:H1 f=none:=(e2.trans (e3.trans e4)).none hfn;obtain⟨y1,hy1⟩:∃y:Way,y=⟨0,"stay",1,"a"⟩:=⟨_,rfl⟩;obtain⟨y2,hy2⟩:∃y:Way,y=⟨0,z2,1+(U:Int),"b"⟩:=⟨_,rfl⟩;have wl0:WL H1 H5 f [y1,y2]:=by
   refine⟨e15,[a1,a2],hf,?_⟩;have k1:H5 a1=some (.tup y1.vs):=by rw[hy1];exact e5 _ _ (e4 _ _ (e3 _ _ ha1))
   have k2:H5 a2=some (.tup y2.vs):=by rw[hy2];exact e5 _ _ ha2
   exact((aM.nil H5).snoc k1).snoc k2
  have ok0:∀u∈[y1,y2],u.Ok3 m:=by
   intro u hu;rcases Gq.mp hu with rfl|hu
   ·subst hy1;exact⟨Int.le_refl _,by show(0:Int)<m;omega,by show(0:Int)<=1;decide,by show(1:Int)<m;omega,iJ,jY⟩
   ·rw[Gm.mp hu];subst hy2;exact⟨Int.le_refl _,by show(0:Int)<m;omega,by show(0:Int)<=1+(U:Int);omega,by show 1+(U:Int)<m;omega,oz2,ju⟩
  have nd0:[y1,y2].Nodup:=by subst hy1 hy2;refine List.nodup_cons.mpr ⟨λz=>?_,by simp⟩;have:=congrArg Way.sign (Gm.mp z);exact rG this
  have pr0:∀u∈[y1,y2],u.room<=((0:Nat):Int)/\u.sign≠"c":=by
   intro u hu;rcases Gq.mp hu with rfl|hu
   ·subst hy1;exact⟨Int.le_refl _,tY⟩
   ·rw[Gm.mp hu];subst hy2;exact⟨Int.le_refl _,oG⟩
  have ln0:[y1,y2].length=2:=rfl;generalize [y1,y2]=us0 at wl0 ok0 nd0 pr0 ln0;clear hy1 hy2 ha1 ha2 ht1 hf e2 e3 e4 e5;walk_at"";refine cw (by omega) ?_;refine forR (λi σ H3=>∃(k:Option V) (us:List Way),σ=[some (.int c),some (.int p),some (.ref dq),some (.int U),some (.int D),some (.int m),some (.ref f),k]/\WL H1 H3 f us/\(∀u∈us,u.Ok3 m)/\us.Nodup/\(∀u∈us,u.room<=(i:Int)/\u.sign≠"c")/\us.length=2+i)
   ⟨none,us0,rfl,wl0,ok0,nd0,pr0,ln0⟩ ?_ ?_
  ·rintro i σ H3 hi ⟨k,us,rfl,wl,ok,nd',pr,len⟩;rw[Gp]at hi;walk_at"";refine⟨wl.ty (Ext.rfl' _),?_⟩;walk_at""
   try refine rd_I (show(0:Int)<(U:Int) by omega) ?_
   walk_at"";refine aw λv H4 e4 hv _=>?_;walk_at"";have r0:0<=(0+(i:Int)+1) % (U:Int):=Int.emod_nonneg _ (by omega);have r1:(0+(i:Int)+1) % (U:Int)<U:=Int.emod_lt_of_pos _ (by omega);obtain⟨xs,hx,hlx,wl'⟩:=wl.push (w:=⟨1+(0+(i:Int)),"up",1+(0+(i:Int)+1) % (U:Int),"a"⟩) hfn0 e4 hv;refine bR hx (dz (by omega)) ?_;walk_at"";refine⟨_,_,rfl,wl',eh ok ⟨by show 0<=1+(0+(i:Int));omega,by show 1+(0+(i:Int))<m;omega,by show 0<=1+(0+(i:Int)+1) % (U:Int);omega,by show 1+(0+(i:Int)+1) % (U:Int)<m;omega,kf,jY⟩,hZ nd' λz=>?_,jL (λu hu=>⟨by have:=(pr u hu).1;omega,(pr u hu).2⟩) ⟨by show 1+(0+(i:Int))<=_;omega,tY⟩,by simp[len];omega⟩;have:=(pr _ z).1;have:1+(0+(i:Int))<=(i:Int):=this;omega
  clear wl0 ok0 nd0 pr0 ln0;rintro σ H3 ⟨k,us,rfl,wl,ok,nd',pr,len⟩;rw[Gp]at pr len;walk_at"";refine cw (by omega) ?_;refine forR (λi σ H3=>∃(k:Option V) (us:List Way),σ=[some (.int c),some (.int p),some (.ref dq),some (.int U),some (.int D),some (.int m),some (.ref f),k]/\WL H1 H3 f us/\(∀u∈us,u.Ok3 m)/\us.Nodup/\(∀u∈us,u.room<=(U:Int)+(i:Int)/\u.sign≠"c"/\(u.room=1+(U:Int)->u.sign = "b"))/\us.length=2+U+i)
   ⟨_,us,rfl,wl,ok,nd',λu hu=>⟨by have:=(pr u hu).1;omega,(pr u hu).2,λz=>by have:=(pr u hu).1;omega⟩,len⟩ ?_ ?_
  ·clear wl ok nd' pr len;rintro i σ H3 hi ⟨k,us,rfl,wl,ok,nd',pr,len⟩;rw[Gp]at hi;walk_at"";refine⟨wl.ty (Ext.rfl' _),?_⟩;walk_at"";refine aw λt1 H6 e6 ht1 _=>?_;walk_at"";refine aG (ag.of (e6 _ _ (wl.ext _ _ hd))) g3 ?_;obtain⟨x3,hx3,ax3⟩:=kS (a:=V.str "up") (b:=V.str "down") b30 b31;refine aG (ag.of ht1) hx3 ?_;walk_at"";obtain⟨z3,rfl,oz3⟩:∃z,x3=.str z/\bK z:=by
    rcases ax3 with rfl|rfl
    ·exact⟨_,rfl,kf⟩
    ·exact⟨_,rfl,pS⟩
   try refine rd_I (show(0:Int)<(D:Int) by omega) ?_
   walk_at"";refine aw λv H4 e4 hv _=>?_;walk_at"";have r0:0<=(0+(i:Int)+1) % (D:Int):=Int.emod_nonneg _ (by omega);have r1:(0+(i:Int)+1) % (D:Int)<D:=Int.emod_lt_of_pos _ (by omega);obtain⟨xs,hx,hlx,wl'⟩:=wl.push (w:=⟨1+(U:Int)+(0+(i:Int)),z3,1+(U:Int)+(0+(i:Int)+1) % (D:Int),"b"⟩) hfn0 (e6.trans e4) hv;refine bR hx (dz (by omega)) ?_;walk_at"";refine⟨_,_,rfl,wl',eh ok ⟨by show 0<=1+(U:Int)+(0+(i:Int));omega,by show 1+(U:Int)+(0+(i:Int))<m;omega,by show 0<=1+(U:Int)+(0+(i:Int)+1) % (D:Int);omega,by show 1+(U:Int)+(0+(i:Int)+1) % (D:Int)<m;omega,oz3,ju⟩,hZ nd' λz=>?_,jL (λu hu=>⟨by have:=(pr u hu).1;omega,(pr u hu).2⟩) ⟨by show 1+(U:Int)+(0+(i:Int))<=_;omega,oG,λ_=>rfl⟩,by simp[len];omega⟩;have:=(pr _ z).1;have:1+(U:Int)+(0+(i:Int))<=(U:Int)+(i:Int):=this;omega
  clear wl ok nd' pr len;rintro σ H3 ⟨k,us,rfl,wl,ok,nd',pr,len⟩;rw[Gp]at pr len;walk_at"";refine⟨wl.ty (Ext.rfl' _),?_⟩;walk_at"";refine aw λv H4 e4 hv _=>?_;walk_at"";obtain⟨xs,hx,hlx,wl2⟩:=wl.push (w:=⟨1,"stay",m-1,"c"⟩) hfn0 e4 hv;have ok2:=eh ok (w:=⟨1,"stay",m-1,"c"⟩) ⟨by show(0:Int)<=1;decide,by show(1:Int)<m;omega,by show 0<=m-1;omega,by show m-1<m;omega,iJ,oY⟩;have nd2:=hZ nd' (w:=⟨1,"stay",m-1,"c"⟩) λz=>(pr _ z).2.1 rfl;have pr2:=jL (P:=λu=>u.room<=(U:Int)+(D:Int)/\(u.room=1+(U:Int)->u.sign = "b")) (λu hu=>⟨(pr u hu).1,(pr u hu).2.2⟩) (w:=⟨1,"stay",m-1,"c"⟩) ⟨by show(1:Int)<=_;omega,λz=>by have:(1:Int)=1+(U:Int):=z;omega⟩;refine bR hx (dz (by omega)) ?_;generalize upd H4 f _=H5 at wl2 ⊢;generalize hus2:us++[_]=us2 at wl2 ok2 nd2 pr2;have len2:us2.length=3+U+D:=by rw[←hus2];simp[len];omega
  clear hus2 hx hlx hv e4 wl ok nd' pr len;walk_at"";refine⟨wl2.ty (Ext.rfl' _),?_⟩;walk_at"";refine aw λv H4 e4 hv _=>?_;walk_at"";obtain⟨xs,hx,hlx,wl3⟩:=wl2.push (w:=⟨1+(U:Int),"stay",m-1,"a"⟩) hfn0 e4 hv;have ok3:=eh ok2 (w:=⟨1+(U:Int),"stay",m-1,"a"⟩) ⟨by show(0:Int)<=1+(U:Int);omega,by show 1+(U:Int)<m;omega,by show 0<=m-1;omega,by show m-1<m;omega,iJ,jY⟩;have nd3:=hZ nd2 (w:=⟨1+(U:Int),"stay",m-1,"a"⟩) λz=>rG ((pr2 _ z).2 rfl);have pr3:=jL (P:=λu=>u.room<=(U:Int)+(D:Int)) (λu hu=>(pr2 u hu).1) (w:=⟨1+(U:Int),"stay",m-1,"a"⟩) (by show 1+(U:Int)<=_;omega);refine bR hx (dz (by omega)) ?_;generalize upd H4 f _=H6 at wl3 ⊢;generalize hus3:us2++[_]=us3 at wl3 ok3 nd3 pr3;have len3:us3.length=4+U+D:=by rw[←hus3];simp[len2];omega
  clear hus3 hx hlx hv e4 wl2 ok2 nd2 pr2 len2;walk_at"";refine gG (λσ' H'=>∃(k:Option V) (us:List Way),σ'=[some (.int c),some (.int p),some (.ref dq),some (.int U),some (.int D),some (.int m),some (.ref f),k]/\WL H1 H' f us/\(∀u∈us,u.Ok3 m)/\us.Nodup/\(∀u∈us,u.room<=(U:Int)+(D:Int)\/u.sign = "c")/\us.length<=5+U+D) ?_ ?_
  ·walk_at"";refine aG (ag.of (wl3.ext _ _ hd)) g4 ?_;walk_at"";refine fD (λh=>?_) (λh=>?_)
   ·walk_at"";refine⟨wl3.ty (Ext.rfl' _),?_⟩;walk_at"";refine aw λv H4 e4 hv _=>?_;walk_at"";obtain⟨xs,hx,hlx,wl4⟩:=wl3.push (w:=⟨m-1,"down",m-1,"c"⟩) hfn0 e4 hv;refine bR hx (dz (by omega)) ?_;walk_at"";exact⟨_,_,rfl,wl4,eh ok3 ⟨by show 0<=m-1;omega,by show m-1<m;omega,by show 0<=m-1;omega,by show m-1<m;omega,pS,oY⟩,hZ nd3 λz=>by have:m-1<=(U:Int)+(D:Int):=pr3 _ z;omega,jL (λu hu=>.inl (pr3 u hu)) (.inr rfl),by simp[len3];omega⟩
   ·walk_at"";exact⟨_,us3,rfl,wl3,ok3,nd3,λu hu=>.inl (pr3 u hu),by omega⟩
  clear wl3 ok3 nd3 pr3 len3;rintro σ' H7 ⟨k,us,rfl,wl,ok,nd',pr,len⟩;walk_at"";refine gG (λσ' H'=>∃(k:Option V) (us:List Way),σ'=[some (.int c),some (.int p),some (.ref dq),some (.int U),some (.int D),some (.int m),some (.ref f),k]/\WL H1 H' f us/\(∀u∈us,u.Ok3 m)/\us.Nodup/\us.length<=6+U+D) ?_ ?_
  ·walk_at"";refine aG (ag.of (wl.ext _ _ hd)) g5 ?_;walk_at"";refine fD (λh=>?_) (λh=>?_)
   ·walk_at"";refine⟨wl.ty (Ext.rfl' _),?_⟩;walk_at"";refine aw λv H4 e4 hv _=>?_;walk_at"";obtain⟨xs,hx,hlx,wl4⟩:=wl.push (w:=⟨m-1,"zero",0,"b"⟩) hfn0 e4 hv;refine bR hx (dz (by omega)) ?_;walk_at"";exact⟨_,_,rfl,wl4,eh ok ⟨by show 0<=m-1;omega,by show m-1<m;omega,by show(0:Int)<=0;decide,by show(0:Int)<m;omega,pB,ju⟩,hZ nd' (λz=>(pr _ z).elim (λy=>by have:m-1<=(U:Int)+(D:Int):=y;omega) λy=>oG y),by simp;omega⟩
   ·walk_at"";exact⟨_,us,rfl,wl,ok,nd',by omega⟩
  clear wl ok nd' pr len;rintro σ' H8 ⟨k,us,rfl,wl,ok,nd',len⟩;walk_at"";refine gG (λσ' H'=>∃(k:Option V) (f:Addr) (cs:List Addr) (us:List Way),σ'=[some (.int c),some (.int p),some (.ref dq),some (.int U),some (.int D),some (.int m),some (.ref f),k]/\Ext H1 H'/\H' f=some (.lst (cs.map V.ref))/\aM H' cs us/\(∀u∈us,u.Ok3 m)/\us.Nodup/\us.length<=6+U+D) ?_ ?_
  ·walk_at"";refine aG (ag.of (wl.ext _ _ hd)) g6 ?_;walk_at"";obtain⟨ew,cs,hcs,al⟩:=wl;refine fD (λh=>?_) (λh=>?_)
   ·walk_at"";refine⟨rfl,t9 (ag.of hcs) (cc λr H9 e9 hr9 _=>?_)⟩;walk_at"";exact⟨_,r,cs.reverse,us.reverse,rfl,ew.trans e9,by rw[hr9,List.map_reverse],(al.ext e9).rev,λu hu=>ok u (List.mem_reverse.mp hu),List.pairwise_reverse.mpr (nd'.imp λh=>Ne.symm h),by rw[List.length_reverse];omega⟩
   ·walk_at"";exact⟨_,f,cs,us,rfl,ew,hcs,al,ok,nd',by omega⟩
  clear wl ok nd' len;rintro σ' H9 ⟨k,g,cs,us,rfl,ew,hcs,al,ok,nd',len⟩;walk_at"";refine jG (ag.of hcs) (cc λr I1 i1 hr1 _=>?_);walk_at"";refine aw λt I2 i2 ht _=>?_;exact q _ m us I2 (eH.trans (ew.trans (i1.trans i2))) (aY.mk ht (((al.ext i1).ways hr1).ext i2)) ⟨by omega,by omega,by omega,ok,nd'⟩
def ug(K:F6):Sp:=λvs H Q _=>∃c p,vs=[.int c,.int p]/\0<p/\∀v m ws H',Ext H H'->aY H' v m ws->HOuse3 m ws->Q v H'
abbrev oh:Stmt:=stq 75
def uo:FnScope ["_law_cell_here","_law_prime","_law_kind","_law_left"] ["_law_cell_here","_law_prime"] (aJ oh):=⟨rfl,rfl,rfl,by decide +kernel,rfl,by decide +kernel,by decide +kernel⟩
def zi{P:Program}{w:World}{K:F6}{mg:Str->Option Value}{base:Heap}(D:Dfn K mg "_law_house" oh ["_law_cell_here","_law_prime"])(T:Blt mg)(C__law_drawn_house:Cal P w K mg base "_law_drawn_house" 3 ["_law_cell_here","_law_prime"] (xQ K))(C__law_gate_house:Cal P w K mg base "_law_gate_house" 3 ["_law_cell_here","_law_prime"] (wa K))(C__law_ring_house:Cal P w K mg base "_law_ring_house" 3 ["_law_cell_here","_law_prime"] (rC K))(C__law_spare:Cal P w K mg base "_law_spare" 1 ["_law_cell_here","_law_width"] (qJ K))(C__law_draws:Cal P w K mg base "_law_draws" 2 ["_law_cell_here","_law_widths","_law_prime"] (fO K)):Cal P w K mg base "_law_house" 4 ["_law_cell_here","_law_prime"] (ug K):=by
 have nd:=(uo).nd;refine D.ok uo (λvs H Q E h=>?_) (λX hX H vs Q E h=>?_)
 ·obtain⟨c,p,rfl,_⟩:=h;rfl
 ·obtain⟨f,cdv,A,outer,s,H0,E0,rfl,hr⟩:=hX;obtain⟨c,p,rfl,hp,q⟩:=h;refine⟨_,(ai (aD (i:=2) nd rfl (Or.inl rfl) (ah (aH K) (aE C__law_draws hr (aa (pv 0) (aa (aZ (aa af ae)) (aa (pv 1) ae)))) af (λ_ _=>rfl)))
    (ai (aD (i:=3) nd rfl (Or.inl rfl) (aE C__law_spare hr (aa (pv 0) (aa af ae))))
    (ai (bM (aS b6 (pv 2) af (aP _)) (aq (aI (aE C__law_ring_house hr (aa (pv 3) (aa (pv 1) ae))))) bf)
    (ai (bM (aS b6 (pv 2) af (aP _)) (aq (aI (aE C__law_gate_house hr (aa (pv 3) (aa (pv 1) ae))))) bf)
    (aq (aI (aE C__law_drawn_house hr (aa (pv 3) (aa (pv 1) ae))))))))),?_⟩
  walk_at"";refine aw λw0 G1 f1 hw0 _=>?_;walk_at"";refine i6 [8] hw0 (by decide) (by decide) (hp) λdq ds H1 e1 hd hdn hl hb=>?_;have eH:Ext H H1:=f1.trans e1;obtain⟨d0,g0,_⟩:=b9 hl hb 0 rfl;walk_at"";refine aG (ag.of hd) g0 ?_;walk_at"";refine⟨c,8,rfl,by decide,by decide,λz=>?_⟩;walk_at"";refine fD (λh=>?_) (λh=>?_)
  ·walk_at"";exact⟨z,p,rfl,hp,λv m ws H' e hv ok=>q v m ws H' (eH.trans e) hv ok⟩
  ·walk_at"";refine fD (λh=>?_) (λh=>?_)
   ·walk_at"";exact⟨z,p,rfl,hp,λv m ws H' e hv ok=>q v m ws H' (eH.trans e) hv ok⟩
   ·walk_at"";exact⟨z,p,rfl,hp,λv m ws H' e hv ok=>q v m ws H' (eH.trans e) hv ok⟩
def yG{H:Hp}{m:Int}{xs:List V}{x:V}(hx:x∈xs)(h:bP H m x=false):gU H m xs=false:=by
 unfold gU;have:xs.all (bP H m)=false:=by rw[List.all_eq_false];exact⟨x,hx,by rw[h];exact Gr⟩
 rw[this,Bool.false_and,Bool.and_false]
def Br{m i:Int}(h:m<=i):cJ m (.int i)=false:=by unfold cJ;dsimp only;rw[Hc (show ¬i<m by omega)];exact Bool.and_false _
def rJ{m i:Int}(h:0<=i)(h':i<m):cJ m (.int i)=true:=by unfold cJ;dsimp only;rw[Hd h,Hd h'];rfl
def qh{m:Int}{a b c d:V}(h:cJ m a=false\/cJ m c=false\/gJ b=false\/gZ d=false):fF m [a,b,c,d]=false:=by unfold fF;dsimp only;rcases h with h|h|h|h<;>rw[h]<;>simp
def bX(H:Hp)(n:Nat)(xs:List V):Prop:=∀x∈xs,bw H n x
def bX.ext{H H':Hp}{n:Nat}{xs:List V}(e:Ext H H')(h:bX H n xs):bX H' n xs:=λx hx=>(h x hx).ext e
def bX.cut{H:Hp}{n:Nat}{xs:List V}{lo hi:Option Int}(h:bX H n xs):bX H n (b5 xs lo hi):=λx hx=>h x (List.mem_of_mem_drop (List.mem_of_mem_take hx))
def bX.app{H:Hp}{n:Nat}{xs ys:List V}(h:bX H n xs)(h':bX H n ys):bX H n (xs++ys):=λx hx=>(Gz.mp hx).elim (h x) (h' x)
def bX.nil(H:Hp)(n:Nat):bX H n []:=λx hx=>by cases hx
def bX.cons{H:Hp}{n:Nat}{x:V}{xs:List V}(h:bw H n x)(h':bX H n xs):bX H n (x::xs):=λy hy=>by
 rcases Gq.mp hy with rfl|hy
 ·exact h
 ·exact h' y hy
def cW{H:Hp}{n:Nat}{p:Addr}{xs:List V}(h:H p=some (.tup xs))(hl:xs.length<=2000)(hx:bX H n xs):bw H (n+1) (.ref p):=⟨xs,.inl h,hl,hx⟩
def Fn{H:Hp}{n:Nat}{p:Addr}{xs:List V}(h:H p=some (.lst xs))(hl:xs.length<=2000)(hx:bX H n xs):bw H (n+1) (.ref p):=⟨xs,.inr h,hl,hx⟩
def bw.up{H:Hp}:∀{n:Nat} {v:V},bw H n v->bw H (n+1) v:=by
 intro n;induction n with
 | zero=>
  intro v h;cases v<;>first|exact h|exact h.elim
 | succ n ih=>
  intro v h;cases v with
  | ref p=>
   obtain⟨xs,h1,h2,h3⟩:=h;exact⟨xs,h1,h2,λx hx=>ih (h3 x hx)⟩
  | _=>exact h
def bX.up{H:Hp}{n:Nat}{xs:List V}(h:bX H n xs):bX H (n+1) xs:=λx hx=>(h x hx).up
def cR(H:Hp)(n:Nat)(i:Int):bw H n (.int i):=by cases n<;>trivial
def vA(H:Hp)(n:Nat):bw H n .non:=by cases n<;>trivial
def eX(H:Hp)(n:Nat){z:Str}(h:z.length<=1000):bw H n (.str z):=by cases n<;>exact h
def yd{xs:List V}{lo hi:Option Int}{k:Nat}(h:xs.length<=k):(b5 xs lo hi).length<=k:=GI (mE xs lo hi) h
def Bi{z:Str}(h:bK z):z.length<=1000:=by rcases h with rfl|rfl|rfl|rfl<;>decide +kernel
def EY{z:Str}(h:tN z):z.length<=1000:=by obtain⟨c,_,_,rfl⟩:=h;show 1<=1000;decide
def Dr{H:Hp}{m:Int}{w:Way}(ok:w.Ok m):bX H 0 w.vs:=
 .cons (cR _ _ _) (.cons (eX _ _ (Bi ok.dd)) (.cons (cR _ _ _) (.cons (eX _ _ (EY ok.sg)) (.nil _ _))))
def xC{H:Hp}{v:V}{m:Int}{ws:List Way}(h:aY H v m ws)(ok:HOuse m ws):∃p q bs,v=.ref p/\H p=some (.tup [.int m,.ref q])/\H q=some (.tup (bs.map V.ref))/\bs.length=ws.length/\aM H bs ws/\bX H 1 (bs.map V.ref):=by
 obtain⟨p,q,rfl,h1,h2⟩:=h;obtain⟨bs,h3,h4⟩:=h2.al;refine⟨p,q,bs,rfl,h1,h3,h4.1,h4,λx hx=>?_⟩;obtain⟨b,hb,rfl⟩:=List.mem_map.mp hx;obtain⟨j,hj,e⟩:=List.mem_iff_getElem.mp hb;have hjw:j<ws.length:=by rw[←h4.1];exact hj
 have hw:ws[j]?=some ws[j]:=Gb hjw;exact cW (h4.2 j b _ (by rw[Gb hj,e]) hw) (by show 4<=2000;decide) (Dr (ok.ok _ (GD _)))
def FN{c:Nat}(h1:97<=c)(h2:c<=122):jZ ⟨#[c]⟩=true:=by
 have ea:(GP "a").cps.toList=[97]:=by decide +kernel
 have ez:(GP "z").cps.toList=[122]:=by decide +kernel
 unfold jZ;rw[ea,ez];show(!decide (([c]:List Nat) < [97]) && !decide (([122]:List Nat) < [c]))=true;rw[Hc (λz=>by rw[List.cons_lt_cons_iff]at z;simp at z;omega),Hc (λz=>by rw[List.cons_lt_cons_iff]at z;simp at z;omega)];rfl
def AX{z:Str}(h:bK z):gJ (.str z)=true:=by rcases h with rfl|rfl|rfl|rfl<;>decide +kernel
def AS{H:Hp}{b:Addr}{m:Int}{w:Way}(h:H b=some (.tup w.vs))(ok:w.Ok m):bP H m (.ref b)=true:=by rw[gX h];obtain⟨c,h1,h2,e⟩:=ok.sg;unfold Way.vs fF;dsimp only;rw[rJ ok.r0 ok.r1,rJ ok.o0 ok.o1,AX ok.dd,e];unfold gZ;dsimp only;rw[FN h1 h2];rfl
def uz{H:Hp}:∀{bs:List Addr} {ws:List Way},aM H bs ws->(bs.map V.ref).map (dE H)=ws.map Way.key
 | [],[],_=>rfl
 | [],_::_,h=>by cases h.1
 | _::_,[],h=>by cases h.1
 | b::bs,w::ws,h=>by rw[List.map_cons,List.map_cons,List.map_cons,uz (bs:=bs) (ws:=ws) ⟨Nat.succ.inj h.1,λj b w e1 e2=>h.2 (j+1) b w e1 e2⟩,xR (h.2 0 b w rfl rfl)];rfl
def zF{H:Hp}{m:Int}{bs:List Addr}{ws:List Way}(h:aM H bs ws)(ok:∀w∈ws,w.Ok m):(bs.map V.ref).all (bP H m)=true:=by
 rw[GK];intro x hx;obtain⟨b,hb,rfl⟩:=List.mem_map.mp hx;obtain⟨j,hj,e⟩:=List.mem_iff_getElem.mp hb;have hjw:j<ws.length:=by rw[←h.1];exact hj
 exact AS (h.2 j b _ (by rw[Gb hj,e]) (Gb hjw)) (ok _ (GD hjw))
def FP{H:Hp}{p q:Addr}{m:Int}{bs:List Addr}{ws:List Way}(h1:H p=some (.tup [.int m,.ref q]))(h2:H q=some (.tup (bs.map V.ref)))(h3:aM H bs ws)(m1:1<=m)(m2:m<=12)(ok:∀w∈ws,w.Ok m)(nd:ws.Nodup):cZ H (.ref p)=decide (ws.length<=100):=by
 rw[iT h1];unfold dS;dsimp only;rw[Hd m1,Hd m2,lK h2];unfold gU;have hk:(ws.map Way.key).Nodup:=by unfold List.Nodup at nd ⊢;rw[List.pairwise_map];exact nd.imp λne e=>ne (Way.key_inj e)
 rw[zF h3 ok,uz h3,Hd hk,Ga,h3.1];simp
def CY{H H':Hp}{m:Int}{n:Nat}{v:V}(e:Ext H H')(h:bw H (n+1) v):eU H' m v=eU H m v:=by
 cases v with
 | ref p=>
  obtain⟨xs,h1,_,h3⟩:=h;unfold eU;dsimp only;rcases h1 with h1|h1
  ·rw[h1,e _ _ h1];dsimp only;unfold gU;have e1:xs.all (bP H' m)=xs.all (bP H m):=by rw[GN,GK,GK];exact⟨λz x hx=>by rw[←kX e (h3 x hx)];exact z x hx,λz x hx=>by rw[kX e (h3 x hx)];exact z x hx⟩
   have e2:xs.map (dE H')=xs.map (dE H):=List.map_congr_left λx hx=>Bo e (h3 x hx);rw[e1,e2]
  ·rw[h1,e _ _ h1]
 | _=>rfl
def CG{H H':Hp}{v:V}(e:Ext H H')(h:bw H 4 v):cZ H' v=cZ H v:=by
 cases v with
 | ref p=>
  obtain⟨xs,h1,_,h3⟩:=h;unfold cZ;dsimp only;rcases h1 with h1|h1
  ·rw[h1,e _ _ h1];dsimp only;unfold dS;split
   ·rename_i m q _hl;rw[CY e (h3 q (by simp))]
   ·rfl
  ·rw[h1,e _ _ h1]
 | _=>rfl
def di(H:Hp)(v:V):Prop:=bw H 4 v/\cZ H v=false
def di.ext{H H':Hp}{v:V}(e:Ext H H')(h:di H v):di H' v:=⟨h.1.ext e,(CG e h.1).trans h.2⟩
def Ref(K:F6)(H:Hp)(E:XK):Prop:=∀H',Ext H H'->E (.ref (cA K "NoHouse")) none H'
def fC(K:F6):Sp:=λvs H Q E=>∃v,vs=[v]/\bw H 4 v/\∀H',Ext H H'->if cZ H v=true then Q .non H' else E (.ref (cA K "NoHouse")) none H'
abbrev mi:Stmt:=stq 29
def wy:FnScope ["thing"] ["thing"] (aJ mi):=⟨rfl,rfl,rfl,by decide +kernel,rfl,by decide +kernel,by decide +kernel⟩
def Ai{P:Program}{w:World}{K:F6}{mg:Str->Option Value}{base:Heap}(D:Dfn K mg "refuse_no_house" mi ["thing"])(T:Blt mg)(XF:Xf K mg base jz jA)(C_is_house:Cal P w K mg base "is_house" 5 ["thing"] (rj K)):CalX P w K mg base "refuse_no_house" 6 ["thing"] (fC K):=by
 have nd:=(wy).nd;refine D.okX wy (λvs H Q E h=>?_) (λf cdv A outer s H vs Q E hr h=>?_)
 ·obtain⟨v,rfl,_⟩:=h;rfl
 ·obtain⟨v,rfl,ht,q⟩:=h;refine⟨_,(aq (bM (fX (cC (aE C_is_house hr (aa (pv 0) ae)))) (aq (nB (XF.own "NoHouse" (by decide +kernel)) PySem.F.excBase_ValueError (aa aF ae))) bf)),?_⟩;walk_at"";refine⟨v,rfl,ht,λH1 e1=>?_⟩;have q1:=q H1 e1;walk_at"";cases hv:cZ H v with
  | true=>
   rw[hv,Hf rfl]at q1;refine aC ?_;walk_at"";exact q1
  | false=>
   rw[hv,He Gr]at q1;refine ay ?_;walk_at"";exact⟨bN (by simp),q1⟩
def refuses{K:F6}{H:Hp}{v:V}{Q:VK}{E:XK}(hv:di H v)(q:Ref K H E):fC K [v] H Q E:=
 ⟨v,rfl,hv.1,λH1 e1=>by rw[hv.2];exact aC (q H1 e1)⟩
def uG{H:Hp}{v:V}{m:Int}{ws:List Way}(hv:aY H v m ws)(ok:HOuse m ws):bw H 4 v/\cZ H v=true:=by obtain⟨p,q,bs,rfl,h1,h2,h3,h4,h5⟩:=xC hv ok;have hfew:=ok.few;have t2:bw H 2 (.ref q):=cW h2 (by rw[Ga,h3];omega) h5;exact⟨cW h1 (by simp) (.cons (cR _ _ _) (.cons t2.up (.nil _ _))),(FP h1 h2 h4 ok.m1 ok.m12 ok.ok ok.nd).trans (Hd ok.few)⟩
def accepts{K:F6}{H:Hp}{v:V}{m:Int}{ws:List Way}{Q:VK}{E:XK}(hv:aY H v m ws)(ok:HOuse m ws)(q:∀H',Ext H H'->Q .non H'):fC K [v] H Q E:=
 ⟨v,rfl,(uG hv ok).1,λH1 e1=>by rw[(uG hv ok).2];exact ay (q H1 e1)⟩
def dj(K:F6)(H:Hp)(E:XK)(c:Str):Prop:=∀H',Ext H H'->E (.ref (cA K c)) none H'
def dj.ext{K:F6}{H H':Hp}{E:XK}{c:Str}(e:Ext H H')(h:dj K H E c):dj K H' E c:=λJ eJ=>h J (e.trans eJ)
def xu(m p:Int):cJ m (.int p)=true↔0<=p/\p<m:=by unfold cJ;simp
def gh(z:Str):Str:=if z = "up" then "down" else if z = "down" then "up" else z
def Fw{z:Str}(h:bK z):bI jh (.inr z)=some (.str (gh z)):=by rcases h with rfl|rfl|rfl|rfl<;>decide +kernel
def Way.turn(w:Way):Way:=⟨w.other,gh w.deed,w.room,w.sign⟩
def AK{z:Str}(h:bK z):bK (gh z):=by
 rcases h with rfl|rfl|rfl|rfl
 ·exact .inr (.inl (by decide +kernel))
 ·exact .inl (by decide +kernel)
 ·exact .inr (.inr (.inl (by decide +kernel)))
 ·exact .inr (.inr (.inr (by decide +kernel)))
def DC{z:Str}(h:bK z):gh (gh z)=z:=by rcases h with rfl|rfl|rfl|rfl<;>decide +kernel
def Way.turn_turn{m:Int}{w:Way}(h:w.Ok m):w.turn.turn=w:=by obtain⟨a,b,c,d⟩:=w;show(⟨a,gh (gh b),c,d⟩:Way)=_;rw[DC h.dd]
def Way.Ok.turn{m:Int}{w:Way}(h:w.Ok m):w.turn.Ok m:=⟨h.o0,h.o1,h.r0,h.r1,AK h.dd,h.sg⟩
def HOuse.turn{m:Int}{ws:List Way}(h:HOuse m ws):HOuse m (ws.map Way.turn) where
 m1:=h.m1
 m12:=h.m12
 few:=by rw[Ga];exact h.few
 ok:=λw hw=>by obtain⟨u,hu,rfl⟩:=List.mem_map.mp hw;exact(h.ok u hu).turn
 nd:=by have nd:=h.nd;unfold List.Nodup at nd ⊢;rw[List.pairwise_map];refine nd.imp_of_mem λ{a b} ha hb ne e=>ne ?_;rw[←Way.turn_turn (h.ok a ha),←Way.turn_turn (h.ok b hb),e]
def wm(K:F6):Sp:=λvs H Q _=>∃p w,vs=[.ref p]/\H p=some (.tup (Way.vs w))/\bK w.deed/\∀v H',Ext H H'->H' v=some (.tup (Way.vs w.turn))->Q (.ref v) H'
abbrev ph:Stmt:=stq 31
def tF:FnScope ["way"] ["way"] (aJ ph):=⟨rfl,rfl,rfl,by decide +kernel,rfl,by decide +kernel,by decide +kernel⟩
def Cm{P:Program}{w:World}{K:F6}{mg:Str->Option Value}{base:Heap}(D:Dfn K mg "turned_way" ph ["way"])(T:Blt mg)(g_TURNED:∃a,mg "TURNED" = some (.ref a)/\GDict w K a jh):Cal P w K mg base "turned_way" 1 ["way"] (wm K):=by
 have nd:=(tF).nd;refine D.ok tF (λvs H Q E h=>?_) (λX hX H vs Q E h=>?_)
 ·obtain⟨p,w,rfl,_⟩:=h;rfl
 ·obtain⟨f,cdv,A,outer,s,H0,E0,rfl,hr⟩:=hX;obtain⟨a_TURNED,m_TURNED,d_TURNED⟩:=g_TURNED;obtain⟨p,w,rfl,hp,od,q⟩:=h;refine⟨_,(aq (aI (aT (aa (ah (aA K) (pv 0) af (λ_ _=>rfl)) (aa (yB rfl m_TURNED d_TURNED (ah (aA K) (pv 0) af (λ_ _=>rfl)) (λ_ _=>rfl)) (aa (ah (aA K) (pv 0) af (λ_ _=>rfl)) (aa (ah (aA K) (pv 0) af (λ_ _=>rfl)) ae))))))),?_⟩;walk_at"";refine aB (aj.of hp) (v:=.int w.other) rfl ?_;walk_at"";refine aB (aj.of hp) (v:=.str w.deed) rfl ?_;walk_at"";refine vR (Fw od) ?_;walk_at"";refine aB (aj.of hp) (v:=.int w.room) rfl ?_;walk_at"";refine aB (aj.of hp) (v:=.str w.sign) rfl ?_;walk_at"";exact⟨bN (by simp),cc λv H' e hv _=>q v H' e hv⟩
def mP(K:F6):Sp:=λvs H Q E=>∃v,vs=[v]/\((di H v/\Ref K H E)\/∃m ws,aY H v m ws/\HOuse m ws/\∀u H',Ext H H'->aY H' u m (List.map Way.turn ws)->Q u H')
abbrev pV:Stmt:=stq 32
def uF:FnScope ["house"] ["house"] (aJ pV):=⟨rfl,rfl,rfl,by decide +kernel,rfl,by decide +kernel,by decide +kernel⟩
def BY{P:Program}{w:World}{K:F6}{mg:Str->Option Value}{base:Heap}(D:Dfn K mg "turned_about" pV ["house"])(T:Blt mg)(C_turned_way:Cal P w K mg base "turned_way" 1 ["way"] (wm K))(CX_refuse_no_house:CalX P w K mg base "refuse_no_house" 6 ["thing"] (fC K)):CalX P w K mg base "turned_about" 7 ["house"] (mP K):=by
 have nd:=(uF).nd;refine D.okX uF (λvs H Q E h=>?_) (λf cdv A outer s H vs Q E hr h=>?_)
 ·obtain⟨v,rfl,_⟩:=h;rfl
 ·obtain⟨v,rfl,h⟩:=h;refine⟨_,(ai (br (fK CX_refuse_no_house hr (aa (pv 0) ae)))
    (aq (qL (aI (aT (aa (ah (aA K) (pv 0) af (λ_ _=>rfl)) (aa (gH (jH K) rfl T.tuple_ PyProof.Rows.boot_tuple (aa (eC ["way"] [] (jX K (ah (aA K) (pv 0) af (λ_ _=>rfl))) (λ_=>(aR (i:=0) (show(["way"]:List Str).Nodup from by decide +kernel) rfl (Or.inl rfl) (Or.inr rfl))) (λ_=>fJ) (λ_=>(aE C_turned_way hr (aa (pv 0) ae)))) ae)) ae))))))),?_⟩
  walk_at"";rcases h with⟨hno,href⟩|⟨m,ws,h1,ok,q⟩
  ·exact refuses hno href
  have hfew:=ok.few;refine accepts h1 ok λH1 e1=>?_;obtain⟨p,r,rfl,g1,g2⟩:=h1.ext e1;obtain⟨bs,g3,al⟩:=ck.al g2;walk_at"";refine aB (aj.of g1) (v:=.int m) rfl ?_;walk_at"";refine aB (aj.of g1) (v:=.ref r) rfl ?_;refine kM (aj.of g3) ?_;refine mY (xs:=bs.map V.ref) (λi ys H'=>Ext H1 H'/\∃cs,ys=cs.map V.ref/\aM H' cs ((ws.take i).map Way.turn)) (f6 (by rw[Ga,al.1];omega)) ⟨Ext.rfl' _,[],rfl,aM.nil _⟩ (λi ys H' hi h=>⟨aj.of (h.1 _ _ g3),?_⟩) ?_ ?_
  ·obtain⟨_,cs,rfl,hc,_⟩:=h;rw[Ga,hc,Ga,GZ];exact Nat.min_le_left _ _
  ·rintro i x ys H' hx ⟨e2,cs,rfl,al2⟩;rw[Gd]at hx;obtain⟨b,hb,rfl⟩:=Gn.mp hx;have hi:i<ws.length:=by rw[←al.1];exact(Gj.mp hb).1
   have hwi:ws[i]?=some ws[i]:=Gb hi;walk_at"";refine ay ?_;walk_at"";refine⟨b,ws[i],rfl,e2 _ _ (al.2 i b _ hb hwi),(ok.ok _ (GD hi)).dd,λv H3 e3 hv=>?_⟩;refine⟨e2.trans e3,cs++[v],by rw[Gs];rfl,?_⟩;rw[List.take_add_one,hwi,Gs];exact(al2.ext e3).snoc hv
  ·rintro ys H' l ⟨e2,cs,rfl,al2⟩ hl;rw[Ga,al.1,GG]at al2;walk_at"";have e3:Ext H1 (upd H' l (.lst (cs.map V.ref))):=e2.trans (bO hl);have al3:=al2.ext (bO (o:=.lst (cs.map V.ref)) hl);have hl3:upd H' l (.lst (cs.map V.ref)) l=some (.lst (cs.map V.ref)):=aO;generalize upd H' l (.lst (cs.map V.ref))=H4 at e3 al3 hl3 ⊢;refine jG (ag.of hl3) (cc λt H5 e5 ht _=>?_);walk_at"";refine aw λu H6 e6 hu _=>?_;exact q _ H6 (e1.trans (e3.trans (e5.trans e6))) (aY.mk hu (((al3.ext e5).ways ht).ext e6))
def jQ{a b:Str}:decide (V.str a=V.str b)=decide (a=b):=by
 by_cases h:a=b
 ·subst h;simp
 ·rw[Hc h,Hc (λz=>h (V.str.inj z))]
def mC{a b:Str}{H:Hp}{Q:VK}(h:Q (.bl (decide (a=b))) H):jg (.str a) (.str b) H Q:=⟨rfl,by rw[jQ];exact h⟩
def uB{a b:Str}{H:Hp}{Q:VK}(h:Q (.bl (!decide (a=b))) H):kH (.str a) (.str b) H Q:=⟨rfl,by rw[jQ];exact h⟩
def eZ{α β:Type}{F:α->β->Prop}{cs:List α}{ts:List β}(h:Paired F cs ts):∀{i:Nat} {c:α},cs[i]?=some c->∃t,ts[i]?=some t/\F c t:=by
 induction h with
 | nil=>intro i c e;simp at e
 | cons h t ih=>
  intro i c e;cases i with
  | zero=>cases e;exact⟨_,rfl,h⟩
  | succ i=>exact ih e
def xO{α β:Type}{F:α->β->Prop}{cs:List α}{ts:List β}(h:Paired F cs ts):∀{i:Nat} {t:β},ts[i]?=some t->∃c,cs[i]?=some c/\F c t:=by
 induction h with
 | nil=>intro i c e;simp at e
 | cons h t ih=>
  intro i c e;cases i with
  | zero=>cases e;exact⟨_,rfl,h⟩
  | succ i=>exact ih e
abbrev ao(H:Hp)(a:Addr)(x:Bfs.Pl):Prop:=H a=some (.tup [.int x.1,.int x.2])
abbrev bj(x:Bfs.Pl):List Key:=[.inl x.1,.inl x.2]
def wC{x y:Bfs.Pl}(h:bj x=bj y):x=y:=by simp only[bj,List.cons.injEq,Sum.inl.injEq,and_true]at h;exact Prod.ext h.1 h.2
def ao.put{H:Hp}{f a:Addr}{x:Bfs.Pl}{o o':HO}(hf:H f=some o)(hn:∀xs,o≠.tup xs)(h:ao H a x):ao (upd H f o') a x:=by show upd H f o' a=_;rw[az (cK h hf (λz=>hn _ z.symm))];exact h
def qA(m:Int)(x:Bfs.Pl):Prop:=0<=x.1/\x.1<m/\0<=x.2/\x.2<=1000
def okPl(m:Int)(x:Bfs.Pl):Prop:=0<=x.1/\x.1<m/\0<=x.2
def se(K:F6)(m:Int)(xs:List Bfs.Pl)(H:Hp)(Q:Hp->Prop)(E:XK):Prop:=
 ((∃x∈xs,¬okPl m x)/\dj K H E "NoPlace")\/((∀x∈xs,okPl m x)/\(∃x∈xs,1000<x.2)/\dj K H E "TooGreat")\/((∀x∈xs,qA m x)/\Q H)
def lF(K:F6):Sp:=λvs H Q E=>∃hp hq m l as xs,vs=[.ref hp,.ref l]/\H hp=some (.tup [.int m,hq])/\H l=some (.lst (List.map V.ref as))/\Paired (ao H) as xs/\se K m xs H (Q .non) E
abbrev nK:Stmt:=stq 30
def xJ:FnScope ["house","places","place"] ["house","places"] (aJ nK):=⟨rfl,rfl,rfl,by decide +kernel,rfl,by decide +kernel,by decide +kernel⟩
def Bd{P:Program}{w:World}{K:F6}{mg:Str->Option Value}{base:Heap}(D:Dfn K mg "refuse_bad_places" nK ["house","places"])(T:Blt mg)(g_GREATEST_NUMBER:∃t,mg "GREATEST_NUMBER" = some (.int 1000 t))(XF:Xf K mg base jz jA)(C_is_room:Cal P w K mg base "is_room" 2 ["thing","many"] (nN K)):CalX P w K mg base "refuse_bad_places" 3 ["house","places"] (lF K):=by
 have nd:=(xJ).nd;refine D.okX xJ (λvs H Q E h=>?_) (λf cdv A outer s H vs Q E hr h=>?_)
 ·obtain⟨hp,hq,m,l,as,xs,rfl,_⟩:=h;rfl
 ·obtain⟨t_GREATEST_NUMBER,c_GREATEST_NUMBER⟩:=g_GREATEST_NUMBER;obtain⟨hp,hq,m,l,as,xs,rfl,h1,h2,h3,q⟩:=h;have hln:=Paired.length h3;refine⟨_,(ai (bD PassesOwn.leaving rfl (cj K (pv 1)) (aR (i:=2) nd rfl (Or.inl rfl)) (aq (bM (PW.pt (dX (fX (cC (aE C_is_room hr (aa (ah (aA K) (pv 2) af (λ_ _=>rfl)) (aa (ah (aA K) (pv 0) af (λ_ _=>rfl)) ae))))) (dZ (aS gL (ah (aA K) (pv 2) af (λ_ _=>rfl)) af (aP _))))) (aq (nB (XF.own "NoPlace" (by decide +kernel)) PySem.F.excBase_ValueError (aa aF ae))) bf)))
    (aq (bD PassesOwn.leaving rfl (cj K (pv 1)) (aR (i:=2) nd rfl (Or.inl rfl)) (aq (bM (aS iN (ah (aA K) (pv 2) af (λ_ _=>rfl)) (cY (v:=.int 1000) rfl c_GREATEST_NUMBER ⟨_,rfl⟩) (aP _)) (aq (nB (XF.own "TooGreat" (by decide +kernel)) PySem.F.excBase_ValueError (aa (yK (cY (v:=.int 1000) rfl c_GREATEST_NUMBER ⟨_,rfl⟩)) ae))) bf))))),?_⟩
  walk_at"";refine cb (ag.of h2) ?_;refine forL (xs:=List.map V.ref as) (λi σ H'=>H'=H/\(∃k,σ=[some (.ref hp),some (.ref l),k])/\∀j y,j<i->xs[j]?=some y->okPl m y) ⟨rfl,⟨none,rfl⟩,λj y h=>by omega⟩ (λi σ H' _ h=>by rw[h.1];exact ag.of h2) ?_ ?_
  ·rintro i x σ H' hx ⟨rfl,⟨k,rfl⟩,hok⟩;rw[Gd]at hx;obtain⟨b,hb,rfl⟩:=Gn.mp hx;obtain⟨t,ht,hp3⟩:=eZ h3 hb;walk_at"";refine aB (aj.of hp3) (v:=.int t.1) rfl ?_;walk_at"";refine aB (aj.of h1) (v:=.int m) rfl ?_;walk_at"";refine⟨_,_,"int",rfl,rfl,?_⟩;have bad:¬okPl m t->E (.ref (cA K "NoPlace")) none H':=λhn=>by
    rcases q with⟨_,q⟩|⟨q,_⟩|⟨q,_⟩
    ·exact q _ (Ext.rfl' _)
    ·exact absurd (q t (Gk ht)) hn
    ·obtain⟨a,b,c,_⟩:=q t (Gk ht);exact absurd ⟨a,b,c⟩ hn
   cases hr:cJ m (.int t.1)with
   | false=>
    walk_at"";refine ay ?_;walk_at"";refine⟨bN (by simp),bad λz=>?_⟩;rw[(xu m t.1).mpr ⟨z.1,z.2.1⟩]at hr;cases hr
   | true=>
    obtain⟨r0,r1⟩:=(xu m t.1).mp hr;walk_at"";refine aC ?_;walk_at"";refine aB (aj.of hp3) (v:=.int t.2) rfl ?_;walk_at"";by_cases hn:t.2<0
    ·rw[Hd hn];refine ay ?_;walk_at"";refine⟨bN (by simp),bad λz=>?_⟩;have:=z.2.2;omega
    rw[Hc hn];refine aC ?_;walk_at"";refine⟨rfl,⟨_,rfl⟩,λj y hj hy=>?_⟩;by_cases hji:j=i
    ·subst hji;rw[ht]at hy;cases hy;exact⟨r0,r1,by omega⟩
    ·exact hok j y (by omega) hy
  ·rintro σ H' ⟨rfl,⟨k,rfl⟩,hok⟩;rw[Ga]at hok;have all:∀x∈xs,okPl m x:=λx hx=>by obtain⟨j,hj,e⟩:=List.mem_iff_getElem.mp hx;exact hok j x (by omega) (by rw[Gb hj,e])
   have q2:((∃x∈xs,1000<x.2)/\dj K H' E "TooGreat")\/((∀x∈xs,qA m x)/\Q .non H'):=by
    rcases q with⟨⟨x,hx,hn⟩,_⟩|⟨_,q⟩|q
    ·exact absurd (all x hx) hn
    ·exact .inl q
    ·exact .inr q
   clear q hok;walk_at"";refine cb (ag.of h2) ?_;refine forL (xs:=List.map V.ref as) (λi σ H2=>H2=H'/\(∃k,σ=[some (.ref hp),some (.ref l),k])/\∀j y,j<i->xs[j]?=some y->¬1000<y.2) ⟨rfl,⟨_,rfl⟩,λj y h=>by omega⟩ (λi σ H2 _ h=>by rw[h.1];exact ag.of h2) ?_ ?_
   ·rintro i x σ H2 hx ⟨rfl,⟨k,rfl⟩,hle⟩;rw[Gd]at hx;obtain⟨b,hb,rfl⟩:=Gn.mp hx;obtain⟨t,ht,hp3⟩:=eZ h3 hb;walk_at"";refine aB (aj.of hp3) (v:=.int t.2) rfl ?_;walk_at"";by_cases hn:(1000:Int)<t.2
    ·rw[Hd hn];refine ay ?_;walk_at"";refine⟨by decide,by decide +kernel,λz=>?_⟩;walk_at"";refine⟨bN (by simp),?_⟩;rcases q2 with⟨_,q⟩|⟨q,_⟩
     ·exact q _ (Ext.rfl' _)
     ·have:=(q t (Gk ht)).2.2.2;omega
    rw[Hc hn];refine aC ?_;walk_at"";refine⟨rfl,⟨_,rfl⟩,λj y hj hy=>?_⟩;by_cases hji:j=i
    ·subst hji;rw[ht]at hy;cases hy;exact hn
    ·exact hle j y (by omega) hy
   ·rintro σ H2 ⟨rfl,⟨k,rfl⟩,hle⟩;rw[Ga]at hle;walk_at"";rcases q2 with⟨⟨x,hx,hn⟩,_⟩|⟨_,q⟩
    ·obtain⟨j,hj,e⟩:=List.mem_iff_getElem.mp hx;exact absurd hn (hle j x (by omega) (by rw[Gb hj,e]))
    ·exact q
def cz(w:Way)(r n:Int):Bool:=decide (w.room=r) && (if decide (w.deed = "down")=true then decide (0<n)else(!decide (w.deed = "zero") || decide (n=0)))
def lN(K:F6):Sp:=λvs H Q _=>∃b w p x,vs=[.ref b,.ref p]/\H b=some (.tup (Way.vs w))/\ao H p x/\Q (.bl (cz w x.1 x.2)) H
abbrev pM:Stmt:=stq 33
def wD:FnScope ["way","place"] ["way","place"] (aJ pM):=⟨rfl,rfl,rfl,by decide +kernel,rfl,by decide +kernel,by decide +kernel⟩
def zr{P:Program}{w:World}{K:F6}{mg:Str->Option Value}{base:Heap}(D:Dfn K mg "is_open" pM ["way","place"])(T:Blt mg):Cal P w K mg base "is_open" 1 ["way","place"] (lN K):=by
 have nd:=(wD).nd;refine D.ok wD (λvs H Q E h=>?_) (λX hX H vs Q E h=>?_)
 ·obtain⟨b,w,p,x,rfl,_⟩:=h;rfl
 ·obtain⟨f,cdv,A,outer,s,H0,E0,rfl,hr⟩:=hX;obtain⟨b,w,p,⟨r,n⟩,rfl,h1,h2,q⟩:=h;refine⟨_,(ai (bM (aS cE (ah (aA K) (pv 0) af (λ_ _=>rfl)) (ah (aA K) (pv 1) af (λ_ _=>rfl)) (aP _)) (aq (aI bL)) bf)
    (ai (bM (aS b6 (ah (aA K) (pv 0) af (λ_ _=>rfl)) aF (aP _)) (aq (aI (fb iN (ah (aA K) (pv 1) af (λ_ _=>rfl)) af (aP _)))) bf)
    (aq (aI (sq (fb cE (ah (aA K) (pv 0) af (λ_ _=>rfl)) aF (aP _)) (eO (fb b6 (ah (aA K) (pv 1) af (λ_ _=>rfl)) af (aP _)))))))),?_⟩
  walk_at"";refine aB (aj.of h1) (v:=.int w.room) rfl ?_;walk_at"";refine aB (aj.of h2) (v:=.int r) rfl ?_;walk_at"";unfold cz at q;dsimp only at q;by_cases e:w.room=r
  ·rw[Hd e];refine aC ?_;walk_at"";rw[Hd e,Bool.true_and]at q;refine aB (aj.of h1) (v:=.str w.deed) rfl ?_;walk_at"";refine mC ?_;refine rd_exb ?_;cases ed:decide (w.deed = "down")with
   | true=>
    rw[ed]at q;refine ay ?_;walk_at"";refine aB (aj.of h2) (v:=.int n) rfl ?_;walk_at"";exact q
   | false=>
    rw[ed]at q;refine aC ?_;walk_at"";refine aB (aj.of h1) (v:=.str w.deed) rfl ?_;walk_at"";refine uB ?_;refine rd_exb ?_;cases ez:decide (w.deed = "zero")with
    | true=>
     rw[ez]at q;refine aC ?_;walk_at"";refine aB (aj.of h2) (v:=.int n) rfl ?_;walk_at"";exact q
    | false=>
     rw[ez]at q;exact ay q
  ·rw[Hc e];refine ay ?_;walk_at"";rw[Hc e,Bool.false_and]at q;exact q
def lW:List (Key×V):=[(.inr "up",.int 1),(.inr "down",.int (-1)),(.inr "stay",.int 0),(.inr "zero",.int 0)]
def zo{w:World}{K:F6}{a:Addr}{t1 t2 t3 t4 t5 t6 t7 t8:Tok}{ep:Nat}(h:K.lookup a=some (iQ w [("up",t1,.int 1 t2),("down",t3,.int (-1) t4),("stay",t5,.int 0 t6),("zero",t7,.int 0 t8)] ep))(hs:(a == sysModules)=false):GDict w K a lW:=
 ⟨⟨_,_,h,.cons ⟨rfl,⟨_,rfl⟩⟩ (.cons ⟨rfl,⟨_,rfl⟩⟩ (.cons ⟨rfl,⟨_,rfl⟩⟩ (.cons ⟨rfl,⟨_,rfl⟩⟩ .nil)))⟩,by decide +kernel,hs⟩
def rz(z:Str):Int:=if z = "up" then 1 else if z = "down" then -1 else 0
def ET{z:Str}(h:bK z):bI lW (.inr z)=some (.int (rz z)):=by rcases h with rfl|rfl|rfl|rfl<;>decide +kernel
def uh(K:F6):Sp:=λvs H Q _=>∃b w,vs=[.ref b]/\H b=some (.tup (Way.vs w))/\bK w.deed/\Q (.int (rz w.deed)) H
abbrev nM:Stmt:=stq 34
def xh:FnScope ["way"] ["way"] (aJ nM):=⟨rfl,rfl,rfl,by decide +kernel,rfl,by decide +kernel,by decide +kernel⟩
def De{P:Program}{w:World}{K:F6}{mg:Str->Option Value}{base:Heap}(D:Dfn K mg "raised_by" nM ["way"])(T:Blt mg)(g_RAISED:∃a,mg "RAISED" = some (.ref a)/\GDict w K a lW):Cal P w K mg base "raised_by" 1 ["way"] (uh K):=by
 have nd:=(xh).nd;refine D.ok xh (λvs H Q E h=>?_) (λX hX H vs Q E h=>?_)
 ·obtain⟨b,w,rfl,_⟩:=h;rfl
 ·obtain⟨f,cdv,A,outer,s,H0,E0,rfl,hr⟩:=hX;obtain⟨a_RAISED,m_RAISED,d_RAISED⟩:=g_RAISED;obtain⟨b,w,rfl,h1,hd,q⟩:=h;refine⟨_,(aq (aI (yB rfl m_RAISED d_RAISED (ah (aA K) (pv 0) af (λ_ _=>rfl)) (λ_ _=>rfl)))),?_⟩;walk_at"";refine aB (aj.of h1) (v:=.str w.deed) rfl ?_;exact vR (ET hd) q
def oj(K:F6):Sp:=λvs H Q _=>∃b w p x,vs=[.ref b,.ref p]/\H b=some (.tup (Way.vs w))/\bK w.deed/\ao H p x/\∀t H',Ext H H'->ao H' t (w.other,x.2+rz w.deed)->H t=none->Q (.ref t) H'
abbrev o6:Stmt:=stq 35
def wQ:FnScope ["way","place"] ["way","place"] (aJ o6):=⟨rfl,rfl,rfl,by decide +kernel,rfl,by decide +kernel,by decide +kernel⟩
def zw{P:Program}{w:World}{K:F6}{mg:Str->Option Value}{base:Heap}(D:Dfn K mg "led_to" o6 ["way","place"])(T:Blt mg)(C_raised_by:Cal P w K mg base "raised_by" 1 ["way"] (uh K)):Cal P w K mg base "led_to" 2 ["way","place"] (oj K):=by
 have nd:=(wQ).nd;refine D.ok wQ (λvs H Q E h=>?_) (λX hX H vs Q E h=>?_)
 ·obtain⟨b,w,p,x,rfl,_⟩:=h;rfl
 ·obtain⟨f,cdv,A,outer,s,H0,E0,rfl,hr⟩:=hX;obtain⟨b,w,p,⟨r,n⟩,rfl,h1,hd,h2,q⟩:=h;refine⟨_,(aq (aI (aT (aa (ah (aA K) (pv 0) af (λ_ _=>rfl)) (aa (av aU (ah (aA K) (pv 1) af (λ_ _=>rfl)) (aE C_raised_by hr (aa (pv 0) ae))) ae))))),?_⟩;walk_at"";refine aB (aj.of h1) (v:=.int w.other) rfl ?_;walk_at"";refine aB (aj.of h2) (v:=.int n) rfl ?_;walk_at"";refine⟨b,w,rfl,h1,hd,?_⟩;walk_at"";refine aw λt H1 e1 ht htn=>?_;exact q t H1 e1 ht htn
abbrev bx(m:Int)(x:Bfs.Pl):Prop:=qA m x
def E4{K:F6}{a:Addr}{xs:List V}{g:TG}{tb:TS}{D:Ends}{σ:St}{H:Hp}(Pv:Nat->St->Hp->Prop)(h0:Pv 0 σ H)(hl:∀i σ H,i<=xs.length->Pv i σ H->aj K H a xs)
  (hs:∀i u σ H p H',xs[i]?=some u->Pv i σ H->Ext H H'->H' p=some (.tup [.int i,u])->H p=none->g (.ref p) σ H' λσ2 H2=>tb { D with nx:=Pv (i+1),ct:=Pv (i+1),bk:=D.nx } σ2 H2) (hd:∀σ H,Pv xs.length σ H->D.nx σ H) :
  jv (gy K a) g tb D σ H:=BX Pv h0 hl hs hd
def du(z:Str)(n:Int):Option Int:=
 if decide (z = "up")=true then some (n+1)else if decide (z = "down")=true then(if decide (0<n)=true then some (n-1)else none)else if decide (z = "stay")=true then some n else if decide (z = "zero")=true then(if decide (n=0)=true then some n else none)else none
def Ca:decide ((GP "up")=GP "down")=false:=by decide +kernel
def Bu:decide ((GP "up")=GP "zero")=false:=by decide +kernel
def Dv:decide ((GP "down")=GP "up")=false:=by decide +kernel
def zK:decide ((GP "stay")=GP "up")=false:=by decide +kernel
def wx:decide ((GP "stay")=GP "down")=false:=by decide +kernel
def EF:decide ((GP "zero")=GP "up")=false:=by decide +kernel
def rF:decide ((GP "zero")=GP "down")=false:=by decide +kernel
def FO:decide ((GP "zero")=GP "stay")=false:=by decide +kernel
def iM(z:Str):decide (z=z)=true:=Hd rfl
def ma(n:Int):du "up" n=some (n+1):=by unfold du;rw[iM];rfl
def nI(n:Int):du "down" n=if decide (0<n)=true then some (n-1)else none:=by unfold du;rw[Dv,iM];rfl
def qp(n:Int):du "stay" n=some n:=by unfold du;rw[zK,wx,iM];rfl
def lR(n:Int):du "zero" n=if decide (n=0)=true then some n else none:=by unfold du;rw[EF,rF,FO,iM];rfl
def FG{α:Type}{l:List α}(hn:l.Nodup){i j:Nat}{a:α}(hi:l[i]?=some a)(hj:l[j]?=some a):i=j:=by
 obtain⟨h1,e1⟩:=Gj.mp hi;obtain⟨h2,e2⟩:=Gj.mp hj;rcases Nat.lt_trichotomy i j with z|z|z
 ·exact absurd (e1.trans e2.symm) (List.pairwise_iff_getElem.mp hn i j h1 h2 z)
 ·exact z
 ·exact absurd (e2.trans e1.symm) (List.pairwise_iff_getElem.mp hn j i h2 h1 z)
def de(ws:List Way)(r:Int)(k:Nat):List Nat:=(Hb k).filter λj=>(ws[j]?).any λw=>decide (w.room=r)
def Ad{ws:List Way}{r:Int}{i:Nat}{w:Way}(h:ws[i]?=some w):de ws r (i+1)=de ws r i++if w.room=r then[i]else[]:=by
 unfold de;rw[List.range_succ,List.filter_append];congr 1;simp only[List.filter_cons,List.filter_nil,h,Option.any_some];by_cases e:w.room=r
 ·rw[Hd e,Hf rfl,Hf e]
 ·rw[Hc e,He (by decide),He e]
def zY(ws:List Way)(r:Int)(k:Nat):(de ws r k).length<=k:=by unfold de;exact GI (List.length_filter_le _ _) (Nat.le_of_eq List.length_range)
def AV{ws:List Way}{r:Int}{j:Nat}{w:Way}(h:ws[j]?=some w)(e:w.room=r):j∈de ws r ws.length:=by unfold de;rw[List.mem_filter,List.mem_range,h];exact⟨(Gj.mp h).1,by simp[e]⟩
def Fg{ws:List Way}{r:Int}{j:Nat}(h:j∈de ws r ws.length):∃w,ws[j]?=some w/\w.room=r:=by unfold de at h;rw[List.mem_filter,List.mem_range]at h;have e:=Gb h.1;rw[e]at h;exact⟨_,e,by simpa using h.2⟩
def gI{n:Nat}(h:n<=24100):n<sizeLine:=Nat.lt_of_le_of_lt h (by decide)
abbrev dC(l:List Nat):List V:=l.map λj:Nat=>V.int (j:Int)
def xD(l:List Nat)(k:Nat):dC (l++[k])=dC l++[.int (k:Int)]:=Gs
structure CT(H:Hp)(c:Addr)(m:Int)(ls:List Addr)(ws:List Way)(k:Nat):Prop where
 at_:H c=some (.lst (List.map V.ref ls))
 len:ls.length=m.toNat
 nd:ls.Nodup
 it:∀(r:Nat) (l:Addr),ls[r]?=some l->H l=some (.lst (dC (de ws r k)))
def CT.ext{H H':Hp}{c:Addr}{m:Int}{ls:List Addr}{ws:List Way}{k:Nat}(e:Ext H H')(h:CT H c m ls ws k):CT H' c m ls ws k:=
 ⟨e _ _ h.at_,h.len,h.nd,λr l hl=>e _ _ (h.it r l hl)⟩
def sv(K:F6):Sp:=λvs H Q _=>∃v m ws,vs=[v]/\aY H v m ws/\HOuse m ws/\∀c ls H',Ext H H'->CT H' c m ls ws ws.length->Q (.ref c) H'
abbrev my:Stmt:=stq 56
def wK:FnScope ["house","counts","count","way"] ["house"] (aJ my):=⟨rfl,rfl,rfl,by decide +kernel,rfl,by decide +kernel,by decide +kernel⟩
def Az{P:Program}{w:World}{K:F6}{mg:Str->Option Value}{base:Heap}(D:Dfn K mg "counts_by_room" my ["house"])(T:Blt mg):Cal P w K mg base "counts_by_room" 1 ["house"] (sv K):=by
 have nd:=(wK).nd;refine D.ok wK (λvs H Q E h=>?_) (λX hX H vs Q E h=>?_)
 ·obtain⟨v,m,ws,rfl,_⟩:=h;rfl
 ·obtain⟨f,cdv,A,outer,s,H0,E0,rfl,hr⟩:=hX;obtain⟨v,m,ws,rfl,⟨hh,t,rfl,g1,g2⟩,ok,q⟩:=h;obtain⟨bs,g3,al⟩:=ck.al g2;have hfew:=ok.few;have m1:=ok.m1;have m2:=ok.m12;refine⟨_,(ai (ic (i:=1) ["room"] [] nd rfl (Or.inl rfl) (cq rfl T.range_ (aa (ah (aA K) (pv 0) af (λ_ _=>rfl)) ae)) (λ_=>(aR (i:=0) (show(["room"]:List Str).Nodup from by decide +kernel) rfl (Or.inl rfl) (Or.inr rfl))) (λ_=>fJ) (λ_=>(aZ ae)))
    (ai (bD PassesOwn.never rfl (Ey K rfl T.enumerate_ (aa (ah (aA K) (pv 0) af (λ_ _=>rfl)) ae)) (kB (n:=2) K rfl (cQ (aR (i:=2) nd rfl (Or.inl rfl)) (cQ (aR (i:=3) nd rfl (Or.inl rfl)) hG))) (aq (br (bG K Gi Gx Gy bT (ah (aH K) (pv 1) (ah (aA K) (pv 3) af (λ_ _=>rfl)) (λ_ _=>rfl)) (aa (pv 2) ae)))))
    (aq (aI (pv 1))))),?_⟩
  walk_at"";refine aB (aj.of g1) (v:=.int m) rfl ?_;walk_at"";refine cw ⟨by omega,by omega⟩ ?_;refine fz (λi ys H'=>Ext H H'/\∃ls:List Addr,ys=List.map V.ref ls/\ls.length=i/\ls.Nodup/\∀l∈ls,H' l=some (.lst [])/\H l=none) (f6 (by omega)) ⟨Ext.rfl' _,[],rfl,rfl,List.nodup_nil,λl h=>by cases h⟩ (λi ys H' _ h=>by obtain⟨_,ls,rfl,hl,_⟩:=h;rw[Ga,hl];exact Gw _) ?_ ?_
  ·rintro i ys H' hi ⟨e,ls,rfl,hl,hnd,hls⟩;walk_at"";refine ay ?_;walk_at"";refine aw λl H1 e1 hl1 hln=>?_;refine⟨e.trans e1,ls++[l],by rw[Gs];rfl,by rw[Gu,hl];rfl,?_,?_⟩
   ·rw[List.nodup_append];refine⟨hnd,by simp,λa ha b hb z=>?_⟩;have:b=l:=by simpa using hb
    subst this;subst z;rw[(hls a ha).1]at hln;cases hln
   ·intro a ha;rcases Gz.mp ha with z|z
    ·exact⟨e1 _ _ (hls a z).1,(hls a z).2⟩
    ·have:a=l:=by simpa using z
     subst this;exact⟨hl1,e.none hln⟩
  ·rintro ys H1 c ⟨e,ls,rfl,hl,hnd,hls⟩ hc;walk_at"";have eN:Ext H (upd H1 c (.lst (List.map V.ref ls))):=e.trans (bO hc);have hcH:H c=none:=e.none hc;have ct0:CT (upd H1 c (.lst (List.map V.ref ls))) c m ls ws 0:=⟨aO,hl,hnd,λr l hl=>by have:=(hls l (Gk hl)).1;rw[az (bW this hc)];exact this⟩
   have hcl:∀l∈ls,H l=none:=λl h=>(hls l h).2;generalize upd H1 c (.lst (List.map V.ref ls))=H2 at eN ct0 ⊢;clear hls hc e H1;refine aB (aj.of (eN _ _ g1)) (v:=.ref t) rfl ?_;walk_at"";refine AZ (aj.of (eN _ _ g3)) ?_;refine E4 (xs:=bs.map V.ref) (λi σ H'=>∃k1 k2,σ=[some (.ref hh),some (.ref c),k1,k2]/\Ext H H'/\CT H' c m ls ws i) ⟨none,none,rfl,eN,ct0⟩ (λi σ H' _ h=>by obtain⟨_,_,_,e,_⟩:=h;exact aj.of (e _ _ g3)) ?_ ?_
   ·rintro i u σ H3 pp H4 hu ⟨k1,k2,rfl,e3,ct3⟩ e4 hpp _;rw[Gd]at hu;obtain⟨b,hb,rfl⟩:=Gn.mp hu;have hi:i<ws.length:=by rw[←al.1];exact(Gj.mp hb).1
    have hwi:ws[i]?=some ws[i]:=Gb hi;have e34:=e3.trans e4;have ct:=ct3.ext e4;have okw:=ok.ok _ (GD hi);have hw:=e34 _ _ (al.2 i b _ hb hwi);have csu:=λr:Nat=>Ad (r:=(r:Int)) hwi;clear ct3;generalize ws[i]=w at hw okw csu hwi;have r0:=okw.r0;have r1:=okw.r1;have hlr:w.room.toNat<ls.length:=by rw[ct.len];omega
    have hlg:ls[w.room.toNat]?=some ls[w.room.toNat]:=Gb hlr;generalize ls[w.room.toNat]=l at hlg;have hl:=ct.it _ _ hlg;have hlen:=zY ws (w.room.toNat:Nat) i;refine ke (aj.of hpp) rfl ?_;walk_at"";refine aB (aj.of hw) (v:=.int w.room) rfl ?_;refine aG (ag.of ct.at_) (v:=.ref l) ?_ ?_
    ·refine eG r0 ?_;rw[Gd,hlg];rfl
    refine⟨bZ (ag.of hl),?_⟩;walk_at"";refine bR hl (dz (by rw[Ga];omega)) ?_;have lc:l≠c:=cK hl ct.at_ (λz=>by
     have z':=HO.lst.inj z;have hlc:=congrArg List.length z';cases hcn:de ws (w.room.toNat:Nat) i with
     | nil=>
      rw[hcn]at hlc;rw[Ga,Ga]at hlc;have:ls.length=0:=hlc.symm;omega
     | cons a r=>
      rw[hcn]at z';cases ls with
      | nil=>cases z'
      | cons x y=>cases(List.cons.inj z').1)
    walk_at"";refine⟨_,_,rfl,cG e34 (hcl l (Gk hlg)),?_⟩;refine⟨by rw[az lc.symm];exact ct.at_,ct.len,ct.nd,λr l' hl'=>?_⟩;rw[csu r];by_cases er:r=w.room.toNat
    ·subst er;rw[hlg]at hl';cases hl';rw[aO,Hf (by omega),xD]
    ·have nl:l'≠l:=λz=>er (by subst z;exact FG ct.nd hl' hlg)
     rw[az nl,He (by omega),List.append_nil];exact ct.it r l' hl'
   ·rintro σ H' ⟨k1,k2,rfl,e3,ct⟩;rw[Ga,al.1]at ct;walk_at"";exact q c ls H' e3 ct
def dP(m:Int)(x g:Bfs.Pl):Int:=(if g.2>x.2 then g.2 else x.2)+m*m
def wZ(K:F6):Sp:=λvs H Q _=>∃v m ws a b x g,vs=[v,.ref a,.ref b]/\aY H v m ws/\HOuse m ws/\ao H a x/\ao H b g/\Q (.int (dP m x g)) H
abbrev nV:Stmt:=stq 57
def r6:FnScope ["house","place","goal"] ["house","place","goal"] (aJ nV):=⟨rfl,rfl,rfl,by decide +kernel,rfl,by decide +kernel,by decide +kernel⟩
def DY{P:Program}{w:World}{K:F6}{mg:Str->Option Value}{base:Heap}(D:Dfn K mg "greatest_met" nV ["house","place","goal"])(T:Blt mg):Cal P w K mg base "greatest_met" 1 ["house","place","goal"] (wZ K):=by
 have nd:=(r6).nd;refine D.ok r6 (λvs H Q E h=>?_) (λX hX H vs Q E h=>?_)
 ·obtain⟨v,m,ws,a,b,x,g,rfl,_⟩:=h;rfl
 ·obtain⟨f,cdv,A,outer,s,H0,E0,rfl,hr⟩:=hX;obtain⟨v,m,ws,a,b,x,g,rfl,⟨hh,t,rfl,g1,g2⟩,ok,hx,hg,q⟩:=h;have m1:=ok.m1;have m2:=ok.m12;refine⟨_,(aq (aI (av aU (bt (DG rfl) rfl T.max_ PyProof.Rows.boot_max (aa (ah (aA K) (pv 1) af (λ_ _=>rfl)) (aa (ah (aA K) (pv 2) af (λ_ _=>rfl)) ae))) (av eR (ah (aA K) (pv 0) af (λ_ _=>rfl)) (ah (aA K) (pv 0) af (λ_ _=>rfl)))))),?_⟩;walk_at"";refine aB (aj.of hx) (v:=.int x.2) rfl ?_;walk_at"";refine aB (aj.of hg) (v:=.int g.2) rfl ?_;walk_at"";refine aB (aj.of g1) (v:=.int m) rfl ?_;walk_at"";refine aB (aj.of g1) (v:=.int m) rfl ?_;walk_at""
  try refine rd_I (.inl ⟨by omega,by omega⟩) ?_
  walk_at"";exact q
def dg(ws:List Way)(T:Int)(x:Bfs.Pl)(k:Nat):Option Bfs.Pl:=
 (ws[k]?).bind λw=>if w.room=x.1 then(du w.deed x.2).bind λn=>if n<=T then some (w.other,n)else none else none
def jt:rz "up" = 1:=by decide +kernel
def kE:rz "down" = -1:=by decide +kernel
def kG:rz "stay" = 0:=by decide +kernel
def ql:rz "zero" = 0:=by decide +kernel
def BN{z:Str}{n n':Int}(hz:bK z)(h:du z n=some n'):n'=n+rz z:=by
 rcases hz with e|e|e|e<;>rw[e]at h ⊢
 ·rw[ma]at h;rw[jt];cases h;rfl
 ·rw[nI]at h;rw[kE];split at h
  ·cases h;omega
  ·cases h
 ·rw[qp]at h;rw[kG];cases h;omega
 ·rw[lR]at h;rw[ql];split at h
  ·cases h;omega
  ·cases h
def oF{w:Way}(hz:bK w.deed)(x:Bfs.Pl):cz w x.1 x.2=true↔w.room=x.1/\du w.deed x.2=some (x.2+rz w.deed):=by
 unfold cz;rcases hz with e|e|e|e<;>rw[e]
 ·rw[Ca,Bu,ma,jt];simp
 ·rw[iM,nI,kE];by_cases h:0<x.2
  ·rw[Hd h];simp[Int.sub_eq_add_neg]
  ·rw[Hc h];simp
 ·rw[wx,Hc (show ¬(GP "stay")=GP "zero" by decide +kernel),qp,kG];simp
 ·rw[rF,iM,lR,ql];by_cases h:x.2=0
  ·rw[Hd h];simp
  ·rw[Hc h];simp
def A5{ws:List Way}{T:Int}{x:Bfs.Pl}{k:Nat}{w:Way}(h:ws[k]?=some w)(hz:bK w.deed)(ho:cz w x.1 x.2=true)(ht:x.2+rz w.deed<=T):dg ws T x k=some (w.other,x.2+rz w.deed):=by obtain⟨h1,h2⟩:=(oF hz x).mp ho;unfold dg;rw[h,Option.bind_some,Hf h1,h2,Option.bind_some,Hf ht]
def pR{ws:List Way}{T:Int}{x y:Bfs.Pl}{k:Nat}(h:dg ws T x k=some y):∃w,ws[k]?=some w/\w.room=x.1/\du w.deed x.2=some y.2/\y.1=w.other/\y.2<=T:=by
 unfold dg at h;obtain⟨w,hw,h⟩:=Option.bind_eq_some_iff.mp h;split at h
 ·rename_i hr;obtain⟨n,hn,h⟩:=Option.bind_eq_some_iff.mp h;split at h
  ·rename_i ht;cases h;exact⟨w,hw,hr,hn,rfl,ht⟩
  ·cases h
 ·cases h
def vC{ws:List Way}{T:Int}{x y:Bfs.Pl}{k:Nat}{w:Way}(hw:ws[k]?=some w)(hz:bK w.deed)(h:dg ws T x k=some y):cz w x.1 x.2=true/\y=(w.other,x.2+rz w.deed)/\x.2+rz w.deed<=T:=by obtain⟨w',hw',hr,hs,ho,ht⟩:=pR h;rw[hw]at hw';cases hw';have e:=BN hz hs;rw[e]at ht hs;exact⟨(oF hz x).mpr ⟨hr,hs⟩,Prod.ext ho e,ht⟩
def ub{z:Str}{n n':Int}(hz:bK z)(h0:0<=n)(h:du z n=some n'):0<=n':=by
 rcases hz with e|e|e|e<;>rw[e]at h
 ·rw[ma]at h;cases h;omega
 ·rw[nI]at h;split at h
  ·rename_i g;have:=of_decide_eq_true g;cases h;omega
  ·cases h
 ·rw[qp]at h;cases h;exact h0
 ·rw[lR]at h;split at h
  ·cases h;exact h0
  ·cases h
def fL(H:Hp)(v:V):Option (Bfs.Pl×Nat)->Prop
 | none=>v=.non
 | some (p,k)=>∃a b,v=.ref a/\H a=some (.tup [.ref b,.int (k:Int)])/\ao H b p
def fL.ext{H H':Hp}(e:Ext H H'){v:V}{o:Option (Bfs.Pl×Nat)}(h:fL H v o):fL H' v o:=by
 cases o with
 | none=>exact h
 | some pk=>
  obtain⟨a,b,h1,h2,h3⟩:=h;exact⟨a,b,h1,e _ _ h2,e _ _ h3⟩
def fL.put{H:Hp}{f:Addr}{u u':HO}(hf:H f=some u)(hn:∀xs,u≠.tup xs){v:V}{o:Option (Bfs.Pl×Nat)}(h:fL H v o):fL (upd H f u') v o:=by
 cases o with
 | none=>exact h
 | some pk=>
  obtain⟨a,b,h1,h2,h3⟩:=h;exact⟨a,b,h1,by rw[az (cK h2 hf (λz=>hn _ z.symm))];exact h2,ao.put hf hn h3⟩
abbrev oH(H:Hp)(kv:List Key×V)(e:Bfs.Ent):Prop:=kv.1=bj e.1/\fL H kv.2 e.2.2
abbrev yI(H:Hp)(a:Addr)(e:Bfs.Ent):Prop:=ao H a e.1
section
variable {β:Type} {F:List Key×V->β->Prop} {key:β->Bfs.Pl} {kvs:List (List Key×V)} {q:List β}
def jl(hF:∀kv e,F kv e->kv.1=bj (key e))(h:Paired F kvs q){x:Bfs.Pl}(hx:x∉q.map key):bI kvs (bj x)=none:=by
 induction h with
 | nil=>rfl
 | @cons a b as bs h t ih=>
  rw[List.map_cons,Gq,not_or]at hx;rw[jB (λz=>hx.1 (wC (z.symm.trans (hF _ _ h))))];exact ih hx.2
def iH(hF:∀kv e,F kv e->kv.1=bj (key e))(h:Paired F kvs q)(nd:(q.map key).Nodup){e:β}(he:e∈q):∃v,bI kvs (bj (key e))=some v/\F (bj (key e),v) e:=by
 induction h with
 | nil=>cases he
 | @cons a b as bs h t ih=>
  rw[List.map_cons,List.nodup_cons]at nd;rcases Gq.mp he with z|z
  ·subst z;have e1:=hF _ _ h;refine⟨a.2,lg e1,?_⟩;rw[←e1];exact h
  ·obtain⟨v,h1,h2⟩:=ih nd.2 z;refine⟨v,?_,h2⟩;rw[jB (λw=>nd.1 ?_)]
   ·exact h1
   ·rw[wC ((hF _ _ h).symm.trans w)];exact List.mem_map.mpr ⟨e,z,rfl⟩
end
structure FF(H0 H:Hp)(f rw:Addr)(q:List Bfs.Ent):Prop where
 ext:Ext H0 H
 fn:H0 f=none
 rn:H0 rw=none
 d:∃kvs,H f=some (.dT kvs)/\Paired (oH H) kvs q
 r:∃as,H rw=some (.lst (List.map V.ref as))/\Paired (yI H) as q
def FF.step{H0 H H1:Hp}{f rw:Addr}{q:List Bfs.Ent}(h:FF H0 H f rw q)(e:Ext H H1):FF H0 H1 f rw q:=by obtain⟨h1,h2,h3,⟨kvs,h4,h5⟩,as,h6,h7⟩:=h;exact⟨h1.trans e,h2,h3,⟨kvs,e _ _ h4,Paired.mapP h5 λ_ _ z=>⟨z.1,z.2.ext e⟩⟩,as,e _ _ h6,Paired.mapP h7 λ_ _ z=>e _ _ z⟩
def FF.push{H0 H:Hp}{f rw th t b:Addr}{q:List Bfs.Ent}{y p:Bfs.Pl}{k d:Nat}(h:FF H0 H f rw q)(hy:y∉q.map (·.1))(hth:ao H th y)(hb:ao H b p)(ht:H t=some (.tup [.ref b,.int (k:Int)])):
  ∃kvs,H f=some (.dT kvs)/\kvs.length=q.length/\∃as,upd H f (.dT (putK kvs (bj y) (.ref t))) rw=some (.lst (List.map V.ref as))/\as.length=q.length ∧
   FF H0 (upd (upd H f (.dT (putK kvs (bj y) (.ref t)))) rw (.lst (List.map V.ref as++[.ref th]))) f rw (q++[(y,d,some (p,k))]):=by
 obtain⟨h1,h2,h3,⟨kvs,h4,h5⟩,as,h6,h7⟩:=h;have nf:∀xs,(HO.dT kvs)≠.tup xs:=λxs z=>by cases z
 have nr:∀xs,(HO.lst (List.map V.ref as))≠.tup xs:=λxs z=>by cases z
 have ne:rw≠f:=cK h6 h4 (by intro z;cases z);have h6':upd H f (.dT (putK kvs (bj y) (.ref t))) rw=some (.lst (List.map V.ref as)):=by rw[az ne];exact h6
 have vp:fL H (.ref t) (some (p,k)):=⟨t,b,rfl,ht,hb⟩;refine⟨kvs,h4,Paired.length h5,as,h6',Paired.length h7,cG (cG h1 h2) h3,h2,h3,⟨kvs++[(bj y,.ref t)],?_,?_⟩,as++[th],?_,?_⟩
 ·rw[az ne.symm,aO,ye _ (jl (λ_ _ z=>z.1) h5 hy)]
 ·exact Paired.snoc (Paired.mapP h5 λ_ _ z=>⟨z.1,(z.2.put h4 nf).put h6' nr⟩) ⟨rfl,(vp.put h4 nf).put h6' nr⟩
 ·rw[aO,Gs];rfl
 ·exact Paired.snoc (Paired.mapP h7 λ_ _ z=>ao.put h6' nr (ao.put h4 nf z)) (ao.put h6' nr (ao.put h4 nf hth))
def bV(m T:Int)(x:Bfs.Pl):Prop:=0<=x.1/\x.1<m/\0<=x.2/\x.2<=T
def bV.few{m T:Int}{l:List Bfs.Pl}(hm:m<=12)(hT:T<=2000)(hn:l.Nodup)(h:∀x∈l,bV m T x):l.length<=24012:=
 Bfs.y7 hT hn λx hx=>by obtain⟨a,b,c,d⟩:=h x hx;exact⟨a,by omega,c,d⟩
def El{m T:Int}{ws:List Way}(ok:HOuse m ws){x y:Bfs.Pl}{k:Nat}(hx:0<=x.2)(h:dg ws T x k=some y):bV m T y:=by obtain⟨w,hw,hr,hs,ho,ht⟩:=pR h;have okw:=ok.ok w (Gk hw);exact⟨by rw[ho];exact okw.o0,by rw[ho];exact okw.o1,ub okw.dd hx hs,ht⟩
def qK(H1:Hp)(ws:List Way)(m T:Int)(x:Bfs.Pl)(v:V)(pa ga c f rw:Addr)(M:Nat)(σ:St)(H':Hp):Prop:=
 ∃q i B k1 k2 k3 k4,σ=[some v,some (.ref pa),some (.ref ga),some (.int T),some (.ref c),some (.ref f),some (.ref rw),some (.int ((i:Nat):Int)),k1,k2,k3,k4]/\FF H1 H' f rw q/\Bfs.QI (dg ws T) x q i B/\(∀e∈q,bV m T e.1)/\i<=q.length/\M+i=24013
def zD(H1:Hp)(ws:List Way)(T:Int)(x g:Bfs.Pl)(v:V)(pa ga c f rw:Addr)(σ:St)(H':Hp):Prop:=
 ∃q i B k0 k1 k2 k3 k4,σ=[some v,some (.ref pa),some (.ref ga),some (.int T),some (.ref c),some (.ref f),some (.ref rw),k0,k1,k2,k3,k4]/\FF H1 H' f rw q/\Bfs.QI (dg ws T) x q i B/\q.length<=24012/\(i=q.length\/g∈q.map (·.1))
def zA(H1:Hp)(ws:List Way)(m T:Int)(x:Bfs.Pl)(v:V)(pa ga c f rw b:Addr)(i:Nat)(h:Bfs.Ent)(ks:List Nat)(j:Nat)(σ:St)(H':Hp):Prop:=
 ∃q k1 k2 k3,σ=[some v,some (.ref pa),some (.ref ga),some (.int T),some (.ref c),some (.ref f),some (.ref rw),some (.int ((i:Nat):Int)),some (.ref b),k1,k2,k3]/\FF H1 H' f rw q/\Bfs.QF (nx:=dg ws T) (s:=x) q (i-1) h ks j/\(∀e∈q,bV m T e.1)/\ao H' b h.1
def zS{m:Int}{x g:Bfs.Pl}(h0:0<=m)(hm:m<=12)(hx:x.2<=1000)(hg:g.2<=1000):dP m x g<=2000:=by unfold dP;have:m*m<=12*12:=Int.mul_le_mul hm hm h0 (by decide);split<;>omega
def Ak{m:Int}{x g:Bfs.Pl}(h0:0<=m):x.2<=dP m x g/\g.2<=dP m x g:=by unfold dP;have:0<=m*m:=Int.mul_nonneg h0 h0;split<;>constructor<;>omega
def xS(K:F6):Sp:=λvs H Q _=>∃v m ws pa ga x g,vs=[v,.ref pa,.ref ga]/\aY H v m ws/\HOuse m ws/\ao H pa x/\ao H ga g/\bx m x/\bx m g ∧
 ∀f H' kvs q i B,Ext H H'->H' f=some (.dT kvs)->Paired (oH H') kvs q->Bfs.QI (dg ws (dP m x g)) x q i B->q.length<=24012->(i=q.length\/g∈q.map (·.1))->Q (.ref f) H'
abbrev nW:Stmt:=stq 58
def wz:FnScope ["house","place","goal","greatest","counts","found","row","looked","here","count","way","there"] ["house","place","goal"] (aJ nW):=⟨rfl,rfl,rfl,by decide +kernel,rfl,by decide +kernel,by decide +kernel⟩
def DE{P:Program}{w:World}{K:F6}{mg:Str->Option Value}{base:Heap}(D:Dfn K mg "found_from" nW ["house","place","goal"])(T:Blt mg)(C_is_open:Cal P w K mg base "is_open" 1 ["way","place"] (lN K))(C_led_to:Cal P w K mg base "led_to" 2 ["way","place"] (oj K))(C_counts_by_room:Cal P w K mg base "counts_by_room" 1 ["house"] (sv K))(C_greatest_met:Cal P w K mg base "greatest_met" 1 ["house","place","goal"] (wZ K)):Cal P w K mg base "found_from" 3 ["house","place","goal"] (xS K):=by
 have nd:=(wz).nd;refine D.ok wz (λvs H Q E h=>?_) (λX hX H vs Q E h=>?_)
 ·obtain⟨v,m,ws,pa,ga,x,g,rfl,_⟩:=h;rfl
 ·obtain⟨f,cdv,A,outer,s,H0,E0,rfl,hr⟩:=hX;obtain⟨v,m,ws,pa,ga,x,g,rfl,hv,ok,hx,hg,ix,ig,q⟩:=h;have m1:=ok.m1;have m2:=ok.m12;have hfew:=ok.few;have hT:=zS (m:=m) (x:=x) (g:=g) (by omega) m2 ix.2.2.2 ig.2.2.2;have hxT:=(Ak (m:=m) (x:=x) (g:=g) (by omega)).1;refine⟨_,(ai (aD (i:=3) nd rfl (Or.inl rfl) (aE C_greatest_met hr (aa (pv 0) (aa (pv 1) (aa (pv 2) ae)))))
    (ai (aD (i:=4) nd rfl (Or.inl rfl) (aE C_counts_by_room hr (aa (pv 0) ae)))
    (ai (aD (i:=5) nd rfl (Or.inl rfl) (sf (eV hr) (pv 1) dy))
    (ai (aD (i:=6) nd rfl (Or.inl rfl) (aZ (aa (pv 1) ae)))
    (ai (aD (i:=7) nd rfl (Or.inl rfl) af)
    (ai (gB PassesOwn.never (PW.pt (ir (aS gL (pv 7) (bt (df K) rfl T.len_ PySem.boot_len (aa (pv 6) ae)) (aP _)) (ji (lA (kN (eV hr) (pv 2) (pv 5)) (by with_unfolding_all rfl))))) (ai (aD (i:=8) nd rfl (Or.inl rfl) (ah (aH K) (pv 6) (pv 7) (λ_ _=>rfl)))
    (ai (j6 (i:=7) nd rfl (Or.inl rfl) af pY)
    (aq (bD PassesOwn.never rfl (cj K (ah (aH K) (pv 4) (ah (aA K) (pv 8) af (λ_ _=>rfl)) (λ_ _=>rfl))) (aR (i:=9) nd rfl (Or.inl rfl)) (ai (aD (i:=10) nd rfl (Or.inl rfl) (ah (aA K) (ah (aA K) (pv 0) af (λ_ _=>rfl)) (pv 9) (λ_ _=>rfl)))
    (ai (aD (i:=11) nd rfl (Or.inl rfl) (aE C_led_to hr (aa (pv 10) (aa (pv 8) ae))))
    (aq (cV (PW.pt (ir (cC (aE C_is_open hr (aa (pv 10) (aa (pv 8) ae)))) (ir (aS jS (ah (aA K) (pv 11) af (λ_ _=>rfl)) (pv 3) (aP _)) (ji (lA (kN (eV hr) (pv 11) (pv 5)) (by with_unfolding_all rfl)))))) (ai (vX (eV hr) (pv 5) (pv 11) (aT (aa (pv 8) (aa (pv 9) ae))) rfl)
    (aq (br (bG K Gi Gx Gy bT (pv 6) (aa (pv 11) ae))))) bf)))))))))
    (aq (aI (pv 5))))))))),?_⟩
  walk_at"";refine⟨v,m,ws,pa,ga,x,g,rfl,hv,ok,hx,hg,?_⟩;generalize dP m x g=T at q hT hxT ⊢;walk_at"";refine⟨v,m,ws,rfl,hv,ok,λc ls H1 e1 ct=>?_⟩;walk_at"";refine λf hfn=>?_;walk_at"";refine⟨pa,bj x,rfl,(bO hfn) _ _ (e1 _ _ hx),aO,?_⟩;walk_at"";refine aw λrw H3 e3 hrw hrn=>?_;walk_at"";have e13:Ext H1 (upd (upd H1 f (.dT [])) f (.dT [(bj x,.non)])):=λb o hb=>by rw[az (bW hb hfn),az (bW hb hfn)];exact hb
  have hrn1:H1 rw=none:=e13.none hrn;have hf3:H3 f=some (.dT [(bj x,.non)]):=e3 _ _ aO;have ff0:FF H1 H3 f rw [(x,0,none)]:=⟨e13.trans e3,hfn,hrn1,⟨_,hf3,.cons ⟨rfl,rfl⟩ .nil⟩,[pa],hrw,.cons (e3 _ _ (e13 _ _ (e1 _ _ hx))) .nil⟩;refine gF (qK H1 ws m T x v pa ga c f rw) (zD H1 ws T x g v pa ga c f rw) 24013 ⟨[(x,0,none)],0,0,_,_,_,_,rfl,ff0,Bfs.QI.begin _ _,?_,by simp,rfl⟩ ?_ ?_
  ·intro e he;rw[Gm]at he;subst he;exact⟨ix.1,ix.2.1,ix.2.2.1,hxT⟩
  ·clear ff0 hf3 hrn1 e13 hrw hrn e3;rintro M σ H4 ⟨qq,i,B,k1,k2,k3,k4,rfl,ff,qi,hin,hi,hM⟩;have hqn:qq.length<=24012:=by
    have:=bV.few m2 hT qi.nd (λy hy=>by obtain⟨e,he,rfl⟩:=List.mem_map.mp hy;exact hin e he)
    rwa [Ga]at this
   obtain⟨kvs,hd,pk⟩:=ff.d;obtain⟨as,hr,pr⟩:=ff.r;have hal:=Paired.length pr;have hg4:ao H4 ga g:=ff.ext _ _ (e1 _ _ hg);walk_at"";refine fo (ag.of hr) ?_;walk_at"";by_cases hlt:i<qq.length
   rotate_left
   ·rw[Hc (show ¬((i:Nat):Int)<((List.map V.ref as).length:Nat) by rw[Ga,hal];omega)];refine aC ?_;refine aC ?_;exact⟨qq,i,B,_,_,_,_,_,rfl,ff,qi,hqn,.inl (by omega)⟩
   ·rw[Hd (show((i:Nat):Int)<((List.map V.ref as).length:Nat) by rw[Ga,hal];omega)];refine ay ?_;walk_at"";refine⟨f,_,rfl,cU.t hd (k:=bj g) hg4,?_⟩;by_cases hgk:g∈qq.map (·.1)
    ·obtain⟨e,he,rfl⟩:=List.mem_map.mp hgk;obtain⟨v1,hv1,_⟩:=iH (λ_ _ z=>z.1) pk qi.nd he;rw[hv1];refine rd_exb (aC ?_);exact⟨qq,i,B,_,_,_,_,_,rfl,ff,qi,hqn,.inr hgk⟩
    ·rw[jl (λ_ _ z=>z.1) pk hgk];refine rd_exb (ay ?_);refine⟨λσ' H'=>∃m',m'<M/\qK H1 ws m T x v pa ga c f rw m' σ' H',λ_ _ h=>h,?_⟩;have hqi:=Gb hlt;generalize qq[i]=hh at hqi;obtain⟨b,hb,hbp⟩:=xO pr hqi;have qf:=qi.look hqi (de ws hh.1.1 ws.length);have hih:=hin hh (Gk hqi);obtain⟨hr0,hr1,hn0,hn1⟩:=hih;clear qi hgk hg4 pr hal pk hd;walk_at"";refine aG (ag.of hr) (eE (v:=.ref b) (by rw[Gd,hb];rfl)) ?_;walk_at"";refine aB (aj.of hbp) (v:=.int hh.1.1) rfl ?_;walk_at"";have ct4:=ct.ext ff.ext;have hlr:hh.1.1.toNat<ls.length:=by rw[ct.len];omega
     have hlg:ls[hh.1.1.toNat]?=some ls[hh.1.1.toNat]:=Gb hlr;generalize ls[hh.1.1.toNat]=l at hlg;have hll:=ct.it _ _ hlg;rw[show ((hh.1.1.toNat:Nat):Int)=hh.1.1 by omega]at hll;refine aG (ag.of ct4.at_) (v:=.ref l) (eG hr0 (by rw[Gd,hlg];rfl)) ?_;refine cb (ag.of (ff.ext _ _ hll)) ?_;obtain⟨hp,ht,rfl,g1,g2⟩:=hv.ext e1;obtain⟨bs,g3,al⟩:=ck.al g2;refine forL (xs:=dC (de ws hh.1.1 ws.length)) (zA H1 ws m T x (.ref hp) pa ga c f rw b (i+1) hh (de ws hh.1.1 ws.length)) ?_ (λj σ H' _ h=>?_) ?_ ?_
     ·exact⟨qq,k2,k3,k4,rfl,ff,qf,hin,hbp⟩
     ·obtain⟨_,_,_,_,_,ff',_⟩:=h;exact ag.of (ff'.ext _ _ hll)
     ·clear qf ff hbp hr hqi hlt hqn hin;rintro j u σ H5 hu ⟨q5,c1,c2,c3,rfl,ff,qf,hin,hbp⟩;rw[Gd]at hu;obtain⟨k,hk,rfl⟩:=Gn.mp hu;obtain⟨w,hw,hroom⟩:=Fg (Gk hk);have okw:=ok.ok w (Gk hw);have hkb:k<bs.length:=by rw[al.1];exact(Gj.mp hw).1
      have hbk:=Gb hkb;generalize bs[k]=bk at hbk;have hwt:=al.2 k bk w hbk hw;have hqn:q5.length<=24012:=by
       have:=bV.few m2 hT qf.nd (λy hy=>by obtain⟨e,he,rfl⟩:=List.mem_map.mp hy;exact hin e he)
       rwa [Ga]at this
      walk_at"";refine aB (aj.of (ff.ext _ _ g1)) (v:=.ref ht) rfl ?_;walk_at"";refine aB (aj.of (ff.ext _ _ g3)) (v:=.ref bk) (eE (by rw[Gd,hbk];rfl)) ?_;walk_at"";refine⟨bk,w,b,hh.1,rfl,ff.ext _ _ hwt,okw.dd,hbp,λth H6 e6 hth hthn=>?_⟩;have ff6:=ff.step e6;have hb6:ao H6 b hh.1:=e6 _ _ hbp;clear ff hbp;walk_at"";refine fj ?_;walk_at"";refine⟨bk,w,b,hh.1,rfl,ff6.ext _ _ hwt,hb6,?_⟩;refine rd_exb ?_;cases ho:cz w hh.1.1 hh.1.2 with
      | false=>
       refine aC ?_;refine aC ?_;walk_at"";exact⟨q5,_,_,_,rfl,ff6,qf.skip hk (λy hy=>by rw[(vC hw okw.dd hy).1]at ho;cases ho),hin,hb6⟩
      | true=>
       refine ay ?_;walk_at"";refine aB (aj.of hth) (v:=.int (hh.1.2+rz w.deed)) rfl ?_;walk_at"";by_cases hle:hh.1.2+rz w.deed<=T
       rotate_left
       ·rw[Hc hle];refine aC ?_;refine aC ?_;walk_at"";exact⟨q5,_,_,_,rfl,ff6,qf.skip hk (λy hy=>absurd (vC hw okw.dd hy).2.2 hle),hin,hb6⟩
       ·rw[Hd hle];refine ay ?_;walk_at"";have hy:=A5 (T:=T) hw okw.dd ho hle;obtain⟨kvs,hd,pk⟩:=ff6.d;refine⟨f,_,rfl,cU.t hd (k:=bj (w.other,hh.1.2+rz w.deed)) hth,?_⟩;by_cases hnew:(w.other,hh.1.2+rz w.deed)∈q5.map (·.1)
        ·obtain⟨e,he,hee⟩:=List.mem_map.mp hnew;obtain⟨v1,hv1,_⟩:=iH (λ_ _ z=>z.1) pk qf.nd he;rw[hee]at hv1;rw[hv1];refine rd_exb (aC ?_);walk_at"";exact⟨q5,_,_,_,rfl,ff6,qf.skip hk (λy hy'=>by rw[hy]at hy';cases hy';exact hnew),hin,hb6⟩
        ·rw[jl (λ_ _ z=>z.1) pk hnew];refine rd_exb (ay ?_);clear pk hd;walk_at"";refine aw λt H7 e7 ht7 _=>?_;walk_at"";obtain⟨kvs,hd,hkl,as,hr7,hal,ff8⟩:=(ff6.step e7).push (d:=hh.2.1+1) hnew (e7 _ _ hth) (e7 _ _ hb6) ht7;have hb8:=ao.put (o':=.lst (List.map V.ref as++[.ref th])) hr7 (λxs z=>by cases z) (ao.put (o':=.dT (putK kvs (bj (w.other,hh.1.2+rz w.deed)) (.ref t))) hd (λxs z=>by cases z) (e7 _ _ hb6));refine⟨f,_,rfl,gg.t hd (k:=bj (w.other,hh.1.2+rz w.deed)) (e7 _ _ hth) (gI (by omega)),?_⟩;walk_at"";refine⟨bZ (ag.of hr7),?_⟩;walk_at"";refine bR hr7 (gI (by rw[Ga];omega)) ?_;refine⟨_,_,_,_,rfl,ff8,qf.add hk hy hnew,?_,hb8⟩;intro e he;rcases Gz.mp he with z|z
         ·exact hin e z
         ·rw[Gm]at z;subst z;exact El ok hn0 hy
     ·rintro σ H5 ⟨q5,c1,c2,c3,rfl,ff5,qf5,hin5,hbp5⟩;rw[Ga]at qf5;refine⟨M-1,by omega,q5,i+1,hh.2.1,_,_,_,_,rfl,ff5,qf5.next (λk y hy=>?_),hin5,?_,by omega⟩
      ·obtain⟨w,hw,hr,_⟩:=pR hy;exact AV hw hr
      ·have:=(Gj.mp qf5.at_).1;omega
  ·rintro σ H4 ⟨qq,i,B,k0,k1,k2,k3,k4,rfl,ff,qi,hqn,hend⟩;obtain⟨kvs,hd,pk⟩:=ff.d;walk_at"";exact q f H4 kvs qq i B (e1.trans ff.ext) hd pk qi hqn hend
def xt(K:F6):Sp:=λvs H Q _=>∃(f ga:Addr) (kvs:List (List Key×V)) (q:List Bfs.Ent) (nx:Bfs.Pl->Nat->Option Bfs.Pl) (s:Bfs.Pl) (i B:Nat) (e:Bfs.Ent),vs=[.ref f,.ref ga]/\H f=some (.dT kvs)/\Paired (oH H) kvs q/\Bfs.QI nx s q i B/\ao H ga e.1/\e∈q/\e.2.1<=24012 ∧
 ∀l H' ks,Ext H H'->H' l=some (.lst (dC ks))->H l=none->ks.length=e.2.1->Bfs.gone (nx:=nx) s ks=some e.1->Q (.ref l) H'
def rD(H:Hp)(f ga l:Addr)(q:List Bfs.Ent)(nx:Bfs.Pl->Nat->Option Bfs.Pl)(e:Bfs.Ent)(M:Nat)(σ:St)(H':Hp):Prop:=
 ∃v u ks,σ=[some (.ref f),some (.ref ga),some (.ref l),some v]/\Ext H H'/\H' l=some (.lst (dC ks))/\u∈q/\fL H' v u.2.2/\u.2.1=M/\ks.length+M=e.2.1/\Bfs.gone (nx:=nx) u.1 ks.reverse=some e.1
abbrev lT:Stmt:=stq 59
def qG:FnScope ["found","goal","walk","step"] ["found","goal"] (aJ lT):=⟨rfl,rfl,rfl,by decide +kernel,rfl,by decide +kernel,by decide +kernel⟩
def Bj{P:Program}{w:World}{K:F6}{mg:Str->Option Value}{base:Heap}(D:Dfn K mg "walk_back" lT ["found","goal"])(T:Blt mg):Cal P w K mg base "walk_back" 1 ["found","goal"] (xt K):=by
 have nd:=(qG).nd;refine D.ok qG (λvs H Q E h=>?_) (λX hX H vs Q E h=>?_)
 ·obtain⟨f,ga,kvs,q,nx,s,i,B,e,rfl,_⟩:=h;rfl
 ·obtain⟨f,cdv,A,outer,s,H0,E0,rfl,hr⟩:=hX;obtain⟨f,ga,kvs,q,nx,s,i,B,e,rfl,hf,pk,qi,hg,he,hle,qq⟩:=h;refine⟨_,(ai (aD (i:=2) nd rfl (Or.inl rfl) (aZ ae))
    (ai (aD (i:=3) nd rfl (Or.inl rfl) (uR (eV hr) (pv 0) (pv 1) (λ_ _=>rfl)))
    (ai (gB PassesOwn.never (aS CP (pv 3) dy (aP _)) (ai (br (bG K Gi Gx Gy bT (pv 2) (aa (ah (aA K) (pv 3) af (λ_ _=>rfl)) ae)))
    (aq (aD (i:=3) nd rfl (Or.inl rfl) (uR (eV hr) (pv 0) (ah (aA K) (pv 3) af (λ_ _=>rfl)) (λ_ _=>rfl))))))
    (aq (aI (Fu K rfl rfl T.list_ rfl T.reversed_ (pv 2))))))),?_⟩
  walk_at"";refine aw λl H1 e1 hl hln=>?_;walk_at"";obtain⟨v0,hv0,_,hp0⟩:=iH (λ_ _ z=>z.1) pk qi.nd he;refine⟨f,v0,rfl,by rw[←hv0];exact cU.t (e1 _ _ hf) (k:=bj e.1) (e1 _ _ hg),?_⟩;walk_at"";refine gF (rD H f ga l q nx e) (λσ H'=>∃v ks,σ=[some (.ref f),some (.ref ga),some (.ref l),some v]/\Ext H H'/\H' l=some (.lst (dC ks))/\ks.length=e.2.1/\Bfs.gone (nx:=nx) s ks.reverse=some e.1) e.2.1 ⟨v0,e,[],rfl,e1,hl,he,hp0.ext e1,rfl,by simp,rfl⟩ ?_ ?_
  ·rintro M σ H4 ⟨v,u,ks,rfl,e4,hl4,hu,hvp,hM,hks,hgo⟩;walk_at"";rcases qi.par u hu with⟨p1,p2,p3⟩|⟨p,k,d,o,p1,p2,p3,p4⟩
   ·rw[p1]at hvp;obtain rfl:v=.non:=hvp;refine⟨rfl,?_⟩;refine rd_exb (aC ?_);exact⟨_,ks,rfl,e4,hl4,by omega,by rw[←p2];exact hgo⟩
   ·rw[p1]at hvp;obtain⟨a,b,rfl,ha,hb⟩:=hvp;refine⟨rfl,?_⟩;rw[Hc (show ¬(V.ref a=V.non) by intro z;cases z)];refine rd_exb (ay ?_);refine⟨λσ' H'=>∃m',m'<M/\rD H f ga l q nx e m' σ' H',λ_ _ h=>h,?_⟩;walk_at"";refine⟨bZ (ag.of hl4),?_⟩;walk_at"";refine aB (aj.of ha) (v:=.int (k:Int)) rfl ?_;walk_at"";refine bR hl4 (gI (by rw[Ga];omega)) ?_;walk_at"";have nl:∀xs,(HO.lst (dC ks))≠.tup xs:=λxs z=>by cases z
    have ha5:upd H4 l (.lst (dC ks++[.int (k:Int)])) a=some (.tup [.ref b,.int (k:Int)]):=by rw[az (cK ha hl4 (by intro z;cases z))];exact ha
    have hb5:=ao.put (o':=.lst (dC ks++[.int (k:Int)])) hl4 nl hb;refine aB (aj.of ha5) (v:=.ref b) rfl ?_;obtain⟨v1,hv1,_,hp1⟩:=iH (λ_ _ z=>z.1) pk qi.nd p4;have hf5:upd H4 l (.lst (dC ks++[.int (k:Int)])) f=some (.dT kvs):=by rw[az (cK (e4 _ _ hf) hl4 (by intro z;cases z))];exact e4 _ _ hf
    have eH:Ext H (upd H4 l (.lst (dC ks++[.int (k:Int)]))):=cG e4 hln;refine⟨f,v1,rfl,by rw[←hv1];exact cU.t hf5 (k:=bj p) hb5,?_⟩;walk_at"";refine⟨d,by omega,v1,(p,d,o),ks++[k],rfl,eH,by rw[aO,xD],p4,hp1.ext eH,rfl,by rw[Gu];simp;omega,?_⟩;rw[List.reverse_append];show(nx p k).bind _=_;rw[p2];exact hgo
  ·rintro σ H4 ⟨v,ks,rfl,e4,hl4,hks,hgo⟩;walk_at"";refine t9 (ag.of hl4) (cc λr H5 e5 hr hrn=>?_);refine qq r H5 ks.reverse (e4.trans e5) ?_ (e4.none hrn) (by rw[List.length_reverse];exact hks) hgo;rw[hr,←List.map_reverse]
def vM(K:F6):Sp:=λvs H Q _=>∃v m ws pa ga x g,vs=[v,.ref pa,.ref ga]/\aY H v m ws/\HOuse m ws/\ao H pa x/\ao H ga g/\bx m x/\bx m g ∧
 ((∀n,¬Bfs.lH (dg ws (dP m x g)) x n g)->∀H',Ext H H'->Q .non H')/\∀n l H' ks,Bfs.lH (dg ws (dP m x g)) x n g->n<=24012->Ext H H'->H l=none->H' l=some (.lst (dC ks))->ks.length=n->Bfs.gone (nx:=dg ws (dP m x g)) x ks=some g->Q (.ref l) H'
abbrev mw:Stmt:=stq 60
def sj:FnScope ["house","place","goal","found"] ["house","place","goal"] (aJ mw):=⟨rfl,rfl,rfl,by decide +kernel,rfl,by decide +kernel,by decide +kernel⟩
def DT{P:Program}{w:World}{K:F6}{mg:Str->Option Value}{base:Heap}(D:Dfn K mg "sought_walk" mw ["house","place","goal"])(T:Blt mg)(C_walk_back:Cal P w K mg base "walk_back" 1 ["found","goal"] (xt K))(C_found_from:Cal P w K mg base "found_from" 3 ["house","place","goal"] (xS K)):Cal P w K mg base "sought_walk" 4 ["house","place","goal"] (vM K):=by
 have nd:=(sj).nd;refine D.ok sj (λvs H Q E h=>?_) (λX hX H vs Q E h=>?_)
 ·obtain⟨v,m,ws,pa,ga,x,g,rfl,_⟩:=h;rfl
 ·obtain⟨f,cdv,A,outer,s,H0,E0,rfl,hr⟩:=hX;obtain⟨v,m,ws,pa,ga,x,g,rfl,hv,ok,hx,hg,ix,ig,qn,qy⟩:=h;refine⟨_,(ai (aD (i:=3) nd rfl (Or.inl rfl) (aE C_found_from hr (aa (pv 0) (aa (pv 1) (aa (pv 2) ae)))))
    (ai (bM (lA (kN (eV hr) (pv 2) (pv 3)) (by with_unfolding_all rfl)) (aq (aI dy)) bf)
    (aq (aI (aE C_walk_back hr (aa (pv 3) (aa (pv 2) ae))))))),?_⟩
  walk_at"";refine⟨v,m,ws,pa,ga,x,g,rfl,hv,ok,hx,hg,ix,ig,λf H1 kvs q i B e1 hf pk qi hql hend=>?_⟩;generalize dP m x g=T at qn qy qi;walk_at"";refine⟨f,_,rfl,cU.t hf (k:=bj g) (e1 _ _ hg),?_⟩;by_cases hgk:g∈q.map (·.1)
  ·obtain⟨e,he,rfl⟩:=List.mem_map.mp hgk;obtain⟨v1,hv1,_⟩:=iH (λ_ _ z=>z.1) pk qi.nd he;rw[hv1];refine rd_exb (aC ?_);walk_at"";have hd:=qi.dist he;have hlv:e.2.1<=24012:=GI (qi.deep he) hql;refine⟨f,ga,kvs,q,dg ws T,x,i,B,e,rfl,hf,pk,qi,e1 _ _ hg,he,hlv,λl H2 ks e2 hl hln hks hgo=>?_⟩;exact qy _ l H2 ks hd hlv (e1.trans e2) (e1.none hln) hl hks hgo
  ·rw[jl (λ_ _ z=>z.1) pk hgk];refine rd_exb (ay ?_);walk_at"";refine qn (λn=>?_) H1 e1;rcases hend with h|h
   ·subst h;exact qi.done hgk n
   ·exact absurd h hgk
def gN(K:F6)(m:Int)(xs:List Bfs.Pl)(H:Hp)(E:XK):Prop:=
 ((∃x∈xs,¬okPl m x)/\dj K H E "NoPlace")\/((∀x∈xs,okPl m x)/\(∃x∈xs,1000<x.2)/\dj K H E "TooGreat")
def gN.ext{K:F6}{m:Int}{xs:List Bfs.Pl}{H H':Hp}{E:XK}(e:Ext H H')(h:gN K m xs H E):gN K m xs H' E:=by
 rcases h with⟨a,b⟩|⟨a,b,c⟩
 ·exact .inl ⟨a,b.ext e⟩
 ·exact .inr ⟨a,b,c.ext e⟩
def gN.w{K:F6}{m:Int}{xs:List Bfs.Pl}{H:Hp}{E:XK}{Q:Hp->Prop}(h:gN K m xs H E):se K m xs H Q E:=by
 rcases h with h|h
 ·exact .inl h
 ·exact .inr (.inl h)
def n6(K:F6):Sp:=λvs H Q E=>∃v pa ga,vs=[v,.ref pa,.ref ga]/\((di H v/\Ref K H E)\/∃m ws x g,aY H v m ws/\HOuse m ws/\ao H pa x/\ao H ga g/\(gN K m [x,g] H E\/(bx m x/\bx m g/\(∀H',Ext H H'->Q .non H')/\∀l H',Ext H H'->Q (.ref l) H')))
abbrev mr:Stmt:=stq 61
def sQ:FnScope ["house","place","goal"] ["house","place","goal"] (aJ mr):=⟨rfl,rfl,rfl,by decide +kernel,rfl,by decide +kernel,by decide +kernel⟩
def Cy{P:Program}{w:World}{K:F6}{mg:Str->Option Value}{base:Heap}(D:Dfn K mg "shortest" mr ["house","place","goal"])(T:Blt mg)(C_sought_walk:Cal P w K mg base "sought_walk" 4 ["house","place","goal"] (vM K))(CX_refuse_bad_places:CalX P w K mg base "refuse_bad_places" 3 ["house","places"] (lF K))(CX_refuse_no_house:CalX P w K mg base "refuse_no_house" 6 ["thing"] (fC K)):CalX P w K mg base "shortest" 7 ["house","place","goal"] (n6 K):=by
 have nd:=(sQ).nd;refine D.okX sQ (λvs H Q E h=>?_) (λf cdv A outer s H vs Q E hr h=>?_)
 ·obtain⟨v,pa,ga,rfl,_⟩:=h;rfl
 ·obtain⟨v,pa,ga,rfl,h⟩:=h;refine⟨_,(ai (br (fK CX_refuse_no_house hr (aa (pv 0) ae)))
    (ai (br (fK CX_refuse_bad_places hr (aa (pv 0) (aa (aZ (aa (pv 1) (aa (pv 2) ae))) ae))))
    (aq (aI (aE C_sought_walk hr (aa (pv 0) (aa (pv 1) (aa (pv 2) ae)))))))),?_⟩
  walk_at"";rcases h with⟨hno,href⟩|⟨m,ws,x,g,hv,ok,hx,hg,h⟩
  ·exact refuses hno href
  refine accepts hv ok λH1 e1=>?_;walk_at"";refine aw λl H2 e2 hl _=>?_;walk_at"";have e12:=e1.trans e2;obtain⟨hh,t,rfl,g1,g2⟩:=hv.ext e12;refine⟨hh,_,m,l,[pa,ga],[x,g],rfl,g1,hl,.cons (e12 _ _ hx) (.cons (e12 _ _ hg) .nil),?_⟩;rcases h with hb|⟨ix,ig,qn,qy⟩
  ·exact(hb.ext e12).w
  refine .inr (.inr ⟨?_,?_⟩)
  ·intro y hy;rcases Gq.mp hy with rfl|hy
   ·exact ix
   ·rw[Gm]at hy;subst hy;exact ig
  walk_at"";exact⟨_,m,ws,pa,ga,x,g,rfl,⟨hh,t,rfl,g1,g2⟩,ok,e12 _ _ hx,e12 _ _ hg,ix,ig,λ_ H' e=>qn H' (e12.trans e),λn l H' ks hd hn e hln hl hks hgo=>qy l H' (e12.trans e)⟩
def aQ(n:Nat)(f:Nat->Bool):List V:=(Hb n).map λi=>V.bl (f i)
def cD(n:Nat)(f:Nat->Bool):(aQ n f).length=n:=by simp[aQ]
def fH{n i:Nat}(f:Nat->Bool)(h:i<n):(aQ n f)[i]?=some (.bl (f i)):=by unfold aQ;rw[Gd,List.getElem?_range h];rfl
def eP{n:Nat}{f g:Nat->Bool}(h:∀i,i<n->f i=g i):aQ n f=aQ n g:=by unfold aQ;apply List.map_congr_left;intro i hi;rw[h i (List.mem_range.mp hi)]
def jJ(n:Nat)(f:Nat->Bool):aQ (n+1) f=aQ n f++[V.bl (f n)]:=by unfold aQ;rw[List.range_succ,Gs];rfl
def qw{n k:Nat}(f:Nat->Bool)(c:Bool)(hk:k<n):(aQ n f).set k (.bl c)=aQ n λi=>if i=k then c else f i:=by
 apply List.ext_getElem?;intro i;rcases GW i n with hi|hi
 ·rw[List.getElem?_set,cD,fH _ hi,fH _ hi];by_cases h:k=i
  ·subst h;simp[hi]
  ·rw[He h,He (Ne.symm h)]
 ·rw[List.getElem?_eq_none (by rw[List.length_set,cD];exact hi),List.getElem?_eq_none (by rw[cD];exact hi)]
def dD{n:Nat}{f:Nat->Bool}{i:Int}(h0:0<=i)(h:i<n):bC (aQ n f) i=some (.bl (f i.toNat)):=eG h0 (fH f (by omega))
def rT(n:Nat)(c:Bool):(GU n [V.bl c]).flatten=aQ n λ_=>c:=by
 induction n with
 | zero=>rfl
 | succ n ih=>
  rw[List.replicate_succ',List.flatten_append,ih,jJ];rfl
def Dm{n:Nat}{f:Nat->Bool}{i:Int}(h0:0<=i)(h:i<=n):b5 (aQ n f) none (some i)=aQ i.toNat f:=by
 unfold b5;rw[cD,HT.vB];have e:HT.aL n n (some i)=i.toNat:=by show(if i<0 then(i+(n:Int)).toNat else min i.toNat n)=i.toNat;rw[He (by omega)];omega
 rw[e,List.drop_zero,Nat.sub_zero];apply List.ext_getElem?;intro k;rcases GW k i.toNat with hk|hk
 ·rw[List.getElem?_take_of_lt hk,fH _ (by omega),fH _ hk]
 ·rw[List.getElem?_eq_none (by rw[GZ,cD];omega),List.getElem?_eq_none (by rw[cD];omega)]
def Rows(H:Hp)(q:Addr)(rs:List Addr)(n:Nat)(M:Nat->Nat->Bool):Prop:=H q=some (.lst (rs.map V.ref))/\∀(i:Nat) (r:Addr),rs[i]?=some r->H r=some (.lst (aQ n (M i)))
def Rows.ext{H H':Hp}(e:Ext H H'){q:Addr}{rs:List Addr}{n:Nat}{M:Nat->Nat->Bool}(h:Rows H q rs n M):Rows H' q rs n M:=⟨e _ _ h.1,λi r hi=>e _ _ (h.2 i r hi)⟩
def kr(K:F6):Sp:=λvs H Q _=>∃vh m ws d,vs=[vh,.str d]/\aY H vh m ws/\HOuse m ws/\∀l cs us H',Ext H H'->H l=none->H' l=some (.lst (List.map V.ref cs))->aM H' cs us->us=ws.filter (λw=>decide (w.deed=d))->Q (.ref l) H'
abbrev nX:Stmt:=stq 38
def u9:FnScope ["house","deed"] ["house","deed"] (aJ nX):=⟨rfl,rfl,rfl,by decide +kernel,rfl,by decide +kernel,by decide +kernel⟩
def yS{P:Program}{w:World}{K:F6}{mg:Str->Option Value}{base:Heap}(D:Dfn K mg "ways_of_deed" nX ["house","deed"])(T:Blt mg):Cal P w K mg base "ways_of_deed" 1 ["house","deed"] (kr K):=by
 have nd:=(u9).nd;refine D.ok u9 (λvs H Q E h=>?_) (λX hX H vs Q E h=>?_)
 ·obtain⟨vh,m,ws,d,rfl,_⟩:=h;rfl
 ·obtain⟨f,cdv,A,outer,s,H0,E0,rfl,hr⟩:=hX;obtain⟨vh,m,ws,d,rfl,hv,ok,q⟩:=h;have few:=ok.few;obtain⟨hp0,hq0,rfl,hh,hw⟩:=id hv;obtain⟨bs,hq,hal⟩:=ck.al hw;have hbl:=hal.1;refine⟨_,(@aq _ _ _ (@aI _ _ _ _ (eC ["way"] [1] (jX K (@ah _ _ _ _ _ _ _ (aA K) (pv 0) af (λ_ _=>rfl))) (λ_=>(aR (i:=0) (show(["way","deed"]:List Str).Nodup from by decide +kernel) rfl (Or.inl rfl) (Or.inr rfl))) (λ_=>(fY (aS b6 (@ah _ _ _ _ _ _ _ (aA K) (pv 0) af (λ_ _=>rfl)) (pv 1) (aP _)))) (λ_=>(pv 0))))),?_⟩;walk_at"";refine aB (aj.of hh) (v:=.ref hq0) rfl ?_;walk_at"";refine kM (aj.of hq) ?_;refine mY (xs:=bs.map V.ref) (λi ys H'=>H'=H/\∃cs us,ys=List.map V.ref cs/\aM H cs us/\us=(ws.take i).filter λw=>decide (w.deed=d)) (bN (by rw[Ga];omega)) ⟨rfl,[],[],rfl,aM.nil _,rfl⟩ ?_ ?_ ?_
  ·rintro i ys H' _ ⟨rfl,cs,us,rfl,hau,rfl⟩;refine⟨aj.of hq,?_⟩;rw[Ga,hau.1];exact GI (List.length_filter_le _ _) (by rw[GZ];omega)
  ·rintro i v ys H' hx ⟨rfl,cs,us,rfl,hau,hus⟩;rw[Gd]at hx;obtain⟨b,hb,rfl⟩:=Gn.mp hx;have hiw:i<ws.length:=by have:=(Gj.mp hb).1;omega
   have hwi:ws[i]?=some ws[i]:=Gb hiw;have hbw:=hal.2 i b _ hb hwi;generalize ws[i]=w0 at hwi hbw;walk_at"";refine aB (aj.of hbw) (v:=.str w0.deed) rfl ?_;walk_at"";refine mC (rd_exb ?_);cases hc:decide (w0.deed=d)with
   | true=>
    refine ay ?_;walk_at"";refine⟨rfl,cs++[b],us++[w0],?_,hau.snoc hbw,?_⟩
    ·rw[Gs];rfl
    ·rw[hus,List.take_add_one,hwi,List.filter_append];congr 1;show[w0]=List.filter _ [w0];rw[List.filter_cons,Hf hc];rfl
   | false=>
    refine aC ⟨rfl,cs,us,rfl,hau,?_⟩;rw[hus,List.take_add_one,hwi,List.filter_append];have:List.filter (λw:Way=>decide (w.deed=d)) [w0]=[]:=by rw[List.filter_cons,He (by rw[hc];exact Gr)];rfl
    show _=_++List.filter _ [w0];rw[this,List.append_nil]
  ·rintro ys H' pc ⟨hH,cs,us,rfl,hau,hus⟩ hpc;subst hH;rw[Ga,hbl,GG]at hus;have e:=bO (o:=.lst (List.map V.ref cs)) hpc;exact q pc cs us _ e hpc aO (hau.ext e) hus
def tV{x:Addr}:∀{l:List Addr} {i:Nat},l.Nodup->x∉l->(l.set i x).Nodup
 | [],_,_,_=>List.nodup_nil
 | a::l,0,h,hx=>by rw[List.nodup_cons]at h;exact List.nodup_cons.mpr ⟨λz=>hx (Ge _ z),h.2⟩
 | a::l,i+1,h,hx=>by
  rw[List.nodup_cons]at h;refine List.nodup_cons.mpr ⟨λz=>?_,tV h.2 λz=>hx (Ge _ z)⟩;rcases List.mem_or_eq_of_mem_set z with z|z
  ·exact h.1 z
  ·exact hx (by rw[z];exact Gh)
structure TB(H H':Hp)(q:Addr)(rs rs':List Addr)(n:Nat)(M:Nat->Nat->Bool):Prop where
 keep:∀b o,b≠q->H b=some o->H' b=some o
 len:rs'.length=n
 nd:rs'.Nodup
 nq:q∉rs'
 old:∀r∈rs',r∈rs\/H r=none
 rows:Rows H' q rs' n M
def TB.congr{H H':Hp}{q:Addr}{rs rs':List Addr}{n:Nat}{M M':Nat->Nat->Bool}(h:TB H H' q rs rs' n M)(e:∀i j,i<n->j<n->M i j=M' i j):TB H H' q rs rs' n M':=
 ⟨h.keep,h.len,h.nd,h.nq,h.old,h.rows.1,λi r hi=>by
  rw[h.rows.2 i r hi];have hl:i<n:=by rw[←h.len];exact(Gj.mp hi).1
  congr 2;exact eP λj hj=>e i j hl hj⟩
def TB.set{H H1:Hp}{q p9:Addr}{rs rs1:List Addr}{n i:Nat}{M:Nat->Nat->Bool}{f:Nat->Bool}(h:TB H H1 q rs rs1 n M)(hi:i<n)(hp:H1 p9=none):TB H (upd (upd H1 p9 (.lst (aQ n f))) q (.lst ((rs1.map V.ref).set i (.ref p9)))) q rs (rs1.set i p9) n (λa b=>if a=i then f b else M a b):=by
 have hq:H1 q=some (.lst (rs1.map V.ref)):=h.rows.1;have nqp:q≠p9:=λz=>by rw[z,hp]at hq;cases hq
 have nin:p9∉rs1:=λz=>by obtain⟨j,hj⟩:=GX z;rw[h.rows.2 j p9 hj]at hp;cases hp
 refine⟨λb o nb e=>?_,by rw[List.length_set];exact h.len,tV h.nd nin,λz=>?_,λr hr=>?_,?_,λa r ha=>?_⟩
 ·have e1:=h.keep b o nb e;rw[az nb,az (bW e1 hp)];exact e1
 ·rcases List.mem_or_eq_of_mem_set z with z|z
  ·exact h.nq z
  ·exact nqp z
 ·rcases List.mem_or_eq_of_mem_set hr with hr|rfl
  ·exact h.old r hr
  ·right;cases e:H r with
   | none=>rfl
   | some o=>rw[h.keep r o (Ne.symm nqp) e]at hp;cases hp
 ·rw[aO,List.map_set]
 ·rw[List.getElem?_set]at ha;by_cases hai:i=a
  ·subst hai;rw[Hf rfl,Hf (by rw[h.len];exact hi)]at ha;cases ha;rw[az (Ne.symm nqp),aO];congr 2;exact eP λj _=>by dsimp only;rw[Hf rfl]
  ·rw[He hai]at ha;have e:=h.rows.2 a r ha;have nrq:r≠q:=λz=>h.nq (z ▸ Gk ha);rw[az nrq,az (bW e hp),e];congr 2;exact eP λj _=>by dsimp only;rw[He (Ne.symm hai)]
def jn(M:Nat->Nat->Bool)(k:Nat):Nat->Nat->Bool:=λi j=>M i j || (M i k && M k j)
def bJ(M:Nat->Nat->Bool):Nat->Nat->Nat->Bool
 | 0=>M
 | k+1=>jn (bJ M k) k
structure Joined(n:Nat)(M M':Nat->Nat->Bool):Prop where
 le:∀i j,M i j=true->M' i j=true
 tr:∀i a j,a<n->M' i a=true->M' a j=true->M' i j=true
 least:∀S:Nat->Nat->Prop,(∀i a j,S i a->S a j->S i j)->(∀i j,M i j=true->S i j)->∀i j,M' i j=true->S i j
def tO(M:Nat->Nat->Bool):∀k,Joined k M (bJ M k)
 | 0=>⟨λ_ _ h=>h,λ_ _ _ h=>absurd h (Nat.not_lt_zero _),λ_ _ h=>h⟩
 | k+1=>by
  have ih:=tO M k;have up:∀i j,bJ M (k+1) i j=true↔(bJ M k i j=true\/(bJ M k i k=true/\bJ M k k j=true)):=λi j=>by show(bJ M k i j || (bJ M k i k && bJ M k k j))=true↔_;simp
  refine⟨λi j h=>(up i j).mpr (.inl (ih.le i j h)),λi a j ha h1 h2=>?_,λS ht hm i j h=>?_⟩
  ·rw[up]at h1 h2 ⊢;by_cases hak:a=k
   ·subst hak;have x1:bJ M a i a=true:=by rcases h1 with h|h;exact h;exact h.1
    have x2:bJ M a a j=true:=by rcases h2 with h|h;exact h;exact h.2
    exact .inr ⟨x1,x2⟩
   ·have hlt:a<k:=by omega
    rcases h1 with h1|⟨h1,h1'⟩<;>rcases h2 with h2|⟨h2,h2'⟩
    ·exact .inl (ih.tr i a j hlt h1 h2)
    ·exact .inr ⟨ih.tr i a k hlt h1 h2,h2'⟩
    ·exact .inr ⟨h1,ih.tr k a j hlt h1' h2⟩
    ·exact .inr ⟨h1,h2'⟩
  ·rcases(up i j).mp h with h|⟨h1,h2⟩
   ·exact ih.least S ht hm i j h
   ·exact ht i k j (ih.least S ht hm i k h1) (ih.least S ht hm k j h2)
def rZ(K:F6):Sp:=λvs H Q _=>∃q rs n M,vs=[.ref q]/\TB H H q rs rs n M/\n<=12/\∀rs' M' H',TB H H' q rs rs' n M'->Joined n M M'->Q .non H'
abbrev qv:Stmt:=stq 41
def rP:FnScope ["table","many","middle","p"] ["table"] (aJ qv):=⟨rfl,rfl,rfl,by decide +kernel,rfl,by decide +kernel,by decide +kernel⟩
def AE{P:Program}{w:World}{K:F6}{mg:Str->Option Value}{base:Heap}(D:Dfn K mg "join_walks" qv ["table"])(T:Blt mg):Cal P w K mg base "join_walks" 1 ["table"] (rZ K):=by
 have nd:=(rP).nd;refine D.ok rP (λvs H Q E h=>?_) (λX hX H vs Q E h=>?_)
 ·obtain⟨q,rs,n,M,rfl,_⟩:=h;rfl
 ·obtain⟨f,cdv,A,outer,s,H0,E0,rfl,hr⟩:=hX;obtain⟨qt,rs,n,M,rfl,ht,hn,q⟩:=h;refine⟨_,(@ai _ _ _ _ _ (@aD _ _ 1 _ _ _ _ nd rfl (Or.inl rfl) (bt (df K) rfl T.len_ PySem.boot_len (@aa _ _ _ _ _ (pv 0) ae rfl)) rfl (Or.inl rfl))
    (@aq _ _ _ (bD PassesOwn.never rfl (cq rfl T.range_ (@aa _ _ _ _ _ (pv 1) ae rfl)) (aR (i:=2) nd rfl (Or.inr rfl)) (@aq _ _ _ (bD PassesOwn.never rfl (cq rfl T.range_ (@aa _ _ _ _ _ (pv 1) ae rfl)) (aR (i:=3) nd rfl (Or.inr rfl)) (@aq _ _ _ (cV (cC (@ah _ _ _ _ _ _ _ (aH K) (@ah _ _ _ _ _ _ _ (aH K) (pv 0) (pv 3) (λ_ _=>rfl)) (pv 2) (λ_ _=>rfl))) (@aq _ _ _ (@fZ _ _ _ _ _ _ (eC ["q"] [0,3,2] (cq rfl T.range_ (@aa _ _ _ _ _ (pv 1) ae rfl)) (λ_=>(aR (i:=0) (show(["q","table","p","middle"]:List Str).Nodup from by decide +kernel) rfl (Or.inl rfl) (Or.inr rfl))) (λ_=>fJ) (λ_=>(sq (@ah _ _ _ _ _ _ _ (aH K) (@ah _ _ _ _ _ _ _ (aH K) (pv 1) (pv 2) (λ_ _=>rfl)) (pv 0) (λ_ _=>rfl)) (eO (@ah _ _ _ _ _ _ _ (aH K) (@ah _ _ _ _ _ _ _ (aH K) (pv 1) (pv 3) (λ_ _=>rfl)) (pv 0) (λ_ _=>rfl)))))) (jN (pv 0) (pv 3) set_list) rfl rfl rfl)) bf))))))),?_⟩
  walk_at"";refine fo (ag.of ht.rows.1) ?_;rw[Ga,ht.len];walk_at"";refine cw (by omega) ?_;rw[Gp];refine forR (λk σ H'=>∃rs1 k1 k2,TB H H' qt rs rs1 n (bJ M k)/\σ=[some (.ref qt),some (.int (n:Nat)),k1,k2]) ⟨rs,_,_,ht,rfl⟩ ?_ ?_
  ·rintro k σ H1 hk ⟨rs1,k1,k2,tb,rfl⟩;rw[show (0:Int)+(k:Int)=((k:Nat):Int) by omega];walk_at"";refine cw (by omega) ?_;rw[Gp];refine forR (λp σ H'=>∃rs2 k2,TB H H' qt rs rs2 n (λi j=>if i<p then jn (bJ M k) k i j else bJ M k i j)/\σ=[some (.ref qt),some (.int (n:Nat)),some (.int (k:Nat)),k2]) ⟨rs1,_,tb,rfl⟩ ?_ ?_
   ·rintro p σ H2 hp ⟨rs2,k2,tb2,rfl⟩;rw[show (0:Int)+(p:Int)=((p:Nat):Int) by omega];have hp2:p<rs2.length:=by rw[tb2.len];exact hp
    have hk2:k<rs2.length:=by rw[tb2.len];exact hk
    have gp:rs2[p]?=some rs2[p]:=Gb hp2;have gk:rs2[k]?=some rs2[k]:=Gb hk2;have rp:=tb2.rows.2 p _ gp;have rk:=tb2.rows.2 k _ gk;generalize rs2[p]=ap at gp rp;generalize rs2[k]=ak at gk rk;have ap1:bC (rs2.map V.ref) ((p:Nat):Int)=some (.ref ap):=eE (by rw[Gd,gp];rfl);have ak1:bC (rs2.map V.ref) ((k:Nat):Int)=some (.ref ak):=eE (by rw[Gd,gk];rfl);have rp':H2 ap=some (.lst (aQ n (bJ M k p))):=by rw[rp];congr 2;exact eP λj _=>by dsimp only;rw[He (Nat.lt_irrefl _)]
    have rk':H2 ak=some (.lst (aQ n (bJ M k k))):=by
     rw[rk];congr 2;refine eP λj _=>?_;dsimp only;by_cases hkp:k<p
     ·rw[Hf hkp];unfold jn;cases bJ M k k j<;>simp
     ·rw[He hkp]
    walk_at"";refine fj ?_;walk_at"";refine aG (ag.of tb2.rows.1) ap1 ?_;walk_at"";refine aG (ag.of rp') (dD (by omega) (by omega)) ?_;rw[Gp];walk_at"";cases hc:bJ M k p k with
    | false=>
     refine aC ?_;walk_at"";refine⟨rs2,_,tb2.congr λi j hi hj=>?_,rfl⟩
     try dsimp only
     by_cases h1:i<p
     ·rw[Hf h1,Hf (by omega)]
     ·rw[He h1];by_cases h2:i<p+1
      ·have:i=p:=by omega
       subst this;rw[Hf h2];unfold jn;rw[hc];simp
      ·rw[He h2]
    | true=>
     refine ay ?_;walk_at"";refine cw (by omega) ?_;rw[Gp];refine fz (λi ys H'=>H'=H2/\ys=aQ i (jn (bJ M k) k p)) (bN (by omega)) ⟨rfl,rfl⟩ ?_ ?_ ?_
     ·rintro i ys H' _ ⟨_,rfl⟩;rw[cD];exact Gw _
     ·rintro i ys H3 hi ⟨rfl,rfl⟩;rw[show (0:Int)+(i:Int)=((i:Nat):Int) by omega];walk_at"";refine ay ?_;walk_at"";refine aG (ag.of tb2.rows.1) ap1 ?_;walk_at"";refine aG (ag.of rp') (dD (by omega) (by omega)) ?_;rw[Gp];refine rd_exb ?_;cases hv:bJ M k p i with
      | true=>
       refine ay ⟨rfl,?_⟩;rw[jJ];congr 1;show[V.bl true]=[V.bl (bJ M k p i || _)];rw[hv];rfl
      | false=>
       refine aC ?_;walk_at"";refine aG (ag.of tb2.rows.1) ak1 ?_;walk_at"";refine aG (ag.of rk') (dD (by omega) (by omega)) ?_;rw[Gp];refine⟨rfl,?_⟩;rw[jJ];congr 1;show[V.bl (bJ M k k i)]=[V.bl (bJ M k p i || (bJ M k p k && bJ M k k i))];rw[hv,hc];simp
     ·rintro ys H3 p9 ⟨hH,rfl⟩ hp9;subst hH;have hq2:(upd H3 p9 (.lst (aQ n (jn (bJ M k) k p)))) qt=some (.lst (rs2.map V.ref)):=(bO hp9) _ _ tb2.rows.1;walk_at"";refine jb hq2 (i9 (by omega) (by rw[Ga,tb2.len];omega)) ?_;rw[Gp];refine⟨_,_,(tb2.set (f:=jn (bJ M k) k p) hp hp9).congr λi j hi hj=>?_,rfl⟩
      try dsimp only
      by_cases h1:i=p
      ·subst h1;rw[Hf rfl,Hf (by omega)]
      ·rw[He h1];by_cases h2:i<p
       ·rw[Hf h2,Hf (by omega)]
       ·rw[He h2,He (by omega)]
   ·rintro σ H2 ⟨rs2,k2,tb2,rfl⟩;exact⟨rs2,_,_,tb2.congr (λi j hi hj=>by rw[Hf hi];rfl),rfl⟩
  ·rintro σ H1 ⟨rs1,k1,k2,tb,rfl⟩;walk_at"";exact q rs1 _ H1 tb (tO M n)
def put2(M:Nat->Nat->Bool)(i x:Nat):Nat->Nat->Bool:=λj y=>if j=i/\y=x then true else M j y
structure TW(H H':Hp)(q:Addr)(rs:List Addr)(n:Nat)(M:Nat->Nat->Bool):Prop where
 keep:∀b o,b∉rs->H b=some o->H' b=some o
 len:rs.length=n
 nd:rs.Nodup
 nq:q∉rs
 rows:Rows H' q rs n M
def TW.mark{H H1:Hp}{q r:Addr}{rs:List Addr}{n i j:Nat}{M:Nat->Nat->Bool}(h:TW H H1 q rs n M)(hi:rs[i]?=some r)(hj:j<n):TW H (upd H1 r (.lst ((aQ n (M i)).set j (.bl true)))) q rs n (put2 M i j):=by
 have hm:=Gk hi;have nqr:q≠r:=λz=>h.nq (z ▸ hm);refine⟨λb o nb e=>?_,h.len,h.nd,h.nq,?_,λa r' ha=>?_⟩
 ·have nbr:b≠r:=λz=>nb (by rw[z];exact hm);rw[az nbr];exact h.keep b o nb e
 ·rw[az nqr];exact h.rows.1
 ·by_cases hai:a=i
  ·subst hai;rw[hi]at ha;cases ha;rw[aO,qw _ _ hj];congr 2;refine eP λy _=>?_;unfold put2;by_cases hy:y=j
   ·rw[Hf hy,Hf ⟨rfl,hy⟩]
   ·rw[He hy,He λz=>hy z.2]
  ·have nr:r'≠r:=λz=>hai ((List.getElem?_inj (by rw[h.len];exact(by rw[←h.len];exact(Gj.mp ha).1)) h.nd).mp (by rw[ha,hi,z]));rw[az nr,h.rows.2 a r' ha];congr 2;exact eP λy _=>by unfold put2;rw[He λz=>hai z.1]
structure ArchR(n:Nat)(us ds:List Way)(M M':Nat->Nat->Bool)(ad:Bool):Prop where
 le:∀i j,M i j=true->M' i j=true
 same:ad=false->∀i j,M' i j=M i j
 more:ad=true->∃i j,i<n/\j<n/\M i j=false/\M' i j=true
 least:∀S:Nat->Nat->Prop,(∀u∈us,∀d∈ds,S u.other.toNat d.room.toNat->S u.room.toNat d.other.toNat)->(∀i j,M i j=true->S i j)->∀i j,M' i j=true->S i j
def ArchR.refl{n:Nat}{us ds:List Way}{M:Nat->Nat->Bool}:ArchR n us ds M M false:=⟨λ_ _ h=>h,λ_ _ _=>rfl,λh=>(nomatch h),λ_ _ h=>h⟩
def ArchR.put{n:Nat}{us ds:List Way}{M M':Nat->Nat->Bool}{ad:Bool}(h:ArchR n us ds M M' ad){u d:Way}(hu:u∈us)(hd:d∈ds)(h1:M' u.other.toNat d.room.toNat=true)(h2:M' u.room.toNat d.other.toNat=false)(hn1:u.room.toNat<n)(hn2:d.other.toNat<n):ArchR n us ds M (put2 M' u.room.toNat d.other.toNat) true:=by
 have le:∀i j,M i j=true->put2 M' u.room.toNat d.other.toNat i j=true:=λi j hm=>by
  unfold put2;split
  ·rfl
  ·exact h.le i j hm
 refine⟨le,λz=>(nomatch z),λ_=>⟨_,_,hn1,hn2,?_,by unfold put2;rw[Hf ⟨rfl,rfl⟩]⟩,λS hS hm i j hp=>?_⟩
 ·rw[Bool.eq_false_iff];intro z;rw[h.le _ _ z]at h2;cases h2
 ·unfold put2 at hp;split at hp
  ·rename_i z;rw[z.1,z.2];exact hS u hu d hd (h.least S hS hm _ _ h1)
  ·exact h.least S hS hm i j hp
def rA(K:F6):Sp:=λvs H Q _=>∃q rs n M lu cu us ld cd ds,vs=[.ref q,.ref lu,.ref ld]/\TW H H q rs n M/\H lu=some (.lst (List.map V.ref cu))/\aM H cu us/\H ld=some (.lst (List.map V.ref cd))/\aM H cd ds/\lu∉rs/\ld∉rs/\(∀w∈us++ds,0<=w.room/\w.room<(n:Int)/\0<=w.other/\w.other<(n:Int)) ∧
 ∀M' ad H',TW H H' q rs n M'->ArchR n us ds M M' ad->(ad=false->∀u∈us,∀d∈ds,M u.other.toNat d.room.toNat=true->M u.room.toNat d.other.toNat=true)->Q (.bl ad) H'
abbrev mS:Stmt:=stq 42
def rQ:FnScope ["table","ups","downs","added","rise","fall"] ["table","ups","downs"] (aJ mS):=⟨rfl,rfl,rfl,by decide +kernel,rfl,by decide +kernel,by decide +kernel⟩
def Dh{P:Program}{w:World}{K:F6}{mg:Str->Option Value}{base:Heap}(D:Dfn K mg "add_arches" mS ["table","ups","downs"])(T:Blt mg):Cal P w K mg base "add_arches" 1 ["table","ups","downs"] (rA K):=by
 have nd:=(rQ).nd;refine D.ok rQ (λvs H Q E h=>?_) (λX hX H vs Q E h=>?_)
 ·obtain⟨q,rs,n,M,lu,cu,us,ld,cd,ds,rfl,_⟩:=h;rfl
 ·obtain⟨f,cdv,A,outer,s,H0,E0,rfl,hr⟩:=hX;obtain⟨qt,rs,n,M,lu,cu,us,ld,cd,ds,rfl,tw,hlu,hau,hld,had,nlu,nld,hin,q⟩:=h;have hcu:=hau.1;have hcd:=had.1;refine⟨_,(@ai _ _ _ _ _ (@aD _ _ 3 _ _ _ _ nd rfl (Or.inl rfl) bL rfl (Or.inl rfl))
    (@ai _ _ _ _ _ (bD PassesOwn.never rfl (cj K (pv 1)) (aR (i:=4) nd rfl (Or.inl rfl)) (@aq _ _ _ (bD PassesOwn.never rfl (cj K (pv 2)) (aR (i:=5) nd rfl (Or.inl rfl)) (@aq _ _ _ (cV (PW.pt (ir (cC (@ah _ _ _ _ _ _ _ (aH K) (@ah _ _ _ _ _ _ _ (aH K) (pv 0) (@ah _ _ _ _ _ _ _ (aA K) (pv 4) af (λ_ _=>rfl)) (λ_ _=>rfl)) (@ah _ _ _ _ _ _ _ (aA K) (pv 5) af (λ_ _=>rfl)) (λ_ _=>rfl))) (ji (fX (cC (@ah _ _ _ _ _ _ _ (aH K) (@ah _ _ _ _ _ _ _ (aH K) (pv 0) (@ah _ _ _ _ _ _ _ (aA K) (pv 4) af (λ_ _=>rfl)) (λ_ _=>rfl)) (@ah _ _ _ _ _ _ _ (aA K) (pv 5) af (λ_ _=>rfl)) (λ_ _=>rfl))))))) (@ai _ _ _ _ _ (@fZ _ _ _ _ _ _ bL (jN (@ah _ _ _ _ _ _ _ (aH K) (pv 0) (@ah _ _ _ _ _ _ _ (aA K) (pv 4) af (λ_ _=>rfl)) (λ_ _=>rfl)) (@ah _ _ _ _ _ _ _ (aA K) (pv 5) af (λ_ _=>rfl)) set_list) rfl rfl rfl)
    (@aq _ _ _ (@aD _ _ 3 _ _ _ _ nd rfl (Or.inl rfl) bL rfl (Or.inl rfl)))) bf)))))
    (@aq _ _ _ (@aI _ _ _ _ (pv 3))))),?_⟩
  have tupN:∀(b:Addr) (w:Way),H b=some (.tup w.vs)->b∉rs:=λb w hb z=>by obtain⟨j,hj⟩:=GX z;rw[tw.rows.2 j b hj]at hb;cases hb
  walk_at"";refine cb (ag.of hlu) ?_;refine forL (xs:=List.map V.ref cu) (λi σ H'=>∃M' ad k1 k2,TW H H' qt rs n M'/\ArchR n us ds M M' ad/\(ad=false->∀a,a<i->∀u,us[a]?=some u->∀d∈ds,M u.other.toNat d.room.toNat=true->M u.room.toNat d.other.toNat=true)/\σ=[some (.ref qt),some (.ref lu),some (.ref ld),some (.bl ad),k1,k2]) ⟨M,false,_,_,tw,.refl,λ_ a ha=>absurd ha (Nat.not_lt_zero _),rfl⟩ (λi σ H' _ h=>by obtain⟨M',ad,k1,k2,t,_⟩:=h;exact ag.of (t.keep _ _ nlu hlu)) ?_ ?_
  ·rintro i v σ H1 hx ⟨M1,ad,k1,k2,tw1,ar1,cl1,rfl⟩;rw[Gd]at hx;obtain⟨bu,hbu,rfl⟩:=Gn.mp hx;have hiu:i<us.length:=by rw[←hcu];exact(Gj.mp hbu).1
   have gu:us[i]?=some us[i]:=Gb hiu;have hbu0:=hau.2 i bu _ hbu gu;generalize us[i]=u at gu hbu0;have hum:=Gk gu;obtain⟨u0,u1,u2,u3⟩:=hin u (GS _ hum);walk_at"";refine cb (ag.of (tw1.keep _ _ nld hld)) ?_;refine forL (xs:=List.map V.ref cd) (λj σ H'=>∃M' ad k2,TW H H' qt rs n M'/\ArchR n us ds M M' ad/\(ad=false->(∀a,a<i->∀u,us[a]?=some u->∀d∈ds,M u.other.toNat d.room.toNat=true->M u.room.toNat d.other.toNat=true)/\∀b,b<j->∀d,ds[b]?=some d->M u.other.toNat d.room.toNat=true->M u.room.toNat d.other.toNat=true)/\σ=[some (.ref qt),some (.ref lu),some (.ref ld),some (.bl ad),some (.ref bu),k2]) ⟨M1,ad,_,tw1,ar1,λh=>⟨cl1 h,λb hb=>absurd hb (Nat.not_lt_zero _)⟩,rfl⟩ (λj σ H' _ h=>by obtain⟨M',ad,k2,t,_⟩:=h;exact ag.of (t.keep _ _ nld hld)) ?_ ?_
   ·rintro j v σ H2 hx2 ⟨M2,ad2,k2,tw2,ar2,cl2,rfl⟩;rw[Gd]at hx2;obtain⟨bd,hbd,rfl⟩:=Gn.mp hx2;have hid:j<ds.length:=by rw[←hcd];exact(Gj.mp hbd).1
    have gd:ds[j]?=some ds[j]:=Gb hid;have hbd0:=had.2 j bd _ hbd gd;generalize ds[j]=d at gd hbd0;have hdm:=Gk gd;obtain⟨d0,d1,d2,d3⟩:=hin d (GR _ hdm);have ku:=tw2.keep _ _ (tupN bu u hbu0) hbu0;have kd:=tw2.keep _ _ (tupN bd d hbd0) hbd0;have x1:u.other.toNat<rs.length:=by rw[tw2.len];omega
    have x2:u.room.toNat<rs.length:=by rw[tw2.len];omega
    have r1:rs[u.other.toNat]?=some rs[u.other.toNat]:=Gb x1;have r2:rs[u.room.toNat]?=some rs[u.room.toNat]:=Gb x2;have w1:=tw2.rows.2 _ _ r1;have w2:=tw2.rows.2 _ _ r2;generalize rs[u.other.toNat]=a1 at r1 w1;generalize rs[u.room.toNat]=a2 at r2 w2;have at1:bC (rs.map V.ref) u.other=some (.ref a1):=eG u2 (by rw[Gd,r1];rfl);have at2:bC (rs.map V.ref) u.room=some (.ref a2):=eG u0 (by rw[Gd,r2];rfl);have step:(M u.other.toNat d.room.toNat=true->M u.room.toNat d.other.toNat=true)->ad2=false->∀b,b<j+1->∀d',ds[b]?=some d'->M u.other.toNat d'.room.toNat=true->M u.room.toNat d'.other.toNat=true:=λhs hf b hb d' hd'=>by
     by_cases hbj:b<j
     ·exact(cl2 hf).2 b hbj d' hd'
     ·have:b=j:=by omega
      subst this;rw[gd]at hd';cases hd';exact hs
    walk_at"";refine fj ?_;walk_at"";refine aB (aj.of ku) (v:=.int u.other) rfl ?_;walk_at"";refine aG (ag.of tw2.rows.1) at1 ?_;walk_at"";refine aB (aj.of kd) (v:=.int d.room) rfl ?_;walk_at"";refine aG (ag.of w1) (dD d0 (by omega)) ?_;walk_at"";cases hm1:M2 u.other.toNat d.room.toNat with
    | false=>
     refine aC ?_;walk_at"";refine⟨M2,ad2,_,tw2,ar2,λhf=>⟨(cl2 hf).1,step (λz=>?_) hf⟩,rfl⟩;rw[ar2.same hf]at hm1;rw[hm1]at z;cases z
    | true=>
     refine ay ?_;walk_at"";refine aB (aj.of ku) (v:=.int u.room) rfl ?_;walk_at"";refine aG (ag.of tw2.rows.1) at2 ?_;walk_at"";refine aB (aj.of kd) (v:=.int d.other) rfl ?_;walk_at"";refine aG (ag.of w2) (dD d2 (by omega)) ?_;walk_at"";cases hm2:M2 u.room.toNat d.other.toNat with
     | true=>
      refine aC ?_;walk_at"";refine⟨M2,ad2,_,tw2,ar2,λhf=>⟨(cl2 hf).1,step (λ_=>?_) hf⟩,rfl⟩;rw[ar2.same hf]at hm2;exact hm2
     | false=>
      refine ay ?_;walk_at"";refine aB (aj.of ku) (v:=.int u.room) rfl ?_;walk_at"";refine aG (ag.of tw2.rows.1) at2 ?_;walk_at"";refine aB (aj.of kd) (v:=.int d.other) rfl ?_;walk_at"";refine jb w2 (i9 d2 (by rw[cD];omega)) ?_;walk_at"";exact⟨_,true,_,tw2.mark r2 (by omega),ar2.put hum hdm hm1 hm2 (by omega) (by omega),λz=>(nomatch z),rfl⟩
   ·rintro σ H2 ⟨M2,ad2,k2,tw2,ar2,cl2,rfl⟩;rw[Ga,hcd]at cl2;refine⟨M2,ad2,_,_,tw2,ar2,λhf a ha u' hu'=>?_,rfl⟩;by_cases hai:a<i
    ·exact(cl2 hf).1 a hai u' hu'
    ·have:a=i:=by omega
     subst this;rw[gu]at hu';cases hu';intro d hd;obtain⟨b,hb⟩:=GX hd;exact(cl2 hf).2 b (Gj.mp hb).1 d hb
  ·rintro σ H1 ⟨M1,ad,k1,k2,tw1,ar1,cl1,rfl⟩;rw[Ga,hcu]at cl1;walk_at"";refine q M1 ad H1 tw1 ar1 λhf u hu d hd=>?_;obtain⟨a,ha⟩:=GX hu;exact cl1 hf a (Gj.mp ha).1 u ha d hd
inductive Kpt(ws:List Way)(n:Nat):Nat->Nat->Prop
 | refl {i:Nat}:i<n->Kpt ws n i i
 | stay {w:Way}:w∈ws->w.deed = "stay"->Kpt ws n w.room.toNat w.other.toNat
 | trans {i a j:Nat}:Kpt ws n i a->Kpt ws n a j->Kpt ws n i j
 | arch {u d:Way}:u∈ws->u.deed = "up"->d∈ws->d.deed = "down"->Kpt ws n u.other.toNat d.room.toNat->Kpt ws n u.room.toNat d.other.toNat
def iL{m:Int}{ws:List Way}(ok:∀w∈ws,w.Ok m){w:Way}(hw:w∈ws):w.room.toNat<m.toNat/\w.other.toNat<m.toNat:=by have h:=ok w hw;have:=h.r0;have:=h.r1;have:=h.o0;have:=h.o1;omega
def Kpt.lt{m:Int}{ws:List Way}(ok:∀w∈ws,w.Ok m){i j:Nat}(h:Kpt ws m.toNat i j):i<m.toNat/\j<m.toNat:=by
 induction h with
 | refl h=>exact⟨h,h⟩
 | stay h _=>exact iL ok h
 | trans _ _ h1 h2=>exact⟨h1.1,h2.2⟩
 | arch h1 _ h2 _ _ _=>exact⟨(iL ok h1).1,(iL ok h2).2⟩
def Ag(ws:List Way)(M:Nat->Nat->Bool):Prop:=∀i j,M i j=true↔(i=j\/∃w∈ws,w.deed = "stay"/\w.room.toNat=i/\w.other.toNat=j)
def iu(n:Nat)(M:Nat->Nat->Bool):Nat:=((Hb n).flatMap λi=>(Hb n).map λj=>(i,j)).countP λz=>!M z.1 z.2
def vg{α:Type}{p p':α->Bool}(hi:∀y,p' y=true->p y=true){a:α}(ha:p a=true)(ha':p' a=false):∀{L:List α},a∈L->L.countP p'<L.countP p
 | b::L,hm=>by
  have hle:L.countP p'<=L.countP p:=List.countP_mono_left λy _=>hi y;rw[List.countP_cons,List.countP_cons];rcases Gq.mp hm with rfl|hm
  ·rw[ha,ha'];simp;omega
  ·have:=vg hi ha ha' hm;cases h1:p' b with
   | false=>simp[h1];split<;>omega
   | true=>rw[hi b h1];simp;omega
def BV{n i j:Nat}{M M':Nat->Nat->Bool}(hi:i<n)(hj:j<n)(le:∀a b,M a b=true->M' a b=true)(h1:M i j=false)(h2:M' i j=true):iu n M'<iu n M:=by
 refine vg (a:=(i,j)) (λy hy=>?_) (by simp[h1]) (by simp[h2]) (by simp;exact⟨hi,hj⟩);have hy':M' y.1 y.2=false:=by simpa using hy
 have:M y.1 y.2=false:=by rw[Bool.eq_false_iff];intro z;rw[le _ _ z]at hy';cases hy'
 simp[this]
structure KT(H H':Hp)(q:Addr)(rs:List Addr)(n:Nat)(M:Nat->Nat->Bool):Prop where
 ext:Ext H H'
 fq:H q=none
 fr:∀r∈rs,H r=none
 len:rs.length=n
 nd:rs.Nodup
 nq:q∉rs
 rows:Rows H' q rs n M
def KT.tw{H H':Hp}{q:Addr}{rs:List Addr}{n:Nat}{M:Nat->Nat->Bool}(h:KT H H' q rs n M):TW H' H' q rs n M:=⟨λ_ _ _ e=>e,h.len,h.nd,h.nq,h.rows⟩
def KT.tb{H H':Hp}{q:Addr}{rs:List Addr}{n:Nat}{M:Nat->Nat->Bool}(h:KT H H' q rs n M):TB H' H' q rs rs n M:=⟨λ_ _ _ e=>e,h.len,h.nd,h.nq,λ_ h=>.inl h,h.rows⟩
def KT.more{H H1 H2:Hp}{q:Addr}{rs:List Addr}{n:Nat}{M:Nat->Nat->Bool}(h:KT H H1 q rs n M)(e:Ext H1 H2):KT H H2 q rs n M:=⟨h.ext.trans e,h.fq,h.fr,h.len,h.nd,h.nq,h.rows.ext e⟩
def KT.byW{H H1 H2:Hp}{q:Addr}{rs:List Addr}{n:Nat}{M M':Nat->Nat->Bool}(h:KT H H1 q rs n M)(t:TW H1 H2 q rs n M'):KT H H2 q rs n M':=
 ⟨λb o e=>t.keep b o (λz=>by rw[h.fr b z]at e;cases e) (h.ext b o e),h.fq,h.fr,h.len,h.nd,h.nq,t.rows⟩
def KT.byB{H H1 H2:Hp}{q:Addr}{rs rs':List Addr}{n:Nat}{M M':Nat->Nat->Bool}(h:KT H H1 q rs n M)(t:TB H1 H2 q rs rs' n M'):KT H H2 q rs' n M':=
 ⟨λb o e=>t.keep b o (λz=>by rw[z,h.fq]at e;cases e) (h.ext b o e),h.fq,λr hr=>by
  rcases t.old r hr with z|z
  ·exact h.fr r z
  ·cases e:H r with
   | none=>rfl
   | some o=>exact absurd ((h.ext r o e).symm.trans z) (by simp),t.len,t.nd,t.nq,t.rows⟩
def yz(K:F6):Sp:=λvs H Q _=>∃vh m ws,vs=[vh]/\aY H vh m ws/\HOuse m ws/\∀q rs M H',KT H H' q rs m.toNat M->Ag ws M->Q (.ref q) H'
abbrev mJ:Stmt:=stq 40
def vT:FnScope ["house","table","p","way"] ["house"] (aJ mJ):=⟨rfl,rfl,rfl,by decide +kernel,rfl,by decide +kernel,by decide +kernel⟩
def FA{P:Program}{w:World}{K:F6}{mg:Str->Option Value}{base:Heap}(D:Dfn K mg "beginning_table" mJ ["house"])(T:Blt mg)(C_ways_of_deed:Cal P w K mg base "ways_of_deed" 1 ["house","deed"] (kr K)):Cal P w K mg base "beginning_table" 2 ["house"] (yz K):=by
 have nd:=(vT).nd;refine D.ok vT (λvs H Q E h=>?_) (λX hX H vs Q E h=>?_)
 ·obtain⟨vh,m,ws,rfl,_⟩:=h;rfl
 ·obtain⟨f,cdv,A,outer,s,H0,E0,rfl,hr⟩:=hX;obtain⟨vh,m,ws,rfl,hv,ok,q⟩:=h;have m1:=ok.m1;have m12:=ok.m12;obtain⟨hp0,hq0,rfl,hh,_⟩:=id hv;refine⟨_,(@ai _ _ _ _ _ (@aD _ _ 1 _ _ _ _ nd rfl (Or.inl rfl) (@aZ _ _ _ _ ae) rfl (Or.inl rfl))
    (@ai _ _ _ _ _ (bD PassesOwn.never rfl (cq rfl T.range_ (@aa _ _ _ _ _ (@ah _ _ _ _ _ _ _ (aA K) (pv 0) af (λ_ _=>rfl)) ae rfl)) (aR (i:=2) nd rfl (Or.inr rfl)) (@aq _ _ _ (br (bG K Gi Gx Gy bT (pv 1) (@aa _ _ _ _ _ (eC ["q"] [2] (cq rfl T.range_ (@aa _ _ _ _ _ (@ah _ _ _ _ _ _ _ (aA K) (pv 0) af (λ_ _=>rfl)) ae rfl)) (λ_=>(aR (i:=0) (show(["q","p"]:List Str).Nodup from by decide +kernel) rfl (Or.inl rfl) (Or.inr rfl))) (λ_=>fJ) (λ_=>(fb b6 (pv 1) (pv 0) (aP _)))) ae rfl)))))
    (@ai _ _ _ _ _ (bD PassesOwn.never rfl (cj K (aE C_ways_of_deed hr (@aa _ _ _ _ _ (pv 0) (@aa _ _ _ _ _ aF ae rfl) rfl))) (aR (i:=3) nd rfl (Or.inl rfl)) (@aq _ _ _ (@fZ _ _ _ _ _ _ bL (jN (@ah _ _ _ _ _ _ _ (aH K) (pv 1) (@ah _ _ _ _ _ _ _ (aA K) (pv 3) af (λ_ _=>rfl)) (λ_ _=>rfl)) (@ah _ _ _ _ _ _ _ (aA K) (pv 3) af (λ_ _=>rfl)) set_list) rfl rfl rfl)))
    (@aq _ _ _ (@aI _ _ _ _ (pv 1)))))),?_⟩
  walk_at"";refine aw λtq H1 e1 htq hfq=>?_;walk_at"";refine aB (aj.of (e1 _ _ hh)) (v:=.int m) rfl ?_;walk_at"";refine cw (by omega) ?_;refine forR (λp σ H'=>∃rs k1 k2,Ext H H'/\H' tq=some (.lst (List.map V.ref rs))/\(∀r∈rs,H r=none)/\rs.length=p/\rs.Nodup/\tq∉rs/\(∀(a:Nat) (r:Addr),rs[a]?=some r->H' r=some (.lst (aQ m.toNat λj=>decide (a=j))))/\σ=[some (.ref hp0),some (.ref tq),k1,k2]) ⟨[],_,_,e1,htq,λr hr=>(by cases hr),rfl,List.nodup_nil,by simp,λa r h=>by simp at h,rfl⟩ ?_ ?_
  ·rintro p σ H2 hp ⟨rs,k1,k2,e2,hq2,hfr,hln,hnd,hnq,hrs,rfl⟩;rw[show (0:Int)+(p:Int)=((p:Nat):Int) by omega];walk_at"";refine⟨bZ (ag.of hq2),?_⟩;walk_at"";refine aB (aj.of (e2 _ _ hh)) (v:=.int m) rfl ?_;walk_at"";refine cw (by omega) ?_;refine fz (λi ys H'=>H'=H2/\ys=aQ i (λj=>decide (p=j))) (bN (by omega)) ⟨rfl,rfl⟩ ?_ ?_ ?_
   ·rintro i ys H' _ ⟨_,rfl⟩;rw[cD];exact Gw _
   ·rintro i ys H3 hi ⟨rfl,rfl⟩;rw[show (0:Int)+(i:Int)=((i:Nat):Int) by omega];walk_at"";refine ay ?_;walk_at"";refine⟨rfl,?_⟩;rw[jJ];congr 3;rw[GN];simp;omega
   ·rintro ys H3 p9 ⟨hH,rfl⟩ hp9;subst hH;have e3:=bO (o:=.lst (aQ m.toNat λj=>decide (p=j))) hp9;have hq3:=e3 _ _ hq2;have h9:(upd H3 p9 (.lst (aQ m.toNat λj=>decide (p=j)))) p9=_:=aO;have e03:=e2.trans e3;have hrs3:∀(a:Nat) (r:Addr),rs[a]?=some r->(upd H3 p9 (.lst (aQ m.toNat λj=>decide (p=j)))) r=some (.lst (aQ m.toNat λj=>decide (a=j))):=λa r h=>e3 _ _ (hrs a r h);have n9:H p9=none:=by
     cases z:H p9 with
     | none=>rfl
     | some o=>rw[e2 _ _ z]at hp9;cases hp9
    have nin:p9∉rs:=λz=>by obtain⟨j,hj⟩:=GX z;rw[hrs j p9 hj]at hp9;cases hp9
    have nqp:tq≠p9:=λz=>by rw[z,hp9]at hq2;cases hq2
    generalize upd H3 p9 (.lst (aQ m.toNat λj=>decide (p=j)))=H4 at e3 hq3 h9 e03 hrs3 ⊢;walk_at"";refine bR hq3 (by rw[Ga];exact Nat.lt_of_le_of_lt (show rs.length<=12 by omega) (by decide)) ?_;walk_at"";have keep:∀b o,b≠tq->H4 b=some o->upd H4 tq (.lst (List.map V.ref rs++[.ref p9])) b=some o:=λb o nb e=>by rw[az nb];exact e
    refine⟨rs++[p9],_,_,cG e03 hfq,?_,λr hr=>?_,by rw[Gu,hln];rfl,?_,λz=>?_,λa r ha=>?_,rfl⟩
    ·rw[aO,Gs];rfl
    ·rcases Gz.mp hr with hr|hr
     ·exact hfr r hr
     ·rw[Gm.mp hr];exact n9
    ·rw[List.nodup_append];refine⟨hnd,by simp,λa ha c hc z=>?_⟩;rw[Gm.mp hc]at z;exact nin (z ▸ ha)
    ·rcases Gz.mp z with z|z
     ·exact hnq z
     ·exact nqp (Gm.mp z)
    ·by_cases hal:a<rs.length
     ·rw[GC hal]at ha;exact keep r _ (λz=>hnq (z ▸ Gk ha)) (hrs3 a r ha)
     ·rw[GA (by omega)]at ha;have hz:a-rs.length=0:=by have:=(Gj.mp ha).1;simp at this;omega
      rw[hz]at ha;cases ha;have:a=p:=by omega
      subst this;exact keep p9 _ (Ne.symm nqp) h9
  ·rintro σ H2 ⟨rs,k1,k2,e2,hq2,hfr,hln,hnd,hnq,hrs,rfl⟩;have tw:TW H2 H2 tq rs m.toNat (λi j=>decide (i=j)):=⟨λ_ _ _ e=>e,hln,hnd,hnq,hq2,hrs⟩;have kt:KT H H2 tq rs m.toNat (λi j=>decide (i=j)):=⟨e2,hfq,hfr,hln,hnd,hnq,hq2,hrs⟩;walk_at"";refine⟨.ref hp0,m,ws,_,rfl,hv.ext e2,ok,λl cs us H3 e3 hl3 hl hau hus=>?_⟩;have kt3:=kt.more e3;have nl:l∉rs:=λz=>by obtain⟨j,hj⟩:=GX z;rw[hrs j l hj]at hl3;cases hl3
   have hcs:=hau.1;have tupN:∀(b:Addr) (w:Way),H3 b=some (.tup w.vs)->b∉rs:=λb w hb z=>by obtain⟨j,hj⟩:=GX z;rw[kt3.rows.2 j b hj]at hb;cases hb
   refine cb (ag.of hl) ?_;refine forL (xs:=List.map V.ref cs) (λi σ H'=>∃M k1 k2,TW H3 H' tq rs m.toNat M/\(∀a b,M a b=true↔(a=b\/∃w∈us.take i,w.room.toNat=a/\w.other.toNat=b))/\σ=[some (.ref hp0),some (.ref tq),k1,k2]) ⟨_,_,_,kt3.tw,λa b=>by simp,rfl⟩ (λi σ H' _ h=>by obtain⟨M,k1,k2,t,_⟩:=h;exact ag.of (t.keep _ _ nl hl)) ?_ ?_
   ·rintro i v σ H4 hx ⟨M,k1,k2,tw4,hM,rfl⟩;rw[Gd]at hx;obtain⟨b,hb,rfl⟩:=Gn.mp hx;have hi:i<us.length:=by rw[←hcs];exact(Gj.mp hb).1
    have gu:us[i]?=some us[i]:=Gb hi;have hb0:=hau.2 i b _ hb gu;generalize us[i]=u at gu hb0;have hum:u∈ws:=by have:=Gk gu;rw[hus]at this;exact(List.mem_filter.mp this).1
    have oku:=ok.ok u hum;have u0:=oku.r0;have u1:=oku.r1;have u2:=oku.o0;have u3:=oku.o1;have kb:=tw4.keep _ _ (tupN b u hb0) hb0;have x2:u.room.toNat<rs.length:=by rw[tw4.len];omega
    have r2:rs[u.room.toNat]?=some rs[u.room.toNat]:=Gb x2;have w2:=tw4.rows.2 _ _ r2;generalize rs[u.room.toNat]=a2 at r2 w2;have at2:bC (rs.map V.ref) u.room=some (.ref a2):=eG u0 (by rw[Gd,r2];rfl);walk_at"";refine aB (aj.of kb) (v:=.int u.room) rfl ?_;walk_at"";refine aG (ag.of tw4.rows.1) at2 ?_;walk_at"";refine aB (aj.of kb) (v:=.int u.other) rfl ?_;walk_at"";refine jb w2 (i9 u2 (by rw[cD];omega)) ?_;refine⟨_,_,_,tw4.mark r2 (by omega),λa c=>?_,rfl⟩;rw[List.take_add_one,gu];unfold put2;split
    ·rename_i z;simp only[true_iff];exact .inr ⟨u,GR _ (by simp),z.1.symm,z.2.symm⟩
    ·rename_i z;rw[hM];constructor
     ·rintro(h|⟨w,hw,h⟩)
      ·exact .inl h
      ·exact .inr ⟨w,GS _ hw,h⟩
     ·rintro(h|⟨w,hw,h1,h2⟩)
      ·exact .inl h
      ·rcases Gz.mp hw with hw|hw
       ·exact .inr ⟨w,hw,h1,h2⟩
       ·have:w=u:=by simpa using hw
        subst this;exact absurd ⟨h1.symm,h2.symm⟩ z
   ·rintro σ H4 ⟨M,k1,k2,tw4,hM,rfl⟩;rw[Ga,hcs,GG]at hM;walk_at"";refine q tq rs M H4 (kt3.byW tw4) λa b=>?_;rw[hM,hus];constructor
    ·rintro(h|⟨w,hw,h⟩)
     ·exact .inl h
     ·obtain⟨h1,h2⟩:=List.mem_filter.mp hw;exact .inr ⟨w,h1,of_decide_eq_true h2,h⟩
    ·rintro(h|⟨w,hw,hd,h⟩)
     ·exact .inl h
     ·exact .inr ⟨w,List.mem_filter.mpr ⟨hw,Hd hd⟩,h⟩
structure UD(H:Hp)(tq:Addr)(rs:List Addr)(lu ld:Addr)(cu cd:List Addr)(us ds:List Way):Prop where
 u:H lu=some (.lst (List.map V.ref cu))
 au:aM H cu us
 d:H ld=some (.lst (List.map V.ref cd))
 ad:aM H cd ds
 nu:lu∉rs
 nd:ld∉rs
 qu:lu≠tq
 qd:ld≠tq
def aM.byW{H H':Hp}{q:Addr}{rs:List Addr}{n:Nat}{M M':Nat->Nat->Bool}(r:Rows H q rs n M)(t:TW H H' q rs n M'){bs:List Addr}{ws:List Way}(h:aM H bs ws):aM H' bs ws:=⟨h.1,λj b w e1 e2=>by have hb:=h.2 j b w e1 e2;refine t.keep b _ (λz=>?_) hb;obtain⟨j,hj⟩:=GX z;rw[r.2 j b hj]at hb;cases hb⟩
def aM.byB{H H':Hp}{q:Addr}{rs rs':List Addr}{n:Nat}{M M':Nat->Nat->Bool}(r:Rows H q rs n M)(t:TB H H' q rs rs' n M'){bs:List Addr}{ws:List Way}(h:aM H bs ws):aM H' bs ws:=⟨h.1,λj b w e1 e2=>by have hb:=h.2 j b w e1 e2;refine t.keep b _ (λz=>?_) hb;rw[z,r.1]at hb;cases hb⟩
def UD.byW{H H':Hp}{tq:Addr}{rs:List Addr}{lu ld:Addr}{cu cd:List Addr}{us ds:List Way}{n:Nat}{M M':Nat->Nat->Bool}(r:Rows H tq rs n M)(t:TW H H' tq rs n M')(h:UD H tq rs lu ld cu cd us ds):UD H' tq rs lu ld cu cd us ds:=
 ⟨t.keep _ _ h.nu h.u,h.au.byW r t,t.keep _ _ h.nd h.d,h.ad.byW r t,h.nu,h.nd,h.qu,h.qd⟩
def UD.byB{H H':Hp}{tq:Addr}{rs rs':List Addr}{lu ld:Addr}{cu cd:List Addr}{us ds:List Way}{n:Nat}{M M':Nat->Nat->Bool}(r:Rows H tq rs n M)(t:TB H H' tq rs rs' n M')(h:UD H tq rs lu ld cu cd us ds):UD H' tq rs' lu ld cu cd us ds:=by
 have no:∀l o,H l=some o->l∉rs->l∉rs':=λl o hl hn z=>by
  rcases t.old l z with y|y
  ·exact hn y
  ·rw[hl]at y;cases y
 exact⟨t.keep _ _ h.qu h.u,h.au.byB r t,t.keep _ _ h.qd h.d,h.ad.byB r t,no _ _ h.u h.nu,no _ _ h.d h.nd,h.qu,h.qd⟩
def qB(ws:List Way)(n:Nat)(M:Nat->Nat->Bool):Prop:=∀i j,i<n->j<n->(M i j=true↔Kpt ws n i j)
structure KJ(ws:List Way)(n:Nat)(M:Nat->Nat->Bool):Prop where
 beg:∀i j,(i=j\/∃w∈ws,w.deed = "stay"/\w.room.toNat=i/\w.other.toNat=j)->M i j=true
 snd:∀i j,M i j=true->i=j\/Kpt ws n i j
def Al{m:Int}{ws:List Way}{M:Nat->Nat->Bool}(ok:∀w∈ws,w.Ok m)(h:KJ ws m.toNat M)(tr:∀i a j,a<m.toNat->M i a=true->M a j=true->M i j=true)(ar:∀u∈ws.filter (λw=>decide (w.deed=GP "up")),∀d∈ws.filter (λw=>decide (w.deed=GP "down")),M u.other.toNat d.room.toNat=true->M u.room.toNat d.other.toNat=true):qB ws m.toNat M:=by
 intro i j hi hj;constructor
 ·intro hm;rcases h.snd i j hm with rfl|h
  ·exact .refl hi
  ·exact h
 ·intro hk;clear hi hj;induction hk with
  | refl _=>exact h.beg _ _ (.inl rfl)
  | stay h1 h2=>exact h.beg _ _ (.inr ⟨_,h1,h2,rfl,rfl⟩)
  | trans h1 h2 i1 i2=>exact tr _ _ _ (Kpt.lt ok h1).2 i1 i2
  | arch h1 h2 h3 h4 h5 ih=>exact ar _ (List.mem_filter.mpr ⟨h1,Hd h2⟩) _ (List.mem_filter.mpr ⟨h3,Hd h4⟩) ih
def KJ.join{m:Int}{ws:List Way}{M M':Nat->Nat->Bool}(h:KJ ws m.toNat M)(j:Joined m.toNat M M'):KJ ws m.toNat M':=by
 refine⟨λa b hb=>j.le _ _ (h.beg a b hb),λa b hm=>j.least (λa b=>a=b\/Kpt ws m.toNat a b) (λi a j h1 h2=>?_) h.snd a b hm⟩;rcases h1 with rfl|h1
 ·exact h2
 ·rcases h2 with rfl|h2
  ·exact .inr h1
  ·exact .inr (.trans h1 h2)
def KJ.arch{m:Int}{ws:List Way}{M M':Nat->Nat->Bool}{ad:Bool}(ok:∀w∈ws,w.Ok m)(h:KJ ws m.toNat M)(a:ArchR m.toNat (ws.filter λw=>decide (w.deed=GP "up")) (ws.filter λw=>decide (w.deed=GP "down")) M M' ad):KJ ws m.toNat M':=by
 refine⟨λi j hb=>a.le _ _ (h.beg i j hb),λi j hm=>a.least (λa b=>a=b\/Kpt ws m.toNat a b) (λu hu d hd hs=>?_) h.snd i j hm⟩;obtain⟨u1,u2⟩:=List.mem_filter.mp hu;obtain⟨d1,d2⟩:=List.mem_filter.mp hd;have u2:=of_decide_eq_true u2;have d2:=of_decide_eq_true d2;right;refine .arch u1 u2 d1 d2 ?_;rcases hs with hs|hs
 ·rw[hs];exact .refl (iL ok d1).1
 ·exact hs
def pH(K:F6):Sp:=λvs H Q _=>∃vh m ws,vs=[vh]/\aY H vh m ws/\HOuse m ws/\∀q rs M H',KT H H' q rs m.toNat M->qB ws m.toNat M->Q (.ref q) H'
abbrev pO:Stmt:=stq 43
def yA:FnScope ["house","table","ups","downs"] ["house"] (aJ pO):=⟨rfl,rfl,rfl,by decide +kernel,rfl,by decide +kernel,by decide +kernel⟩
def Ay{P:Program}{w:World}{K:F6}{mg:Str->Option Value}{base:Heap}(D:Dfn K mg "kept_table" pO ["house"])(T:Blt mg)(C_add_arches:Cal P w K mg base "add_arches" 1 ["table","ups","downs"] (rA K))(C_join_walks:Cal P w K mg base "join_walks" 1 ["table"] (rZ K))(C_ways_of_deed:Cal P w K mg base "ways_of_deed" 1 ["house","deed"] (kr K))(C_beginning_table:Cal P w K mg base "beginning_table" 2 ["house"] (yz K)):Cal P w K mg base "kept_table" 3 ["house"] (pH K):=by
 have nd:=(yA).nd;refine D.ok yA (λvs H Q E h=>?_) (λX hX H vs Q E h=>?_)
 ·obtain⟨vh,m,ws,rfl,_⟩:=h;rfl
 ·obtain⟨f,cdv,A,outer,s,H0,E0,rfl,hr⟩:=hX;obtain⟨vh,m,ws,rfl,hv,ok,q⟩:=h;have m1:=ok.m1;have m12:=ok.m12;refine⟨_,(ai (aD (i:=1) nd rfl (Or.inl rfl) (aE C_beginning_table hr (aa (pv 0) ae)))
    (ai (aD (i:=2) nd rfl (Or.inl rfl) (aE C_ways_of_deed hr (aa (pv 0) (aa aF ae))))
    (ai (aD (i:=3) nd rfl (Or.inl rfl) (aE C_ways_of_deed hr (aa (pv 0) (aa aF ae))))
    (ai (br (aE C_join_walks hr (aa (pv 1) ae)))
    (ai (gB PassesOwn.never (cC (aE C_add_arches hr (aa (pv 1) (aa (pv 2) (aa (pv 3) ae))))) (aq (br (aE C_join_walks hr (aa (pv 1) ae)))))
    (aq (aI (pv 1)))))))),?_⟩
  walk_at"";refine⟨vh,m,ws,rfl,hv,ok,λtq rs M H1 kt bg=>?_⟩;walk_at"";refine⟨vh,m,ws,_,rfl,hv.ext kt.ext,ok,λlu cu us H2 e2 hlu hlu2 hau hus=>?_⟩;walk_at"";refine⟨vh,m,ws,_,rfl,hv.ext (kt.ext.trans e2),ok,λld cd ds H3 e3 hld hld2 had hds=>?_⟩;have kt3:=kt.more (e2.trans e3);have kj:KJ ws m.toNat M:=⟨λi j h=>(bg i j).mpr h,λi j h=>by
   rcases(bg i j).mp h with h|⟨w,hw,hd,rfl,rfl⟩
   ·exact .inl h
   ·exact .inr (.stay hw hd)⟩
  have nin:∀l,H1 l=none->l∉rs/\l≠tq:=λl hl=>by
   refine⟨λz=>?_,λz=>?_⟩
   ·obtain⟨j,hj⟩:=GX z;rw[kt.rows.2 j l hj]at hl;cases hl
   ·rw[z,kt.rows.1]at hl;cases hl
  have hld1:H1 ld=none:=by
   cases z:H1 ld with
   | none=>rfl
   | some o=>rw[e2 _ _ z]at hld;cases hld
  have ud:UD H3 tq rs lu ld cu cd us ds:=⟨e3 _ _ hlu2,hau.ext e3,hld2,had,(nin lu hlu).1,(nin ld hld1).1,(nin lu hlu).2,(nin ld hld1).2⟩;have hin:∀w∈us++ds,0<=w.room/\w.room<(m.toNat:Int)/\0<=w.other/\w.other<(m.toNat:Int):=λw hw=>by
   have hw':w∈ws:=by
    rcases Gz.mp hw with h|h
    ·rw[hus]at h;exact(List.mem_filter.mp h).1
    ·rw[hds]at h;exact(List.mem_filter.mp h).1
   have h:=ok.ok w hw';have h1:=h.r0;have h2:=h.r1;have h3:=h.o0;have h4:=h.o1;omega
  clear hlu2 hau hld2 had nin hld1;walk_at"";refine⟨tq,rs,m.toNat,M,rfl,kt3.tb,by omega,λrs1 M1 H4 tb jd=>?_⟩;have kt4:=kt3.byB tb;have ud4:=ud.byB kt3.rows tb;have kj4:=kj.join jd;walk_at"";refine gF (λmm σ H'=>∃rs M,KT H H' tq rs m.toNat M/\UD H' tq rs lu ld cu cd us ds/\KJ ws m.toNat M/\(∀i a j,a<m.toNat->M i a=true->M a j=true->M i j=true)/\mm=iu m.toNat M/\σ=[some vh,some (.ref tq),some (.ref lu),some (.ref ld)]) (λσ H'=>∃rs M,KT H H' tq rs m.toNat M/\qB ws m.toNat M/\σ=[some vh,some (.ref tq),some (.ref lu),some (.ref ld)]) (iu m.toNat M1) ⟨rs1,M1,kt4,ud4,kj4,jd.tr,rfl,rfl⟩ ?_ ?_
  ·rintro mm σ H5 ⟨rs5,M5,kt5,ud5,kj5,tr5,rfl,rfl⟩;walk_at"";refine⟨tq,rs5,m.toNat,M5,lu,cu,us,ld,cd,ds,rfl,kt5.tw,ud5.u,ud5.au,ud5.d,ud5.ad,ud5.nu,ud5.nd,hin,λM6 ad H6 tw ar cl=>?_⟩;have kt6:=kt5.byW tw;have ud6:=ud5.byW kt5.rows tw;rw[hus,hds]at ar;have kj6:=kj5.arch ok.ok ar;walk_at"";cases ad with
   | false=>
    refine aC ⟨rs5,M6,kt6,Al ok.ok kj6 (λi a j ha h1 h2=>?_) (λu hu d hd hm=>?_),rfl⟩
    ·rw[ar.same rfl]at h1 h2 ⊢;exact tr5 i a j ha h1 h2
    ·rw[ar.same rfl]at hm ⊢;exact cl rfl u (by rw[hus];exact hu) d (by rw[hds];exact hd) hm
   | true=>
    refine ay ⟨λσ' H'=>∃rs M,KT H H' tq rs m.toNat M/\UD H' tq rs lu ld cu cd us ds/\KJ ws m.toNat M/\(∀i a j,a<m.toNat->M i a=true->M a j=true->M i j=true)/\iu m.toNat M<iu m.toNat M5/\σ'=[some vh,some (.ref tq),some (.ref lu),some (.ref ld)],λσ' H' ⟨rs,M,a1,a2,a3,a4,a5,a6⟩=>⟨_,a5,rs,M,a1,a2,a3,a4,rfl,a6⟩,?_⟩;walk_at"";refine⟨tq,rs5,m.toNat,M6,rfl,kt6.tb,by omega,λrs7 M7 H7 tb7 jd7=>?_⟩;walk_at"";obtain⟨i,j,hi,hj,hf,ht⟩:=ar.more rfl;exact⟨rs7,M7,kt6.byB tb7,ud6.byB kt6.rows tb7,kj6.join jd7,jd7.tr,BV hi hj (λa b h=>jd7.le _ _ (ar.le _ _ h)) hf (jd7.le _ _ ht),rfl⟩
  ·rintro σ H5 ⟨rs5,M5,kt5,hk5,rfl⟩;walk_at"";exact q tq rs5 M5 H5 kt5 hk5
def nL{sp:Sp}{js:List Nat}{cells:List (Str×Addr)}{N:List Str}{ta:TA}{σ:St}{H:Hp}{Q:VK} (h:ta σ H λvs H1=>(∀j∈js,∃v,σ[j]?=some (some v)) ∧
 ∀cp:List Cap,cp.length=js.length->(∀(i j:Nat) (e:Cap),js[i]?=some j->cp[i]?=some e->N[j]?=some e.n/\cells.lookup e.n=some e.c/\σ[j]?=some (some e.v)/\H1 e.c=none/\∃u,e.o.data=.cell (some u)/\RelV e.v u) →
  sp vs (bE (cellsOf cp) H1) (λv H'=>(∀b o,(cellsOf cp).lookup b=some o->H' b=some (cM b o))/\Q v (aW (cellsOf cp) H')) E0):jm sp js cells N ta σ H Q:=h
def xk{P:Program}{w:World}{K:F6}{mg:Str->Option Value}{base:Heap}{k:Nat}{tf:TE}{ta:TA}{σ:St}{H:Hp}{Q:VK}(h:tf σ H λfv H1=>∃f pre R,fv=.ref f/\FunR P w K mg base k f pre R/\pre H1/\ta σ H1 λvs H2=>pre H2/\R vs H2 Q):qV P w K mg base k tf ta σ H Q:=h
def kQ{cs:List (Addr×Obj)}{H:Hp}(hn:∀b o,cs.lookup b=some o->H b=none):Ext H (bE cs H):=λb o e=>m3 hn e
def fN{cs:List (Addr×Obj)}{H:Hp}(hc:∀b o,cs.lookup b=some o->H b=some (cM b o)){b:Addr}{x:HO}(hb:H b=some x)(nx:∀f,x≠.ext f):aW cs H b=some x:=by
 cases q:cs.lookup b with
 | none=>rw[cx q];exact hb
 | some o=>rw[hc b o q]at hb;cases hb;exact absurd rfl (nx _)
def Dj{cs:List (Addr×Obj)}{H:Hp}(hc:∀b o,cs.lookup b=some o->H b=some (cM b o)):Ext H (bE cs (aW cs H)):=λb x e=>by
 cases q:cs.lookup b with
 | none=>rw[cH q,cx q];exact e
 | some o=>rw[dW q,←hc b o q];exact e
def yR{cs:List (Addr×Obj)}{H H':Hp}(hn:∀b o,cs.lookup b=some o->H b=none)(e:Ext (bE cs H) H'):Ext H (aW cs H'):=λb x hb=>by
 cases q:cs.lookup b with
 | none=>rw[cx q];exact e b x (by rw[cH q];exact hb)
 | some o=>rw[hn b o q]at hb;cases hb
def cS(n:Nat)(g:Nat->Nat->Bool):Nat->List Bfs.Pl
 | 0=>[]
 | p+1=>cS n g p++((Hb n).filter (g p)).map λq:Nat=>(((p:Nat):Int),((q:Nat):Int))
def iw{n:Nat}{g:Nat->Nat->Bool}{x:Bfs.Pl}:∀{k:Nat},x∈cS n g k↔∃p q:Nat,p<k/\q<n/\g p q=true/\x=(((p:Nat):Int),((q:Nat):Int))
 | 0=>⟨λh=>(nomatch h),λ⟨p,_,h,_⟩=>absurd h (Nat.not_lt_zero _)⟩
 | k+1=>by
  show x∈cS n g k++_↔_;rw[Gz,iw (k:=k)];constructor
  ·rintro(⟨p,q,h1,h2⟩|h)
   ·exact⟨p,q,by omega,h2⟩
   ·obtain⟨q,hq,rfl⟩:=List.mem_map.mp h;obtain⟨h1,h2⟩:=List.mem_filter.mp hq;exact⟨k,q,by omega,List.mem_range.mp h1,h2,rfl⟩
  ·rintro⟨p,q,h1,h2,h3,rfl⟩;by_cases hp:p<k
   ·exact .inl ⟨p,q,hp,h2,h3,rfl⟩
   ·have:p=k:=by omega
    subst this;exact .inr (List.mem_map.mpr ⟨q,List.mem_filter.mpr ⟨List.mem_range.mpr h2,h3⟩,rfl⟩)
def mF(n:Nat)(g:Nat->Bool):((Hb n).filter g).length<=n:=GI (List.length_filter_le _ _) (by rw[List.length_range];exact Gw _)
def mH{n:Nat}{g:Nat->Nat->Bool}:∀k:Nat,(cS n g k).length<=k*n
 | 0=>by simp[cS]
 | k+1=>by show(cS n g k++_).length<=_;rw[Gu,Ga,Nat.succ_mul];have:=mH (n:=n) (g:=g) k;have:=mF n (g k);omega
def bY{H H':Hp}(f:∀a x,ao H a x->ao H' a x){as:List Addr}{xs:List Bfs.Pl}(h:Paired (ao H) as xs):Paired (ao H') as xs:=by
 induction h with
 | nil=>exact .nil
 | cons h t ih=>exact .cons (f _ _ h) ih
def jD{H:Hp}{as:List Addr}{xs:List Bfs.Pl}{a:Addr}{x:Bfs.Pl}(h:Paired (ao H) as xs)(ht:ao H a x):Paired (ao H) (as++[a]) (xs++[x]):=by
 induction h with
 | nil=>exact .cons ht .nil
 | cons h _ ih=>exact .cons h ih
def v7{H:Hp}{as bs:List Addr}{xs ys:List Bfs.Pl}(h:Paired (ao H) as xs)(h':Paired (ao H) bs ys):Paired (ao H) (as++bs) (xs++ys):=by
 induction h with
 | nil=>exact h'
 | cons h _ ih=>exact .cons h ih
def dk{H:Hp}{as:List Addr}{xs:List Bfs.Pl}(h:Paired (ao H) as xs):as.length=xs.length:=by
 induction h with
 | nil=>rfl
 | cons _ _ ih=>rw[GF,GF,ih]
def nA(P:Program)(w:World)(K:F6)(mg:Str->Option Value)(base:Heap):Sp:=λvs H Q _=>∃vh m ws f pre g,vs=[vh,.ref f]/\aY H vh m ws/\HOuse m ws/\FunR P w K mg base 1 f pre (λvs H Q=>∃p q:Nat,vs=[.int (p:Nat),.int (q:Nat)]/\(p:Int)<m/\(q:Int)<m/\∀H',Ext H H'->Q (.bl (g p q)) H')/\pre H/\(∀H H',Ext H H'->pre H->pre H') ∧
 ∀l ps H',Ext H H'->H l=none->H' l=some (.lst (List.map V.ref ps))->Paired (ao H') ps (cS m.toNat g m.toNat)->Q (.ref l) H'
abbrev mL:Stmt:=stq 39
def wB:FnScope ["house","choice","pairs","p"] ["house","choice"] (aJ mL):=⟨rfl,rfl,rfl,by decide +kernel,rfl,by decide +kernel,by decide +kernel⟩
def B6{P:Program}{w:World}{K:F6}{mg:Str->Option Value}{base:Heap}(D:Dfn K mg "told_pairs" mL ["house","choice"])(T:Blt mg):Cal P w K mg base "told_pairs" 2 ["house","choice"] (nA P w K mg base):=by
 have nd:=(wB).nd;refine D.ok wB (λvs H Q E h=>?_) (λX hX H vs Q E h=>?_)
 ·obtain⟨vh,m,ws,f,pre,g,rfl,_⟩:=h;rfl
 ·obtain⟨f,cdv,A,outer,s,H0,E0,rfl,hr⟩:=hX;obtain⟨vh,m,ws,ff,pre,g,rfl,hv,ok,hF,hpre,hmono,q⟩:=h;have m1:=ok.m1;have m12:=ok.m12;obtain⟨hp0,hq0,rfl,hh,_⟩:=id hv;refine⟨_,(@ai _ _ _ _ _ (@aD _ _ 2 _ _ _ _ nd rfl (Or.inl rfl) (@aZ _ _ _ _ ae) rfl (Or.inl rfl))
    (@ai _ _ _ _ _ (bD PassesOwn.never rfl (cq rfl T.range_ (@aa _ _ _ _ _ (@ah _ _ _ _ _ _ _ (aA K) (pv 0) af (λ_ _=>rfl)) ae rfl)) (aR (i:=3) nd rfl (Or.inr rfl)) (@aq _ _ _ (br (bG K Gi PySem.F.slot_list_extend PySem.F.type_list_extend Dd (pv 2) (@aa _ _ _ _ _ (eC ["q"] [3,1] (cq rfl T.range_ (@aa _ _ _ _ _ (@ah _ _ _ _ _ _ _ (aA K) (pv 0) af (λ_ _=>rfl)) ae rfl)) (λ_=>(aR (i:=0) (show(["q","p","choice"]:List Str).Nodup from by decide +kernel) rfl (Or.inl rfl) (Or.inr rfl))) (λ_=>(fY (cC (uN (P:=P) (w:=w) (K:=K) (mg:=mg) (base:=base) hr (pv 2) (@aa _ _ _ _ _ (pv 1) (@aa _ _ _ _ _ (pv 0) ae rfl) rfl))))) (λ_=>(@aT _ _ _ _ _ (@aa _ _ _ _ _ (pv 1) (@aa _ _ _ _ _ (pv 0) ae rfl) rfl)))) ae rfl)))))
    (@aq _ _ _ (@aI _ _ _ _ (pv 2))))),?_⟩
  walk_at"";refine aw λl H1 e1 hl hfl=>?_;walk_at"";refine aB (aj.of (e1 _ _ hh)) (v:=.int m) rfl ?_;walk_at"";refine cw (by omega) ?_;refine forR (λp σ H'=>∃ps k1,Ext H H'/\H' l=some (.lst (List.map V.ref ps))/\Paired (ao H') ps (cS m.toNat g p)/\σ=[some (.ref hp0),some (.ref ff),some (.ref l),k1]) ⟨[],_,e1,hl,.nil,rfl⟩ ?_ ?_
  ·rintro p σ H2 hp ⟨ps,k1,e2,hl2,hps,rfl⟩;rw[show (0:Int)+(p:Int)=((p:Nat):Int) by omega];have hpl:=dk hps;have hpn:=mH (n:=m.toNat) (g:=g) p;have hpm:p*m.toNat<=12*12:=Nat.mul_le_mul (by omega) (by omega);walk_at"";refine⟨bZ (ag.of hl2),?_⟩;walk_at"";refine aB (aj.of (e2 _ _ hh)) (v:=.int m) rfl ?_;walk_at"";refine cw (by omega) ?_;refine fz (λi ys H'=>Ext H2 H'/\∃cs,ys=List.map V.ref cs/\Paired (ao H') cs (((Hb i).filter (g p)).map λq:Nat=>(((p:Nat):Int),((q:Nat):Int)))) (bN (by omega)) ⟨Ext.rfl' _,[],rfl,.nil⟩ ?_ ?_ ?_
   ·rintro i ys H' _ ⟨_,cs,rfl,hcs⟩;rw[Ga,dk hcs,Ga];exact mF i (g p)
   ·rintro i ys H3 hi ⟨e3,cs,rfl,hcs⟩;rw[show (0:Int)+(i:Int)=((i:Nat):Int) by omega];have e23:=e2.trans e3;walk_at"";refine xk ?_;walk_at"";refine⟨ff,pre,_,rfl,hF,hmono _ _ e23 hpre,?_⟩;walk_at"";refine⟨hmono _ _ e23 hpre,p,i,rfl,by omega,by omega,λH4 e4=>?_⟩;have e24:=e3.trans e4;cases hg:g p i with
    | false=>
     refine rd_exb (aC ⟨e24,cs,rfl,?_⟩);rw[List.range_succ,List.filter_append];have:List.filter (g p) [i]=[]:=by rw[List.filter_cons,He (by rw[hg];exact Gr)];rfl
     rw[this,List.append_nil];exact bY (λa x h=>e4 _ _ h) hcs
    | true=>
     refine rd_exb (ay ?_);walk_at"";refine aw λt H5 e5 ht _=>?_;refine⟨e24.trans e5,cs++[t],?_,?_⟩
     ·rw[Gs];rfl
     ·rw[List.range_succ,List.filter_append,Gs];have:List.filter (g p) [i]=[i]:=by rw[List.filter_cons,Hf hg];rfl
      rw[this];exact jD (bY (λa x h=>(e4.trans e5) _ _ h) hcs) ht
   ·rintro ys H3 p9 ⟨e3,cs,rfl,hcs⟩ hp9;have e4:=bO (o:=.lst (List.map V.ref cs)) hp9;have h9:(upd H3 p9 (.lst (List.map V.ref cs))) p9=_:=aO;have hcs4:=bY (λa x h=>e4 _ _ h) hcs;have e24:=e3.trans e4;have hl4:=e24 _ _ hl2;have hps4:=bY (λa x h=>e24 _ _ h) hps;generalize upd H3 p9 (.lst (List.map V.ref cs))=H4 at e4 h9 hcs4 e24 hl4 hps4 ⊢;have hcl:=dk hcs;rw[Ga]at hcl;have hfl2:=mF m.toNat (g p);walk_at"";refine⟨l,p9,_,_,rfl,rfl,hl4,h9,bN (by rw[Ga,Ga];omega),?_⟩;walk_at"";refine⟨ps++cs,_,cG (e2.trans e24) hfl,?_,?_,rfl⟩
    ·rw[aO,Gs]
    ·exact v7 (bY (λa x h=>ao.put hl4 (λxs z=>by cases z) h) hps4) (bY (λa x h=>ao.put hl4 (λxs z=>by cases z) h) hcs4)
  ·rintro σ H2 ⟨ps,k1,e2,hl2,hps,rfl⟩;walk_at"";exact q l ps H2 e2 hfl hl2 hps
def dJ(K:F6):Prop:=∀x∈(["kept","low_levels","risen"]:List Str),∀y∈(["kept","low_levels","risen"]:List Str),x≠y->∀c T c' T',PySem.W.tabIn K x=some (c,T)->PySem.W.tabIn K y=some (c',T')->T'≠T
def zu(K:F6):Bool:=(["kept","low_levels","risen"]:List Str).all λx=>(["kept","low_levels","risen"]:List Str).all λy=>x == y || (match PySem.W.tabIn K x,PySem.W.tabIn K y with|some a,some b=>b.2 != a.2|_,_=>true)
def Ax{K:F6}(h:zu K=true):dJ K:=λx hx y hy hn c T c' T' e1 e2=>by
 have h1:=GK.mp (GK.mp h x hx) y hy;rw[e1,e2,Bool.or_eq_true]at h1;rcases h1 with h1|h1
 ·exact absurd (eq_of_beq h1) hn
 ·exact bne_iff_ne.mp h1
structure Tbs(K:F6)(H:Hp):Prop where
 kept:dn K "kept" ("kept" ++ ".<locals>." ++ "<lambda>") 138 29 H
 low:dn K "low_levels" ("low_levels" ++ ".<locals>." ++ "<lambda>") 171 39 H
 risen:dn K "risen" ("risen" ++ ".<locals>." ++ "<lambda>") 143 29 H
def Tbs.ext{K:F6}{H H':Hp}(e:Ext H H')(h:Tbs K H):Tbs K H':=⟨h.kept.ext e,h.low.ext e,h.risen.ext e⟩
def ck.et{H H':Hp}{p:Addr}{kk:List (List Key)}(e:Et H H')(h:ck H p kk):ck H' p kk:=by obtain⟨bs,h1,h2,h3⟩:=h;exact⟨bs,e _ _ h1 (λps z=>by cases z),h2,λj b k e1 e2=>e _ _ (h3 j b k e1 e2) (λps z=>by cases z)⟩
def aY.et{H H':Hp}{v:V}{m:Int}{ws:List Way}(e:Et H H')(h:aY H v m ws):aY H' v m ws:=by obtain⟨p,q,rfl,h1,h2⟩:=h;exact⟨p,q,rfl,e _ _ h1 (λps z=>by cases z),h2.et e⟩
def Rows.et{H H':Hp}(e:Et H H'){q:Addr}{rs:List Addr}{n:Nat}{M:Nat->Nat->Bool}(h:Rows H q rs n M):Rows H' q rs n M:=⟨e _ _ h.1 (λps z=>by cases z),λi r hi=>e _ _ (h.2 i r hi) (λps z=>by cases z)⟩
def aM.et{H H':Hp}{bs:List Addr}{ws:List Way}(e:Et H H')(h:aM H bs ws):aM H' bs ws:=⟨h.1,λj b w e1 e2=>e _ _ (h.2 j b w e1 e2) (λps z=>by cases z)⟩
def ao.et{H H':Hp}(e:Et H H'){p:Addr}{x:Bfs.Pl}(h:ao H p x):ao H' p x:=e _ _ h (λps z=>by cases z)
def eB(H:Hp)(l:Addr)(n:Nat)(R:Nat->Nat->Prop):Prop:=∃ps g,H l=some (.lst (List.map V.ref ps))/\Paired (ao H) ps (cS n g n)/\∀i j,i<n->j<n->(g i j=true↔R i j)
def eB.et{H H':Hp}(e:Et H H'){l:Addr}{n:Nat}{R:Nat->Nat->Prop}(h:eB H l n R):eB H' l n R:=by obtain⟨ps,g,h1,h2,h3⟩:=h;exact⟨ps,g,e _ _ h1 (λps z=>by cases z),bY (λa x h=>h.et e) h2,h3⟩
def held{cs:List (Addr×Obj)}{H3 H4:Hp}(hn:∀b o,cs.lookup b=some o->H3 b=none)(e4:Ext (bE cs H3) H4):(∀b o,cs.lookup b=some o->H4 b=some (cM b o))/\Ext H3 (aW cs H4)/\(∀l,bE cs H3 l=none->aW cs H4 l=H4 l)/\∀b x,H4 b=some x->(∀f,x≠.ext f)->aW cs H4 b=some x:=by
 have hc:∀b o,cs.lookup b=some o->H4 b=some (cM b o):=λb o q=>e4 _ _ (dW q);refine⟨hc,yR hn e4,λl hl=>?_,λb x hb nx=>fN hc hb nx⟩;cases q:cs.lookup l with
 | none=>exact cx q
 | some o=>rw[dW q]at hl;cases hl
def me{α:Type}{cp:List α}(h:cp.length=1):∃e,cp=[e]:=by
 cases cp with
 | nil=>exact absurd h (by simp)
 | cons e r=>
  cases r with
  | nil=>exact⟨e,rfl⟩
  | cons _ _=>exact absurd h (by simp)
def ky{α:Type}{cp:List α}(h:cp.length=2):∃e e',cp=[e,e']:=by
 cases cp with
 | nil=>exact absurd h (by simp)
 | cons e r=>
  obtain⟨e',rfl⟩:=me (cp:=r) (by simpa using h);exact⟨e,e',rfl⟩
def DB{α:Type}{cp:List α}(h:cp.length=3):∃e e' e'',cp=[e,e',e'']:=by
 cases cp with
 | nil=>exact absurd h (by simp)
 | cons e r=>
  obtain⟨e',e'',rfl⟩:=ky (cp:=r) (by simpa using h);exact⟨e,e',e'',rfl⟩
def qF{P:Program}{w:World}{K:F6}{mg:Str->Option Value}{base:Heap}{k:Nat}{f c:Addr}{q:Str}{params:Arguments}{body:Expr}{scope:Scope}{cl cells:List (Str×Addr)}{H0:Hp}(hf:H0 f=some (eQ f c q params body scope cl))(C:ClOk scope cells cl)(ps:List Str)(cp:List Cap)(R:List V->Hp->VK->Prop)(I:Hp->Prop)
  (S:LamSc ps scope) (bind:∀(pm cv ctv:Value) (us:List Value),us.length=ps.length->bindArgs (PySem.W.kla_fn "<lambda>" q params body scope cl pm cv ctv) ⟨us,[]⟩=pure (ps.zip us))
  (hR:∀vs H Q,R vs H Q->vs.length=ps.length)
  (hbody:∀(A:Around) (outer:List Env) (s:Shared) (H:Hp) (vs:List V) (Q:VK),Room k (A.deeper (dY q scope s.heap.objs.size f (.ref c) cl))->gj f c q params body scope cl cp H->I H->R vs H Q →
   ∃te,PE (jr P w K mg base (ps++cp.map (·.n)) q scope f (.ref c) cl A outer s (aW (cellsOf cp) H)) body te/\te (vs.map some++cp.map λe=>some e.v) (aW (cellsOf cp) H) λv H'=>(∀b o,(cellsOf cp).lookup b=some o->H' b=none)->Q v (bE (cellsOf cp) H')) :
  FunR P w K mg base (k+1) f (λH=>gj f c q params body scope cl cp H/\I H) R:=Cn I S C bind hR hbody
def mG(K:F6):Sp:=λvs H Q _=>∃vh m ws,vs=[vh]/\aY H vh m ws/\HOuse m ws/\dJ K/\Tbs K H/\∀l H',Et H H'->Tbs K H'->eB H' l m.toNat (Kpt ws m.toNat)->Q (.ref l) H'
abbrev m8:Stmt:=stq 44
def wO:FnScope ["house","table"] ["house"] (aJ m8):=⟨rfl,rfl,rfl,by decide +kernel,rfl,by decide +kernel,by decide +kernel⟩
def Ct{P:Program}{w:World}{K:F6}{mg:Str->Option Value}{base:Heap}(D:Dfn K mg "kept" m8 ["house"])(T:Blt mg){c9 T9:Addr}(B:Tab K mg base "kept" c9 T9)(C_told_pairs:Cal P w K mg base "told_pairs" 2 ["house","choice"] (nA P w K mg base))(C_kept_table:Cal P w K mg base "kept_table" 3 ["house"] (pH K))(C0_refuse_no_house:Cal P w K mg base "refuse_no_house" 6 ["thing"] (λvs H Q _=>fC K vs H Q E0)):Cal P w K mg base "kept" 7 ["house"] (mG K):=by
 have nd:=(wO).nd;refine D.okL B wO (λvs H Q E h=>?_) (λX hX H vs Q E h=>?_)
 ·obtain⟨vh,m,ws,rfl,_⟩:=h;rfl
 ·obtain⟨f,A,outer,s,H0,E0,rfl,hr⟩:=hX;obtain⟨vh,m,ws,rfl,hv,ok,dis,htb,q⟩:=h;have m1:=ok.m1;have m12:=ok.m12;refine⟨_,(ai (br (aE C0_refuse_no_house hr (aa (pv 0) ae)))
    (ai (aD (i:=1) nd rfl (Or.inr rfl) (aE C_kept_table hr (aa (pv 0) ae)))
    (aq (aI (o5 [1] C_told_pairs hr (aa (pv 0) (aa (ny rfl rfl B.hd B.blt B.gl (by decide +kernel) rfl rfl rfl) ae))))))),?_⟩
  walk_at"";refine accepts hv ok λH1 e1=>?_;walk_at"";refine⟨vh,m,ws,rfl,hv.ext e1,ok,λtq rs M H2 kt km=>?_⟩;have e02:=e1.trans kt.ext;have hrows:=kt.rows;have hrl:=kt.len;walk_at"";show jm _ [1] _ (["house","table"]:List Str) _ _ _ _;generalize PySem.Env.cells _=cells0;refine nL ?_;walk_at"";refine oX ?_;refine pZ (x:="kept") (htb.ext e02).kept B.tin λfl c' cl H3 hcl e3 ht3 ot hf hc'=>?_;have t3:Tbs K H3:=⟨ht3,ot "low_levels" _ _ _ (λc2 T2 e2=>dis "kept" (by simp) "low_levels" (by simp) (by decide +kernel) _ _ _ _ B.tin e2) (htb.ext e02).low,ot "risen" _ _ _ (λc2 T2 e2=>dis "kept" (by simp) "risen" (by simp) (by decide +kernel) _ _ _ _ B.tin e2) (htb.ext e02).risen⟩;walk_at"";refine⟨λj hj=>?_,λcp hlen hcp=>?_⟩
  ·rw[Gm.mp hj];exact⟨_,rfl⟩
  obtain⟨⟨n,c,o,v⟩,rfl⟩:=me hlen;obtain⟨hN,hcc,hσ,hnone,u,hdat,hrel⟩:=hcp 0 1 _ rfl rfl;clear hcp hlen;dsimp only at hN hcc hσ hnone hdat hrel;have hN':(GP "table")=n:=GQ hN;have hσ':(V.ref tq)=v:=GQ (GQ hσ);clear hN hσ;subst hN';subst hσ';have hn3:∀b o',(cellsOf [⟨GP "table",c,o,V.ref tq⟩]).lookup b=some o'->H3 b=none:=λb o' hb=>by obtain⟨e,he,rfl,rfl⟩:=fQ hb;rw[Gm.mp he];exact hnone
  have ex:=kQ hn3;have hrows3:=(hrows.et e3).ext ex;have hv3:=((hv.ext e02).et e3).ext ex;have hcaps:Caps (bE (cellsOf [⟨GP "table",c,o,V.ref tq⟩]) H3) cl [⟨GP "table",c,o,V.ref tq⟩]:=by
   obtain⟨c2,hc2⟩:=hcl.has (GP "table") rfl;have hc3:=(hcl.fr _ _ hc2).2;rw[hcc]at hc3;cases hc3;refine⟨λe he=>?_,λx d hx=>?_⟩
   ·rw[Gm.mp he];exact⟨hc2,dW (by simp[cellsOf]),u,hdat,hrel⟩
   ·have hm:=iG (hcl.fr x d hx).1;simp at hm;subst hm;rw[hc2]at hx;cases hx;exact⟨_,Gm.mpr rfl,rfl,rfl⟩
  have hF:=qF (P:=P) (w:=w) (K:=K) (mg:=mg) (base:=base) (k:=0) hf hcl (["p","q"]:List Str) [⟨GP "table",c,o,V.ref tq⟩] (λvs H Q=>∃p q:Nat,vs=[.int (p:Nat),.int (q:Nat)]/\(p:Int)<m/\(q:Int)<m/\∀H',Ext H H'->Q (.bl (M p q)) H') (λH=>Rows H tq rs m.toNat M) ⟨rfl,rfl,rfl,by decide +kernel,by decide +kernel⟩ (λ_ _ _ us hl=>by obtain⟨u1,u2,rfl⟩:=ky hl;rfl) (λvs H Q h=>by obtain⟨p,q,rfl,_⟩:=h;rfl) (λA outer s H vs Q hrL hpre hI hR=>by
   obtain⟨p,q,rfl,hp,hq,hQ⟩:=hR;have hlk:=hpre.2.2.look;have hI':Rows (aW (cellsOf [⟨GP "table",c,o,V.ref tq⟩]) H) tq rs m.toNat M:=⟨fN hlk hI.1 (λf z=>by cases z),λi r hi=>fN hlk (hI.2 i r hi) (λf z=>by cases z)⟩;refine⟨_,(ah (aH K) (ah (aH K) (pv 2) (pv 0) (λ_ _=>rfl)) (pv 1) (λ_ _=>rfl)),?_⟩;have hb:=Dj hlk;generalize aW (cellsOf [⟨GP "table",c,o,V.ref tq⟩]) H=HU at hI' hb ⊢;have hp2:p<rs.length:=by omega
   have gp:rs[p]?=some rs[p]:=Gb hp2;have rp:=hI'.2 p _ gp;generalize rs[p]=ap at gp rp;show ie _ _ _ [some (.int (p:Nat)),some (.int (q:Nat)),some (.ref tq)] _ _;walk_at"";refine aG (ag.of hI'.1) (v:=.ref ap) (eE (by rw[Gd,gp];rfl)) ?_;walk_at"";refine aG (ag.of rp) (dD (by omega) (by omega)) ?_;rw[Gp];exact λ_=>hQ _ hb)
  refine⟨vh,m,ws,fl,_,M,rfl,hv3,ok,hF,⟨⟨ex _ _ hf,ex _ _ hc',hcaps⟩,hrows3⟩,λH H' e h=>⟨h.1.ext e,h.2.ext e⟩,λl ps H4 e4 hl hl4 hps=>?_⟩;obtain⟨a1,a2,a3,a4⟩:=held hn3 e4;exact⟨a1,q l _ ((e02.et.trans e3).trans a2.et) (t3.ext a2) ⟨ps,M,a4 _ _ hl4 (λf z=>by cases z),bY (λa x h=>a4 _ _ h (λf z=>by cases z)) hps,km⟩⟩
def bo(ws:List Way)(n:Nat)(i j:Nat):Prop:=∃u∈ws,u.deed = "up"/\u.room.toNat=i/\Kpt ws n u.other.toNat j
def xW{cs:List (Addr×Obj)}{H H':Hp}(hc:∀b o,cs.lookup b=some o->H b=some (cM b o))(e:Ext (aW cs H) H'):Ext H (bE cs H'):=λb x hb=>by
 cases q:cs.lookup b with
 | none=>rw[cH q];exact e b x (by rw[cx q];exact hb)
 | some o=>rw[dW q,←hc b o q];exact hb
def jU(us:List Way)(M:Nat->Nat->Bool)(p q:Nat):Bool:=((us.filter λu=>decide (u.room=(p:Int))).map λu=>M u.other.toNat q).any id
def mK(K:F6):Sp:=λvs H Q _=>∃vh m ws,vs=[vh]/\aY H vh m ws/\HOuse m ws/\dJ K/\Tbs K H/\∀l H',Et H H'->Tbs K H'->eB H' l m.toNat (bo ws m.toNat)->Q (.ref l) H'
abbrev nH:Stmt:=stq 45
def xq:FnScope ["house","table","ups"] ["house"] (aJ nH):=⟨rfl,rfl,rfl,by decide +kernel,rfl,by decide +kernel,by decide +kernel⟩
def zm{P:Program}{w:World}{K:F6}{mg:Str->Option Value}{base:Heap}(D:Dfn K mg "risen" nH ["house"])(T:Blt mg){c9 T9:Addr}(B:Tab K mg base "risen" c9 T9)(C_told_pairs:Cal P w K mg base "told_pairs" 2 ["house","choice"] (nA P w K mg base))(C_ways_of_deed:Cal P w K mg base "ways_of_deed" 1 ["house","deed"] (kr K))(C_kept_table:Cal P w K mg base "kept_table" 3 ["house"] (pH K))(C0_refuse_no_house:Cal P w K mg base "refuse_no_house" 6 ["thing"] (λvs H Q _=>fC K vs H Q E0)):Cal P w K mg base "risen" 7 ["house"] (mK K):=by
 have nd:=(xq).nd;refine D.okL B xq (λvs H Q E h=>?_) (λX hX H vs Q E h=>?_)
 ·obtain⟨vh,m,ws,rfl,_⟩:=h;rfl
 ·obtain⟨f,A,outer,s,H0,E0,rfl,hr⟩:=hX;obtain⟨vh,m,ws,rfl,hv,ok,dis,htb,q⟩:=h;have m1:=ok.m1;have m12:=ok.m12;have few:=ok.few;refine⟨_,(ai (br (aE C0_refuse_no_house hr (aa (pv 0) ae)))
    (ai (aD (i:=1) nd rfl (Or.inr rfl) (aE C_kept_table hr (aa (pv 0) ae)))
    (ai (aD (i:=2) nd rfl (Or.inr rfl) (aE C_ways_of_deed hr (aa (pv 0) (aa aF ae))))
    (aq (aI (o5 [2,1] C_told_pairs hr (aa (pv 0) (aa (ny rfl rfl B.hd B.blt B.gl (by decide +kernel) rfl rfl rfl) ae)))))))),?_⟩
  walk_at"";refine accepts hv ok λH1 e1=>?_;walk_at"";refine⟨vh,m,ws,rfl,hv.ext e1,ok,λtq rs M H1b kt km=>?_⟩;walk_at"";refine⟨vh,m,ws,_,rfl,hv.ext (e1.trans kt.ext),ok,λlu cu us H2 e2 hlu hlu2 hau hus=>?_⟩;have e02:=(e1.trans kt.ext).trans e2;have hrows:=kt.rows.ext e2;have hrl:=kt.len;have hcu:=hau.1;have hul:us.length<=100:=by rw[hus];exact GI (List.length_filter_le _ _) few
  have hin:∀u∈us,u∈ws/\u.deed=GP "up":=λu hu=>by rw[hus]at hu;obtain⟨h1,h2⟩:=List.mem_filter.mp hu;exact⟨h1,of_decide_eq_true h2⟩
  walk_at"";show jm _ [2,1] _ (["house","table","ups"]:List Str) _ _ _ _;generalize PySem.Env.cells _=cells0;refine nL ?_;walk_at"";refine oX ?_;refine pZ (x:="risen") (htb.ext e02).risen B.tin λfl c' cl H3 hcl e3 ht3 ot hf hc'=>?_;have t3:Tbs K H3:=⟨ot "kept" _ _ _ (λc2 T2 e2=>dis "risen" (by simp) "kept" (by simp) (by decide +kernel) _ _ _ _ B.tin e2) (htb.ext e02).kept,ot "low_levels" _ _ _ (λc2 T2 e2=>dis "risen" (by simp) "low_levels" (by simp) (by decide +kernel) _ _ _ _ B.tin e2) (htb.ext e02).low,ht3⟩;walk_at"";refine⟨λj hj=>?_,λcp hlen hcp=>?_⟩
  ·rcases Gq.mp hj with rfl|hj
   ·exact⟨_,rfl⟩
   ·rw[Gm.mp hj];exact⟨_,rfl⟩
  obtain⟨⟨n,c,o,v⟩,⟨n',d,o',v'⟩,rfl⟩:=ky hlen;obtain⟨hN,hcc,hσ,hnone,u,hdat,hrel⟩:=hcp 0 2 _ rfl rfl;obtain⟨hN2,hcc2,hσ2,hnone2,u2,hdat2,hrel2⟩:=hcp 1 1 _ rfl rfl;clear hcp hlen;dsimp only at hN hcc hσ hnone hdat hrel hN2 hcc2 hσ2 hnone2 hdat2 hrel2;have hN':(GP "ups")=n:=GQ hN;have hσ':(V.ref lu)=v:=GQ (GQ hσ);have hN2':(GP "table")=n':=GQ hN2;have hσ2':(V.ref tq)=v':=GQ (GQ hσ2);clear hN hσ hN2 hσ2;subst hN';subst hσ';subst hN2';subst hσ2';obtain⟨c2,hc2⟩:=hcl.has (GP "ups") rfl;obtain⟨d2,hd2⟩:=hcl.has (GP "table") rfl;have hc3:=(hcl.fr _ _ hc2).2;have hd3:=(hcl.fr _ _ hd2).2;rw[hcc]at hc3;rw[hcc2]at hd3;cases hc3;cases hd3;have ncd:c≠d:=λz=>by have:=hcl.inj _ _ _ hc2 (z ▸ hd2);exact absurd this (by decide +kernel)
  have hn3:∀b o9,(cellsOf [⟨GP "ups",c,o,V.ref lu⟩,⟨GP "table",d,o',V.ref tq⟩]).lookup b=some o9->H3 b=none:=λb o9 hb=>by
   obtain⟨e,he,rfl,rfl⟩:=fQ hb;rcases Gq.mp he with rfl|he
   ·exact hnone
   ·rw[Gm.mp he];exact hnone2
  have ex:=kQ hn3;have hrows3:=(hrows.et e3).ext ex;have hlu3:=ex _ _ (e3 _ _ hlu2 (λps z=>by cases z));have hau3:=(hau.et e3).ext ex;have hv3:=((hv.ext e02).et e3).ext ex;have hcaps:Caps (bE (cellsOf [⟨GP "ups",c,o,V.ref lu⟩,⟨GP "table",d,o',V.ref tq⟩]) H3) cl [⟨GP "ups",c,o,V.ref lu⟩,⟨GP "table",d,o',V.ref tq⟩]:=by
   refine⟨λe he=>?_,λx g hx=>?_⟩
   ·rcases Gq.mp he with rfl|he
    ·exact⟨hc2,dW (by simp[cellsOf]),u,hdat,hrel⟩
    ·rw[Gm.mp he];refine⟨hd2,dW ?_,u2,hdat2,hrel2⟩;show List.lookup d ((c,o)::[(d,o')])=some o';rw[GY,show (d == c)=false from beq_eq_false_iff_ne.mpr (Ne.symm ncd),GY,beq_self_eq_true]
   ·have hm:=iG (hcl.fr x g hx).1;simp at hm;rcases hm with rfl|rfl
    ·first|(rw[hc2]at hx;cases hx;exact⟨_,Gh,rfl,rfl⟩)|(rw[hd2]at hx;cases hx;exact⟨_,Ge _ (Gm.mpr rfl),rfl,rfl⟩)
    ·first|(rw[hc2]at hx;cases hx;exact⟨_,Gh,rfl,rfl⟩)|(rw[hd2]at hx;cases hx;exact⟨_,Ge _ (Gm.mpr rfl),rfl,rfl⟩)
  have hF:=qF (P:=P) (w:=w) (K:=K) (mg:=mg) (base:=base) (k:=0) hf hcl (["p","q"]:List Str) [⟨GP "ups",c,o,V.ref lu⟩,⟨GP "table",d,o',V.ref tq⟩] (λvs H Q=>∃p q:Nat,vs=[.int (p:Nat),.int (q:Nat)]/\(p:Int)<m/\(q:Int)<m/\∀H',Ext H H'->Q (.bl (jU us M p q)) H') (λH=>Rows H tq rs m.toNat M/\H lu=some (.lst (List.map V.ref cu))/\aM H cu us) ⟨rfl,rfl,rfl,by decide +kernel,by decide +kernel⟩ (λ_ _ _ us hl=>by obtain⟨u1,u2,rfl⟩:=ky hl;rfl) (λvs H Q h=>by obtain⟨p,q,rfl,_⟩:=h;rfl) (λA outer s H vs Q hrL hpre hI hR=>by
   obtain⟨p,q,rfl,hp,hq,hQ⟩:=hR;have hlk:=hpre.2.2.look;obtain⟨hI1,hI2,hI3⟩:=hI;have hI1':Rows (aW (cellsOf [⟨GP "ups",c,o,V.ref lu⟩,⟨GP "table",d,o',V.ref tq⟩]) H) tq rs m.toNat M:=⟨fN hlk hI1.1 (λf z=>by cases z),λi r hi=>fN hlk (hI1.2 i r hi) (λf z=>by cases z)⟩;have hI2':=fN hlk hI2 (λf z=>by cases z);have hI3':aM (aW (cellsOf [⟨GP "ups",c,o,V.ref lu⟩,⟨GP "table",d,o',V.ref tq⟩]) H) cu us:=⟨hI3.1,λj b w e1 e2=>fN hlk (hI3.2 j b w e1 e2) (λf z=>by cases z)⟩;refine⟨_,(bt (zI K rfl) rfl T.any_ PyProof.Rows.boot_any (aa (eC ["way"] [3,1,0] (cj K (pv 2)) (λ_=>(aR (i:=0) (show(["way","table","q","p"]:List Str).Nodup from by decide +kernel) rfl (Or.inl rfl) (Or.inr rfl))) (λ_=>(fY (aS b6 (ah (aA K) (pv 0) af (λ_ _=>rfl)) (pv 3) (aP _)))) (λ_=>(ah (aH K) (ah (aH K) (pv 1) (ah (aA K) (pv 0) af (λ_ _=>rfl)) (λ_ _=>rfl)) (pv 2) (λ_ _=>rfl)))) ae)),?_⟩;have hb:∀H',Ext (aW (cellsOf [⟨GP "ups",c,o,V.ref lu⟩,⟨GP "table",d,o',V.ref tq⟩]) H) H'->Ext H (bE (cellsOf [⟨GP "ups",c,o,V.ref lu⟩,⟨GP "table",d,o',V.ref tq⟩]) H'):=λH' e=>xW hlk e;generalize aW (cellsOf [⟨GP "ups",c,o,V.ref lu⟩,⟨GP "table",d,o',V.ref tq⟩]) H=HU at hI1' hI2' hI3' hb ⊢;show j8 _ _ [some (.int (p:Nat)),some (.int (q:Nat)),some (.ref lu),some (.ref tq)] _ _;walk_at"";refine cb (ag.of hI2') ?_;refine iX (xs:=List.map V.ref cu) (λi ys H'=>H'=HU/\ys=(((us.take i).filter λu=>decide (u.room=(p:Int))).map λu=>M u.other.toNat q).map V.bl) (bN (by rw[Ga];omega)) ⟨rfl,rfl⟩ (λi ys H' _ h=>⟨by rw[h.1];exact ag.of hI2',by rw[h.2,Ga,Ga];exact GI (List.length_filter_le _ _) (by rw[GZ];omega)⟩) ?_ ?_
   ·rintro i v ys H4 hx ⟨rfl,rfl⟩;rw[Gd]at hx;obtain⟨b,hb',rfl⟩:=Gn.mp hx;have hi:i<us.length:=by rw[←hcu];exact(Gj.mp hb').1
    have gu:us[i]?=some us[i]:=Gb hi;have hb0:=hI3'.2 i b _ hb' gu;generalize us[i]=uu at gu hb0;have oku:=ok.ok uu (hin uu (Gk gu)).1;have v0:=oku.r0;have v1:=oku.r1;have v2:=oku.o0;have v3:=oku.o1;have x2:uu.other.toNat<rs.length:=by omega
    have r2:rs[uu.other.toNat]?=some rs[uu.other.toNat]:=Gb x2;have w2:=hI1'.2 _ _ r2;generalize rs[uu.other.toNat]=a2 at r2 w2;have at2:bC (rs.map V.ref) uu.other=some (.ref a2):=eG v2 (by rw[Gd,r2];rfl);walk_at"";refine aB (aj.of hb0) (v:=.int uu.room) rfl ?_;walk_at"";cases hc:decide (uu.room=(p:Int))with
    | true=>
     refine ay ?_;walk_at"";refine aB (aj.of hb0) (v:=.int uu.other) rfl ?_;walk_at"";refine aG (ag.of hI1'.1) at2 ?_;walk_at"";refine aG (ag.of w2) (dD (by omega) (by omega)) ?_;rw[Gp];refine⟨rfl,?_⟩;rw[List.take_add_one,gu,List.filter_append,Gs,Gs];congr 1;show[V.bl _]=List.map V.bl (List.map _ (List.filter _ [uu]));rw[List.filter_cons,Hf hc];rfl
    | false=>
     refine aC ⟨rfl,?_⟩;have hno:List.filter (λu:Way=>decide (u.room=(p:Int))) [uu]=[]:=by rw[List.filter_cons,He (by rw[hc];exact Gr)];rfl
     rw[List.take_add_one,gu,List.filter_append];show _=List.map V.bl (List.map _ (_++List.filter _ [uu]));rw[hno,List.append_nil]
   ·rintro ys H4 p9 ⟨hH,rfl⟩ hp9;subst hH;rw[Ga,hcu,GG];have e9:=bO (o:=.lst (((us.filter λu=>decide (u.room=(p:Int))).map λu=>M u.other.toNat q).map V.bl)) hp9;walk_at"";refine⟨p9,_,rfl,ag.of aO,?_⟩;exact λ_=>hQ _ (hb _ e9))
  refine⟨vh,m,ws,fl,_,jU us M,rfl,hv3,ok,hF,⟨⟨ex _ _ hf,ex _ _ hc',hcaps⟩,hrows3,hlu3,hau3⟩,λH H' e h=>⟨h.1.ext e,h.2.1.ext e,e _ _ h.2.2.1,h.2.2.2.ext e⟩,λl ps H4 e4 hl hl4 hps=>?_⟩;obtain⟨a1,a2,a3,a4⟩:=held hn3 e4;refine⟨a1,q l _ ((e02.et.trans e3).trans a2.et) (t3.ext a2) ⟨ps,jU us M,a4 _ _ hl4 (λf z=>by cases z),bY (λa x h=>a4 _ _ h (λf z=>by cases z)) hps,λi j hi hj=>?_⟩⟩;unfold jU bo;rw[List.any_map,GL];constructor
  ·rintro⟨x,hx,hm⟩;obtain⟨x1,x2⟩:=List.mem_filter.mp hx;have x2:=of_decide_eq_true x2;obtain⟨y1,y2⟩:=hin x x1;exact⟨x,y1,y2,by omega,(km _ _ (iL ok.ok y1).2 hj).mp hm⟩
  ·rintro⟨x,h1,h2,h3,h4⟩;have r0:=(ok.ok x h1).r0;refine⟨x,List.mem_filter.mpr ⟨by rw[hus];exact List.mem_filter.mpr ⟨h1,Hd h2⟩,Hd (by omega)⟩,?_⟩;exact(km _ _ (iL ok.ok h1).2 hj).mpr h4
def cP(us:List Way)(x:Bfs.Pl):List Bfs.Pl:=(us.filter λw=>cz w x.1 x.2).map λw=>(w.other,x.2+rz w.deed)
def yc(K:F6):Sp:=λvs H Q _=>∃l bs us p x,vs=[.ref l,.ref p]/\H l=some (.lst (List.map V.ref bs))/\aM H bs us/\(∀w∈us,bK w.deed)/\us.length<=100/\ao H p x/\∀l' ps H',Ext H H'->H l'=none->H' l'=some (.lst (List.map V.ref ps))->Paired (ao H') ps (cP us x)->Q (.ref l') H'
abbrev pq:Stmt:=stq 36
def rN:FnScope ["ways","place"] ["ways","place"] (aJ pq):=⟨rfl,rfl,rfl,by decide +kernel,rfl,by decide +kernel,by decide +kernel⟩
def EJ{P:Program}{w:World}{K:F6}{mg:Str->Option Value}{base:Heap}(D:Dfn K mg "led_to_from" pq ["ways","place"])(T:Blt mg)(C_is_open:Cal P w K mg base "is_open" 1 ["way","place"] (lN K))(C_led_to:Cal P w K mg base "led_to" 2 ["way","place"] (oj K)):Cal P w K mg base "led_to_from" 3 ["ways","place"] (yc K):=by
 have nd:=(rN).nd;refine D.ok rN (λvs H Q E h=>?_) (λX hX H vs Q E h=>?_)
 ·obtain⟨l,bs,us,p,x,rfl,_⟩:=h;rfl
 ·obtain⟨f,cdv,A,outer,s,H0,E0,rfl,hr⟩:=hX;obtain⟨l,bs,us,p,x,rfl,hl,hal,hdd,hul,hpx,q⟩:=h;have hbl:=hal.1;refine⟨_,(@aq _ _ _ (@aI _ _ _ _ (eC ["way"] [1] (cj K (pv 0)) (λ_=>(aR (i:=0) (show(["way","place"]:List Str).Nodup from by decide +kernel) rfl (Or.inl rfl) (Or.inr rfl))) (λ_=>(fY (cC (aE C_is_open hr (@aa _ _ _ _ _ (pv 0) (@aa _ _ _ _ _ (pv 1) ae rfl) rfl))))) (λ_=>(aE C_led_to hr (@aa _ _ _ _ _ (pv 0) (@aa _ _ _ _ _ (pv 1) ae rfl) rfl)))))),?_⟩;walk_at"";refine cb (ag.of hl) ?_;refine iX (xs:=List.map V.ref bs) (λi ys H'=>Ext H H'/\∃ps,ys=List.map V.ref ps/\Paired (ao H') ps (cP (us.take i) x)) (bN (by rw[Ga];omega)) ⟨Ext.rfl' _,[],rfl,.nil⟩ (λi ys H' _ h=>by obtain⟨e,ps,rfl,hps⟩:=h;refine⟨ag.of (e _ _ hl),?_⟩;rw[Ga,dk hps];unfold cP;rw[Ga];exact GI (List.length_filter_le _ _) (by rw[GZ];omega)) ?_ ?_
  ·rintro i v ys H1 hx ⟨e1,ps,rfl,hps⟩;rw[Gd]at hx;obtain⟨b,hb,rfl⟩:=Gn.mp hx;have hi:i<us.length:=by rw[←hbl];exact(Gj.mp hb).1
   have gu:us[i]?=some us[i]:=Gb hi;have hb0:=e1 _ _ (hal.2 i b _ hb gu);generalize us[i]=u at gu hb0;have hpx1:ao H1 p x:=e1 _ _ hpx;walk_at"";refine⟨b,u,p,x,rfl,hb0,hpx1,?_⟩;have step:cP (us.take (i+1)) x=cP (us.take i) x++cP [u] x:=by unfold cP;rw[List.take_add_one,gu,List.filter_append,Gs];rfl
   cases ho:cz u x.1 x.2 with
   | false=>
    refine rd_exb (aC ⟨e1,ps,rfl,?_⟩);rw[step];have:cP [u] x=[]:=by unfold cP;rw[List.filter_cons,He (by rw[ho];exact Gr)];rfl
    rw[this,List.append_nil];exact hps
   | true=>
    refine rd_exb (ay ?_);walk_at"";refine⟨b,u,p,x,rfl,hb0,hdd u (Gk gu),hpx1,λt H2 e2 ht _=>?_⟩;refine⟨e1.trans e2,ps++[t],?_,?_⟩
    ·rw[Gs];rfl
    ·rw[step];have:cP [u] x=[(u.other,x.2+rz u.deed)]:=by unfold cP;rw[List.filter_cons,Hf ho];rfl
     rw[this];exact jD (bY (λa x h=>e2 _ _ h) hps) ht
  ·rintro ys H1 p9 ⟨e1,ps,rfl,hps⟩ hp9;rw[Ga,hbl,GG]at hps;have e2:=bO (o:=.lst (List.map V.ref ps)) hp9;have h9:H p9=none:=by
    cases z:H p9 with
    | none=>rfl
    | some o=>rw[e1 _ _ z]at hp9;cases hp9
   exact q p9 ps _ (e1.trans e2) h9 aO (bY (λa x h=>e2 _ _ h) hps)
structure WT(H:Hp)(c:Addr)(n:Nat)(ls:List Addr)(ws:List Way):Prop where
 at_:H c=some (.lst (List.map V.ref ls))
 len:ls.length=n
 it:∀(r:Nat) (l:Addr),ls[r]?=some l->∃bs,H l=some (.lst (List.map V.ref bs))/\aM H bs (ws.filter λw=>decide (w.room=(r:Int)))
def WT.ext{H H':Hp}{c:Addr}{n:Nat}{ls:List Addr}{ws:List Way}(e:Ext H H')(h:WT H c n ls ws):WT H' c n ls ws:=
 ⟨e _ _ h.at_,h.len,λr l hl=>by obtain⟨bs,h1,h2⟩:=h.it r l hl;exact⟨bs,e _ _ h1,h2.ext e⟩⟩
def WT.et{H H':Hp}{c:Addr}{n:Nat}{ls:List Addr}{ws:List Way}(e:Et H H')(h:WT H c n ls ws):WT H' c n ls ws:=
 ⟨e _ _ h.at_ (λps z=>by cases z),h.len,λr l hl=>by obtain⟨bs,h1,h2⟩:=h.it r l hl;exact⟨bs,e _ _ h1 (λps z=>by cases z),h2.et e⟩⟩
def yQ{ws:List Way}{i:Nat}{w:Way}(h:ws[i]?=some w)(p:Way->Bool):(ws.take (i+1)).filter p=(ws.take i).filter p++if p w then[w]else[]:=by rw[List.take_add_one,h,List.filter_append];congr 1;show List.filter p [w]=_;rw[List.filter_cons];rfl
def uH(K:F6):Sp:=λvs H Q _=>∃v m ws,vs=[v]/\aY H v m ws/\HOuse m ws/\∀c ls H',Ext H H'->WT H' c m.toNat ls ws->Q (.ref c) H'
abbrev lS:Stmt:=stq 47
def sM:FnScope ["house","ways","way"] ["house"] (aJ lS):=⟨rfl,rfl,rfl,by decide +kernel,rfl,by decide +kernel,by decide +kernel⟩
def Bq{P:Program}{w:World}{K:F6}{mg:Str->Option Value}{base:Heap}(D:Dfn K mg "ways_by_room" lS ["house"])(T:Blt mg):Cal P w K mg base "ways_by_room" 1 ["house"] (uH K):=by
 have nd:=(sM).nd;refine D.ok sM (λvs H Q E h=>?_) (λX hX H vs Q E h=>?_)
 ·obtain⟨v,m,ws,rfl,_⟩:=h;rfl
 ·obtain⟨f,cdv,A,outer,s,H0,E0,rfl,hr⟩:=hX;obtain⟨v,m,ws,rfl,hv,ok,q⟩:=h;obtain⟨hp0,hq0,rfl,hh,hw⟩:=id hv;obtain⟨bs,hq,hal⟩:=ck.al hw;have hbl:=hal.1;have few:=ok.few;have m1:=ok.m1;have m12:=ok.m12;refine⟨_,(@ai _ _ _ _ _ (ic (i:=1) ["room"] [] nd rfl (Or.inl rfl) (cq rfl T.range_ (@aa _ _ _ _ _ (@ah _ _ _ _ _ _ _ (aA K) (pv 0) af (λ_ _=>rfl)) ae rfl)) (λ_=>(aR (i:=0) (show(["room"]:List Str).Nodup from by decide +kernel) rfl (Or.inl rfl) (Or.inr rfl))) (λ_=>fJ) (λ_=>(@aZ _ _ _ _ ae)))
    (@ai _ _ _ _ _ (bD PassesOwn.never rfl (jX K (@ah _ _ _ _ _ _ _ (aA K) (pv 0) af (λ_ _=>rfl))) (aR (i:=2) nd rfl (Or.inl rfl)) (@aq _ _ _ (br (bG K Gi Gx Gy bT (@ah _ _ _ _ _ _ _ (aH K) (pv 1) (@ah _ _ _ _ _ _ _ (aA K) (pv 2) af (λ_ _=>rfl)) (λ_ _=>rfl)) (@aa _ _ _ _ _ (pv 2) ae rfl)))))
    (@aq _ _ _ (@aI _ _ _ _ (pv 1))))),?_⟩
  walk_at"";refine aB (aj.of hh) (v:=.int m) rfl ?_;walk_at"";refine cw (by omega) ?_;refine fz (λi ys H'=>Ext H H'/\∃ls:List Addr,ys=List.map V.ref ls/\ls.length=i/\ls.Nodup/\∀l∈ls,H' l=some (.lst [])/\H l=none) (bN (by omega)) ⟨Ext.rfl' _,[],rfl,rfl,List.nodup_nil,λl h=>(nomatch h)⟩ (λi ys H' _ h=>by obtain⟨_,ls,rfl,h,_⟩:=h;rw[Ga,h];exact Gw _) ?_ ?_
  ·rintro i ys H' hi ⟨e,ls,rfl,hl,hnd,hls⟩;walk_at"";refine ay ?_;walk_at"";refine aw λl H1 e1 hl1 hln=>?_;refine⟨e.trans e1,ls++[l],by rw[Gs];rfl,by rw[Gu,hl];rfl,?_,?_⟩
   ·rw[List.nodup_append];refine⟨hnd,by simp,λa ha b hb z=>?_⟩;have hbl:b=l:=by simpa using hb
    subst hbl;subst z;rw[(hls a ha).1]at hln;cases hln
   ·intro a ha;rcases Gz.mp ha with z|z
    ·exact⟨e1 _ _ (hls a z).1,(hls a z).2⟩
    ·have hal:a=l:=by simpa using z
     subst hal;refine⟨hl1,?_⟩;cases y:H a with
     | none=>rfl
     | some o=>rw[e _ _ y]at hln;cases hln
  ·rintro ys H1 c ⟨e,ls,rfl,hl,hnd,hls⟩ hc;have eN:Ext H (upd H1 c (.lst (List.map V.ref ls))):=e.trans (bO hc);have hcH:H c=none:=by
    cases y:H c with
    | none=>rfl
    | some o=>rw[e _ _ y]at hc;cases hc
   have ncl:c∉ls:=λz=>by rw[(hls c z).1]at hc;cases hc
   have hcl:∀l∈ls,H l=none:=λl h=>(hls l h).2;have hit:∀(r:Nat) (l:Addr),ls[r]?=some l->∃bs,(upd H1 c (.lst (List.map V.ref ls))) l=some (.lst (List.map V.ref bs))/\aM (upd H1 c (.lst (List.map V.ref ls))) bs ((ws.take 0).filter λw=>decide (w.room=(r:Int))):=λr l hr=>⟨[],(bO hc) _ _ (hls l (Gk hr)).1,aM.nil _⟩;have hcc:(upd H1 c (.lst (List.map V.ref ls))) c=_:=aO;generalize upd H1 c (.lst (List.map V.ref ls))=H2 at eN hit hcc ⊢;clear hls hc e H1;walk_at"";refine aB (aj.of (eN _ _ hh)) (v:=.ref hq0) rfl ?_;walk_at"";refine kM (aj.of (eN _ _ hq)) ?_;refine zO (xs:=bs.map V.ref) (λi σ H'=>∃k1,σ=[some (.ref hp0),some (.ref c),k1]/\Ext H H'/\H' c=some (.lst (List.map V.ref ls))/\∀(r:Nat) (l:Addr),ls[r]?=some l->∃bs,H' l=some (.lst (List.map V.ref bs))/\aM H' bs ((ws.take i).filter λw=>decide (w.room=(r:Int)))) ⟨none,rfl,eN,hcc,hit⟩ (λi σ H' _ h=>by obtain⟨_,_,e,_⟩:=h;exact aj.of (e _ _ hq)) ?_ ?_
   ·rintro i u σ H3 hu ⟨k1,rfl,e3,hc3,hit3⟩;rw[Gd]at hu;obtain⟨b,hb,rfl⟩:=Gn.mp hu;have hi:i<ws.length:=by rw[←hbl];exact(Gj.mp hb).1
    have hwi:ws[i]?=some ws[i]:=Gb hi;have hbw:=e3 _ _ (hal.2 i b _ hb hwi);generalize ws[i]=w0 at hwi hbw;have okw:=ok.ok w0 (Gk hwi);have r0:=okw.r0;have r1:=okw.r1;have hlr:w0.room.toNat<ls.length:=by rw[hl];omega
    have hlg:ls[w0.room.toNat]?=some ls[w0.room.toNat]:=Gb hlr;generalize ls[w0.room.toNat]=l at hlg;have hlm:=Gk hlg;obtain⟨cs,hl3,hcs⟩:=hit3 _ _ hlg;have hcsl:cs.length<=100:=by rw[hcs.1];exact GI (List.length_filter_le _ _) (by rw[GZ];omega)
    have ncl':c≠l:=λz=>ncl (z ▸ hlm);walk_at"";refine aB (aj.of hbw) (v:=.int w0.room) rfl ?_;walk_at"";refine aG (ag.of hc3) (v:=.ref l) (eG r0 (by rw[Gd,hlg];rfl)) ?_;refine⟨bZ (ag.of hl3),?_⟩;walk_at"";refine bR hl3 (by rw[Ga];exact Nat.lt_of_le_of_lt hcsl (by decide)) ?_;walk_at"";refine⟨_,rfl,cG e3 (hcl l hlm),by rw[az ncl'];exact hc3,λr l' hr=>?_⟩;rw[yQ hwi];by_cases hll:l'=l
    ·subst hll;have hrr:r=w0.room.toNat:=(List.getElem?_inj (Gj.mp hr).1 hnd).mp (by rw[hr,hlg]);subst hrr;refine⟨cs++[b],?_,?_⟩
     ·rw[aO,Gs];rfl
     ·rw[Hf (Hd (by omega))];have put:aM (upd H3 l' (.lst (List.map V.ref cs++[.ref b]))) cs ((ws.take i).filter λw=>decide (w.room=((w0.room.toNat:Nat):Int))):=hcs.put hl3;exact put.snoc (by rw[az (cK hbw hl3 (λz=>by cases z))];exact hbw)
    ·obtain⟨ds,h1,h2⟩:=hit3 r l' hr;have hrr:¬(w0.room=(r:Int)):=λz=>hll (by
      have:w0.room.toNat=r:=by omega
      rw[this,hr]at hlg;exact GQ hlg)
     rw[He (by simpa using hrr),List.append_nil];exact⟨ds,by rw[az hll];exact h1,h2.put hl3⟩
   ·rintro σ H3 ⟨k1,rfl,e3,hc3,hit3⟩;rw[Ga,hbl,GG]at hit3;walk_at"";exact q c ls H3 e3 ⟨hc3,hl,hit3⟩
def LB(ws:List Way)(n:Nat)(top:Int)(x y:Bfs.Pl):Prop:=(∃w∈ws,cz w x.1 x.2=true/\y=(w.other,x.2+rz w.deed)/\y.2<=top)\/(top<=x.2/\∃i j:Nat,Kpt ws n i j/\x.1=(i:Int)/\y=((j:Int),top))
def iB{w:Way}{r n:Int}(h:cz w r n=true):w.room=r:=by unfold cz at h;rw[GO]at h;exact of_decide_eq_true h.1
def si(K:F6):Sp:=λvs H Q _=>∃c kl top p m ws ls x,vs=[.ref c,.ref kl,.int top,.ref p]/\WT H c m.toNat ls ws/\eB H kl m.toNat (Kpt ws m.toNat)/\HOuse m ws/\ao H p x/\0<=x.1/\x.1<m ∧
 ∀l ps ys H',Ext H H'->H l=none->H' l=some (.lst (List.map V.ref ps))->Paired (ao H') ps ys->(∀y,y∈ys↔LB ws m.toNat top x y)->ys.length<=300->Q (.ref l) H'
abbrev pT:Stmt:=stq 49
def w8:FnScope ["ways","keeps","top","here","low"] ["ways","keeps","top","here"] (aJ pT):=⟨rfl,rfl,rfl,by decide +kernel,rfl,by decide +kernel,by decide +kernel⟩
def EN{P:Program}{w:World}{K:F6}{mg:Str->Option Value}{base:Heap}(D:Dfn K mg "low_beside" pT ["ways","keeps","top","here"])(T:Blt mg)(C_led_to_from:Cal P w K mg base "led_to_from" 3 ["ways","place"] (yc K)):Cal P w K mg base "low_beside" 4 ["ways","keeps","top","here"] (si K):=by
 have nd:=(w8).nd;refine D.ok w8 (λvs H Q E h=>?_) (λX hX H vs Q E h=>?_)
 ·obtain⟨c,kl,top,p,m,ws,ls,x,rfl,_⟩:=h;rfl
 ·obtain⟨f,cdv,A,outer,s,H0,E0,rfl,hr⟩:=hX;obtain⟨c,kl,top,p,m,ws,ls,x,rfl,wt,prs,ok,hpx,x0,x1,q⟩:=h;have m1:=ok.m1;have m12:=ok.m12;have few:=ok.few;have hlr:x.1.toNat<ls.length:=by rw[wt.len];omega
  have hlg:ls[x.1.toNat]?=some ls[x.1.toNat]:=Gb hlr;generalize ls[x.1.toNat]=l0 at hlg;obtain⟨bs,hl0,hal⟩:=wt.it _ _ hlg;have hx1:((x.1.toNat:Nat):Int)=x.1:=by omega
  rw[hx1]at hal;have husl:(ws.filter λw=>decide (w.room=x.1)).length<=100:=GI (List.length_filter_le _ _) few;obtain⟨kps,g,hkl,hkp,hkg⟩:=prs;have hkpl:=dk hkp;have hkpn:=mH (n:=m.toNat) (g:=g) m.toNat;have hkpm:m.toNat*m.toNat<=12*12:=Nat.mul_le_mul (by omega) (by omega);refine⟨_,(@ai _ _ _ _ _ (ic (i:=4) ["there"] [2] nd rfl (Or.inl rfl) (cj K (aE C_led_to_from hr (@aa _ _ _ _ _ (@ah _ _ _ _ _ _ _ (aH K) (pv 0) (@ah _ _ _ _ _ _ _ (aA K) (pv 3) af (λ_ _=>rfl)) (λ_ _=>rfl)) (@aa _ _ _ _ _ (pv 3) ae rfl) rfl))) (λ_=>(aR (i:=0) (show(["there","top"]:List Str).Nodup from by decide +kernel) rfl (Or.inl rfl) (Or.inr rfl))) (λ_=>(fY (aS jS (@ah _ _ _ _ _ _ _ (aA K) (pv 0) af (λ_ _=>rfl)) (pv 1) (aP _)))) (λ_=>(pv 0)))
    (@ai _ _ _ _ _ (@bM _ _ _ _ _ _ _ _ (aS gL (@ah _ _ _ _ _ _ _ (aA K) (pv 3) af (λ_ _=>rfl)) (pv 2) (aP _)) (@aq _ _ _ (@aI _ _ _ _ (pv 4))) bf)
    (@aq _ _ _ (@aI _ _ _ _ (av oM (pv 4) (eC ["p","q"] [2,3] (cj K (pv 1)) (λ_=>(kB (n:=2) K rfl (cQ (aR (i:=0) (show(["p","q","top","here"]:List Str).Nodup from by decide +kernel) rfl (Or.inl rfl) (Or.inr rfl)) (cQ (aR (i:=1) (show(["p","q","top","here"]:List Str).Nodup from by decide +kernel) rfl (Or.inl rfl) (Or.inr rfl)) hG)))) (λ_=>(fY (aS b6 (pv 0) (@ah _ _ _ _ _ _ _ (aA K) (pv 3) af (λ_ _=>rfl)) (aP _)))) (λ_=>(@aT _ _ _ _ _ (@aa _ _ _ _ _ (pv 1) (@aa _ _ _ _ _ (pv 2) ae rfl) rfl))))))))),?_⟩
  walk_at"";refine aB (aj.of hpx) (v:=.int x.1) rfl ?_;walk_at"";refine aG (ag.of wt.at_) (v:=.ref l0) (eG x0 (by rw[Gd,hlg];rfl)) ?_;walk_at"";refine⟨l0,bs,_,p,x,rfl,hl0,hal,λw hw=>(ok.ok w (List.mem_filter.mp hw).1).dd,husl,hpx,λl1 ps1 H1 e1 hn1 hl1 hps1=>?_⟩;have hp1l:=dk hps1;have hledl:(cP (ws.filter λw=>decide (w.room=x.1)) x).length<=100:=by unfold cP;rw[Ga];exact GI (List.length_filter_le _ _) husl
  have hled:∀y,y∈cP (ws.filter λw=>decide (w.room=x.1)) x↔∃w∈ws,cz w x.1 x.2=true/\y=(w.other,x.2+rz w.deed):=λy=>by
   unfold cP;constructor
   ·intro h;obtain⟨w,hw,rfl⟩:=List.mem_map.mp h;obtain⟨h1,h2⟩:=List.mem_filter.mp hw;exact⟨w,(List.mem_filter.mp h1).1,h2,rfl⟩
   ·rintro⟨w,hw,ho,rfl⟩;exact List.mem_map.mpr ⟨w,List.mem_filter.mpr ⟨List.mem_filter.mpr ⟨hw,Hd (iB ho)⟩,ho⟩,rfl⟩
  generalize cP (ws.filter λw=>decide (w.room=x.1)) x=zs at hps1 hp1l hledl hled;walk_at"";refine cb (ag.of hl1) ?_;refine iX (xs:=List.map V.ref ps1) (λi ys H'=>H'=H1/\∃cs,ys=List.map V.ref cs/\Paired (ao H1) cs ((zs.take i).filter λy=>decide (y.2<=top))) (bN (by rw[Ga];omega)) ⟨rfl,[],rfl,.nil⟩ (λi ys H' _ h=>by obtain⟨rfl,cs,rfl,hcs⟩:=h;refine⟨ag.of hl1,?_⟩;rw[Ga,dk hcs];exact GI (List.length_filter_le _ _) (by rw[GZ];omega)) ?_ ?_
  ·rintro i v ys H2 hx ⟨rfl,cs,rfl,hcs⟩;rw[Gd]at hx;obtain⟨b,hb,rfl⟩:=Gn.mp hx;obtain⟨y,hy,hby⟩:=eZ hps1 hb;walk_at"";refine aB (aj.of hby) (v:=.int y.2) rfl ?_;walk_at"";have step:(zs.take (i+1)).filter (λy=>decide (y.2<=top))=(zs.take i).filter (λy=>decide (y.2<=top))++if decide (y.2<=top)then[y]else[]:=by rw[List.take_add_one,hy,List.filter_append];congr 1;show List.filter _ [y]=_;rw[List.filter_cons];rfl
   cases hc:decide (y.2<=top)with
   | true=>
    refine ay ?_;walk_at"";refine⟨rfl,cs++[b],?_,?_⟩
    ·rw[Gs];rfl
    ·rw[step,hc];exact jD hcs hby
   | false=>
    refine aC ⟨rfl,cs,rfl,?_⟩;rw[step,hc];simpa using hcs
  ·rintro ys H2 p9 ⟨hH,cs,rfl,hcs⟩ hp9;subst hH;rw[Ga,hp1l,GG]at hcs;have e2:=bO (o:=.lst (List.map V.ref cs)) hp9;have h9:(upd H2 p9 (.lst (List.map V.ref cs))) p9=_:=aO;have hcs2:=bY (λa x h=>e2 _ _ h) hcs;have hfn:H p9=none:=by
    cases z:H p9 with
    | none=>rfl
    | some o=>rw[e1 _ _ z]at hp9;cases hp9
   have e02:=e1.trans e2;generalize upd H2 p9 (.lst (List.map V.ref cs))=H3 at e2 h9 hcs2 e02 ⊢;have hcl:=dk hcs;have hfl:=List.length_filter_le (λy:Bfs.Pl=>decide (y.2<=top)) zs;have first:∀y,y∈zs.filter (λy=>decide (y.2<=top))↔∃w∈ws,cz w x.1 x.2=true/\y=(w.other,x.2+rz w.deed)/\y.2<=top:=λy=>by
    rw[List.mem_filter,hled];constructor
    ·rintro⟨⟨w,h1,h2,h3⟩,h4⟩;exact⟨w,h1,h2,h3,of_decide_eq_true h4⟩
    ·rintro⟨w,h1,h2,h3,h4⟩;exact⟨⟨w,h1,h2,h3⟩,Hd h4⟩
   walk_at"";refine aB (aj.of (e02 _ _ hpx)) (v:=.int x.2) rfl ?_;walk_at"";cases hc:decide (x.2<top)with
   | true=>
    have hc':=of_decide_eq_true hc;refine ay ?_;walk_at"";refine q p9 cs _ H3 e02 hfn h9 hcs2 (λy=>?_) (by omega);rw[first];constructor
    ·exact λh=>.inl h
    ·rintro(h|⟨h,_⟩)
     ·exact h
     ·omega
   | false=>
    have hc':=of_decide_eq_false hc;refine aC ?_;walk_at"";have hkl3:=e02 _ _ hkl;have hkp3:=bY (λa x h=>e02 _ _ h) hkp;refine cb (ag.of hkl3) ?_;refine iX (xs:=List.map V.ref kps) (λi ys H'=>Ext H3 H'/\∃ds,ys=List.map V.ref ds/\Paired (ao H') ds ((((cS m.toNat g m.toNat).take i).filter λz=>decide (z.1=x.1)).map λz=>(z.2,top))) (bN (by rw[Ga];omega)) ⟨Ext.rfl' _,[],rfl,.nil⟩ (λi ys H' _ h=>by obtain⟨e,ds,rfl,hds⟩:=h;refine⟨ag.of (e _ _ hkl3),?_⟩;rw[Ga,dk hds,Ga];exact GI (List.length_filter_le _ _) (by rw[GZ];omega)) ?_ ?_
    ·rintro i v ys H4 hx ⟨e4,ds,rfl,hds⟩;rw[Gd]at hx;obtain⟨b,hb,rfl⟩:=Gn.mp hx;obtain⟨z,hz,hbz⟩:=eZ hkp3 hb;have hbz4:ao H4 b z:=e4 _ _ hbz;refine ke (aj.of hbz4) rfl ?_;walk_at"";refine aB (aj.of ((e02.trans e4) _ _ hpx)) (v:=.int x.1) rfl ?_;walk_at"";have step:(((cS m.toNat g m.toNat).take (i+1)).filter (λz=>decide (z.1=x.1))).map (λz=>(z.2,top))=(((cS m.toNat g m.toNat).take i).filter (λz=>decide (z.1=x.1))).map (λz=>(z.2,top))++if decide (z.1=x.1)then[(z.2,top)]else[]:=by rw[List.take_add_one,hz,List.filter_append,Gs];congr 1;show List.map _ (List.filter _ [z])=_;rw[List.filter_cons];split<;>rfl
     cases hc2:decide (z.1=x.1)with
     | true=>
      refine ay ?_;walk_at"";refine aw λt H5 e5 ht _=>?_;refine⟨e4.trans e5,ds++[t],?_,?_⟩
      ·rw[Gs];rfl
      ·rw[step,hc2];exact jD (bY (λa x h=>e5 _ _ h) hds) ht
     | false=>
      refine aC ⟨e4,ds,rfl,?_⟩;rw[step,hc2];simpa using hds
    ·rintro ys H4 p8 ⟨e4,ds,rfl,hds⟩ hp8;rw[Ga,hkpl,GG]at hds;have e5:=bO (o:=.lst (List.map V.ref ds)) hp8;have h8:(upd H4 p8 (.lst (List.map V.ref ds))) p8=_:=aO;have hds5:=bY (λa x h=>e5 _ _ h) hds;have e35:=e4.trans e5;generalize upd H4 p8 (.lst (List.map V.ref ds))=H5 at e5 h8 hds5 e35 ⊢;have hdl:=dk hds;rw[Ga]at hdl;have hfl2:=List.length_filter_le (λz:Bfs.Pl=>decide (z.1=x.1)) (cS m.toNat g m.toNat);walk_at"";refine qC (e35 _ _ h9) h8 (bN (by rw[Ga,Ga];omega)) (cc λl' H6 e6 hl' hn'=>?_);rw[←Gs]at hl';have e06:=(e02.trans e35).trans e6;have hn0:H l'=none:=by
      cases z:H l' with
      | none=>rfl
      | some o=>rw[(e02.trans e35) _ _ z]at hn';cases hn'
     refine q l' (cs++ds) _ H6 e06 hn0 hl' (v7 (bY (λa x h=>(e35.trans e6) _ _ h) hcs2) (bY (λa x h=>e6 _ _ h) hds5)) (λy=>?_) (by rw[Gu,Ga];omega);rw[Gz,first];constructor
     ·rintro(h|h)
      ·exact .inl h
      ·obtain⟨z,hz,rfl⟩:=List.mem_map.mp h;obtain⟨z1,z2⟩:=List.mem_filter.mp hz;obtain⟨i,j,hi,hj,hg,rfl⟩:=iw.mp z1;exact .inr ⟨by omega,i,j,(hkg i j hi hj).mp hg,(of_decide_eq_true z2).symm,rfl⟩
     ·rintro(h|⟨_,i,j,hk,hxi,rfl⟩)
      ·exact .inl h
      ·right;have hlt:=Kpt.lt ok.ok hk;exact List.mem_map.mpr ⟨((i:Int),(j:Int)),List.mem_filter.mpr ⟨iw.mpr ⟨i,j,hlt.1,hlt.2,(hkg i j hlt.1 hlt.2).mpr hk,rfl⟩,Hd hxi.symm⟩,rfl⟩
structure RR(H0 H:Hp)(f rw:Addr)(qs:List Bfs.Pl):Prop where
 ext:Ext H0 H
 fn:H0 f=none
 rn:H0 rw=none
 d:∃kvs,H f=some (.dT kvs)/\Paired (λ(kv:List Key×V) z=>kv.1=bj z) kvs qs
 r:∃as,H rw=some (.lst (List.map V.ref as))/\Paired (ao H) as qs
def RR.step{H0 H H1:Hp}{f rw:Addr}{qs:List Bfs.Pl}(h:RR H0 H f rw qs)(e:Ext H H1):RR H0 H1 f rw qs:=by obtain⟨h1,h2,h3,⟨kvs,h4,h5⟩,as,h6,h7⟩:=h;exact⟨h1.trans e,h2,h3,⟨kvs,e _ _ h4,h5⟩,as,e _ _ h6,bY (λa x h=>e _ _ h) h7⟩
def wo{kvs:List (List Key×V)}{qs:List Bfs.Pl}(h:Paired (λ(kv:List Key×V) z=>kv.1=bj z) kvs qs){x:Bfs.Pl}(hx:x∉qs):bI kvs (bj x)=none:=
 jl (key:=λz=>z) (λ_ _ z=>z) h (by simpa using hx)
def yM{kvs:List (List Key×V)}{qs:List Bfs.Pl}(h:Paired (λ(kv:List Key×V) z=>kv.1=bj z) kvs qs)(nd:qs.Nodup){x:Bfs.Pl}(hx:x∈qs):∃v,bI kvs (bj x)=some v:=by obtain⟨v,hv,_⟩:=iH (key:=λz=>z) (λ_ _ z=>z) h (by simpa using nd) hx;exact⟨v,hv⟩
def RR.push{H0 H:Hp}{f rw th:Addr}{qs:List Bfs.Pl}{y:Bfs.Pl}{v:V}(h:RR H0 H f rw qs)(hy:y∉qs)(hth:ao H th y):
  ∃kvs,H f=some (.dT kvs)/\kvs.length=qs.length/\∃as,upd H f (.dT (putK kvs (bj y) v)) rw=some (.lst (List.map V.ref as))/\as.length=qs.length ∧
   RR H0 (upd (upd H f (.dT (putK kvs (bj y) v))) rw (.lst (List.map V.ref as++[.ref th]))) f rw (qs++[y]):=by
 obtain⟨h1,h2,h3,⟨kvs,h4,h5⟩,as,h6,h7⟩:=h;have nf:∀xs,(HO.dT kvs)≠.tup xs:=λxs z=>by cases z
 have nr:∀xs,(HO.lst (List.map V.ref as))≠.tup xs:=λxs z=>by cases z
 have ne:rw≠f:=cK h6 h4 (by intro z;cases z);have h6':upd H f (.dT (putK kvs (bj y) v)) rw=some (.lst (List.map V.ref as)):=by rw[az ne];exact h6
 refine⟨kvs,h4,Paired.length h5,as,h6',Paired.length h7,cG (cG h1 h2) h3,h2,h3,⟨kvs++[(bj y,v)],?_,?_⟩,as++[th],?_,?_⟩
 ·rw[az ne.symm,aO,ye _ (wo h5 hy)]
 ·exact Paired.snoc h5 rfl
 ·rw[aO,Gs];rfl
 ·exact jD (bY (λa x z=>ao.put h6' nr (ao.put h4 nf z)) h7) (ao.put h6' nr (ao.put h4 nf hth))
structure RQ(S:Bfs.Pl->Bfs.Pl->Prop)(m T:Int)(x:Bfs.Pl)(qs:List Bfs.Pl)(i:Nat):Prop where
 nd:qs.Nodup
 has:x∈qs
 wk:∀z∈qs,∃n,Bfs.Rw S n x z
 ins:∀z∈qs,bV m T z
 cl:∀j,j<i->∀y,qs[j]?=some y->∀z,S y z->z∈qs
def RQ.done{S:Bfs.Pl->Bfs.Pl->Prop}{m T:Int}{x:Bfs.Pl}{qs:List Bfs.Pl}{i:Nat}(h:RQ S m T x qs i)(hi:qs.length<=i):∀z,z∈qs↔∃n,Bfs.Rw S n x z:=λz=>by
 refine⟨h.wk z,λ⟨n,hn⟩=>?_⟩;have go:∀(n:Nat) (a b:Bfs.Pl),Bfs.Rw S n a b->a∈qs->b∈qs:=by
  intro n a b hr;induction hr with
  | nil=>exact λh=>h
  | snoc _ hs ih=>
   intro ha;obtain⟨j,hj⟩:=GX (ih ha);have:=(Gj.mp hj).1;exact h.cl j (by omega) _ hj _ hs
 exact go n x z hn h.has
def uZ(m T:Int)(S:Bfs.Pl->Bfs.Pl->Prop):List V->Hp->VK->Prop:=λvs H Q=>∃p y,vs=[.ref p]/\ao H p y/\bV m T y/\∀l ps ys H',Ext H H'->H l=none->H' l=some (.lst (List.map V.ref ps))->Paired (ao H') ps ys->(∀z,z∈ys↔S y z)->ys.length<=300->Q (.ref l) H'
def vS(P:Program)(w:World)(K:F6)(mg:Str->Option Value)(base:Heap):Sp:=λvs H Q _=>∃pa f pre x m T S,vs=[.ref pa,.ref f]/\ao H pa x/\bV m T x/\m<=12/\T<=2000/\FunR P w K mg base 5 f pre (uZ m T S)/\pre H/\(∀H H',Ext H H'->pre H->pre H')/\(∀y z,bV m T y->S y z->bV m T z) ∧
 ∀l as qs H',Ext H H'->H' l=some (.lst (List.map V.ref as))->Paired (ao H') as qs->(∀z∈qs,bV m T z)->qs.length<=24012->(∀z,z∈qs↔∃n,Bfs.Rw S n x z)->Q (.ref l) H'
abbrev oJ:Stmt:=stq 48
def vj:FnScope ["place","beside","found","row","looked","here","there"] ["place","beside"] (aJ oJ):=⟨rfl,rfl,rfl,by decide +kernel,rfl,by decide +kernel,by decide +kernel⟩
def BO{P:Program}{w:World}{K:F6}{mg:Str->Option Value}{base:Heap}(D:Dfn K mg "reached" oJ ["place","beside"])(T:Blt mg):Cal P w K mg base "reached" 6 ["place","beside"] (vS P w K mg base):=by
 have nd:=(vj).nd;refine D.ok vj (λvs H Q E h=>?_) (λX hX H vs Q E h=>?_)
 ·obtain⟨pa,f,pre,x,m,T,S,rfl,_⟩:=h;rfl
 ·obtain⟨f,cdv,A,outer,s,H0,E0,rfl,hr⟩:=hX;obtain⟨pa,ff,pre,x,m,TT,S,rfl,hx,ix,hm12,hT,hF,hpre,hmono,hSin,q⟩:=h;refine⟨_,(@ai _ _ _ _ _ (@aD _ _ 2 _ _ _ _ nd rfl (Or.inl rfl) (sf (eV hr) (pv 0) bL) rfl (Or.inl rfl))
    (@ai _ _ _ _ _ (@aD _ _ 3 _ _ _ _ nd rfl (Or.inl rfl) (@aZ _ _ _ _ (@aa _ _ _ _ _ (pv 0) ae rfl)) rfl (Or.inl rfl))
    (@ai _ _ _ _ _ (@aD _ _ 4 _ _ _ _ nd rfl (Or.inl rfl) af rfl (Or.inl rfl))
    (@ai _ _ _ _ _ (gB PassesOwn.never (aS gL (pv 4) (bt (df K) rfl T.len_ PySem.boot_len (@aa _ _ _ _ _ (pv 3) ae rfl)) (aP _)) (@ai _ _ _ _ _ (@aD _ _ 5 _ _ _ _ nd rfl (Or.inl rfl) (@ah _ _ _ _ _ _ _ (aH K) (pv 3) (pv 4) (λ_ _=>rfl)) rfl (Or.inl rfl))
    (@ai _ _ _ _ _ (j6 (i:=4) nd rfl (Or.inl rfl) af pY)
    (@aq _ _ _ (bD PassesOwn.never rfl (cj K (uN (P:=P) (w:=w) (K:=K) (mg:=mg) (base:=base) hr (pv 1) (@aa _ _ _ _ _ (pv 5) ae rfl))) (aR (i:=6) nd rfl (Or.inl rfl)) (@aq _ _ _ (cV (lA (kN (eV hr) (pv 6) (pv 2)) (by with_unfolding_all rfl)) (@ai _ _ _ _ _ (vX (eV hr) (pv 2) (pv 6) bL rfl)
    (@aq _ _ _ (br (bG K Gi Gx Gy bT (pv 3) (@aa _ _ _ _ _ (pv 6) ae rfl))))) bf)))))))
    (@aq _ _ _ (@aI _ _ _ _ (pv 3))))))),?_⟩
  walk_at"";refine λf hfn=>?_;walk_at"";refine⟨pa,bj x,rfl,(bO hfn) _ _ hx,aO,?_⟩;walk_at"";refine aw λrw H3 e3 hrw hrn=>?_;walk_at"";have e13:Ext H (upd (upd H f (.dT [])) f (.dT [(bj x,.bl true)])):=λb o hb=>by rw[az (bW hb hfn),az (bW hb hfn)];exact hb
  have hrn1:H rw=none:=by
   cases z:H rw with
   | none=>rfl
   | some o=>rw[e13 _ _ z]at hrn;cases hrn
  have hf3:H3 f=some (.dT [(bj x,.bl true)]):=e3 _ _ aO;have rr0:RR H H3 f rw [x]:=⟨e13.trans e3,hfn,hrn1,⟨_,hf3,.cons rfl .nil⟩,[pa],hrw,.cons (e3 _ _ (e13 _ _ hx)) .nil⟩;have rq0:RQ S m TT x [x] 0:=⟨by simp,by simp,λz hz=>by rw[Gm.mp hz];exact⟨0,.nil⟩,λz hz=>by rw[Gm.mp hz];exact ix,λj hj=>absurd hj (Nat.not_lt_zero _)⟩;clear hf3 hrn1 e13 hrw hrn e3;refine gF (λM σ H'=>∃qs i k1 k2,RR H H' f rw qs/\RQ S m TT x qs i/\i<=qs.length/\M=24013-i/\σ=[some (.ref pa),some (.ref ff),some (.ref f),some (.ref rw),some (.int (i:Nat)),k1,k2]) (λσ H'=>∃qs i k0 k1 k2,RR H H' f rw qs/\RQ S m TT x qs i/\qs.length<=i/\qs.length<=24012/\σ=[some (.ref pa),some (.ref ff),some (.ref f),some (.ref rw),k0,k1,k2]) 24013 ⟨[x],0,_,_,rr0,rq0,by simp,by simp,rfl⟩ ?_ ?_
  ·rintro M σ H4 ⟨qs,i,k1,k2,rr,rq,hi,rfl,rfl⟩;have hqn:qs.length<=24012:=bV.few hm12 hT rq.nd rq.ins;obtain⟨as,hr4,pr⟩:=rr.r;have hal:=dk pr;walk_at"";refine fo (ag.of hr4) ?_;walk_at"";by_cases hlt:i<qs.length
   rotate_left
   ·rw[Hc (show ¬((i:Nat):Int)<((List.map V.ref as).length:Nat) by rw[Ga,hal];omega)];refine aC ?_;exact⟨qs,i,_,_,_,rr,rq,by omega,hqn,rfl⟩
   ·rw[Hd (show((i:Nat):Int)<((List.map V.ref as).length:Nat) by rw[Ga,hal];omega)];refine ay ?_;refine⟨λσ' H'=>∃qs' k1 k2,RR H H' f rw qs'/\RQ S m TT x qs' (i+1)/\i+1<=qs'.length/\qs'.length<=24012/\σ'=[some (.ref pa),some (.ref ff),some (.ref f),some (.ref rw),some (.int ((i+1:Nat):Int)),k1,k2],λσ' H' ⟨qs',k1,k2,a1,a2,a3,a4,a5⟩=>⟨24013-(i+1),by omega,qs',i+1,k1,k2,a1,a2,a3,rfl,a5⟩,?_⟩;have hqi:qs[i]?=some qs[i]:=Gb hlt;generalize qs[i]=y at hqi;obtain⟨b,hb,hby⟩:=xO pr hqi;have iy:=rq.ins y (Gk hqi);walk_at"";refine aG (ag.of hr4) (eE (v:=.ref b) (by rw[Gd,hb];rfl)) ?_;walk_at"";refine xk ?_;walk_at"";have hpre4:=hmono _ _ rr.ext hpre;refine⟨ff,pre,_,rfl,hF,hpre4,?_⟩;walk_at"";refine⟨hpre4,b,y,rfl,hby,iy,λl ps ys H5 e5 hln hl5 hps hys hyl=>?_⟩;have hpl:=dk hps;have rr5:=rr.step e5;obtain⟨kvs5,hd5,_⟩:=rr5.d;obtain⟨as5,hr5,_⟩:=rr5.r;have nlf:l≠f:=λz=>by obtain⟨kvs,hd,_⟩:=rr.d;rw[z,hd]at hln;cases hln
    have nlr:l≠rw:=λz=>by rw[z,hr4]at hln;cases hln
    refine cb (ag.of hl5) ?_;refine forL (xs:=List.map V.ref ps) (λj σ H'=>∃qs' k2,RR H H' f rw qs'/\qs'.Nodup/\(∃new,qs'=qs++new)/\(∀z∈qs',(∃n,Bfs.Rw S n x z)/\bV m TT z)/\(∀a,a<j->∀z,ys[a]?=some z->z∈qs')/\(∀c o,c≠f->c≠rw->H5 c=some o->H' c=some o)/\σ=[some (.ref pa),some (.ref ff),some (.ref f),some (.ref rw),some (.int ((i+1:Nat):Int)),some (.ref b),k2]) ⟨qs,_,rr5,rq.nd,⟨[],by simp⟩,λz hz=>⟨rq.wk z hz,rq.ins z hz⟩,λa ha=>absurd ha (Nat.not_lt_zero _),λc o _ _ h=>h,rfl⟩ (λj σ H' _ h=>by obtain⟨_,_,_,_,_,_,_,kp,_⟩:=h;exact ag.of (kp _ _ nlf nlr hl5)) ?_ ?_
    ·rintro j v σ H6 hv ⟨qs6,k2,rr6,nd6,⟨new,hnew⟩,in6,cl6,kp6,rfl⟩;rw[Gd]at hv;obtain⟨th,hth,rfl⟩:=Gn.mp hv;obtain⟨z,hz,hthz5⟩:=eZ hps hth;have nth:∀{c:Addr} {o:HO},H5 c=some o->(∀xs,o≠.tup xs)->th≠c:=λ{c o} hc hn=>cK hthz5 hc (λe=>hn _ e.symm);have hthz:ao H6 th z:=kp6 _ _ (nth hd5 (λxs e=>by cases e)) (nth hr5 (λxs e=>by cases e)) hthz5;have hSz:S y z:=(hys z).mp (Gk hz);have hq6:qs6.length<=24012:=bV.few hm12 hT nd6 λz hz=>(in6 z hz).2;obtain⟨kvs,hd,pk⟩:=rr6.d;walk_at"";refine fj ?_;walk_at"";refine⟨f,_,rfl,cU.t hd (k:=bj z) hthz,?_⟩;by_cases hin:z∈qs6
     ·obtain⟨v1,hv1⟩:=yM pk nd6 hin;rw[hv1];refine rd_exb (aC ?_);walk_at"";refine⟨qs6,_,rr6,nd6,⟨new,hnew⟩,in6,λa ha z' hz'=>?_,kp6,rfl⟩;by_cases haj:a<j
      ·exact cl6 a haj z' hz'
      ·have:a=j:=by omega
       subst this;rw[hz]at hz';cases hz';exact hin
     ·rw[wo pk hin];refine rd_exb (ay ?_);obtain⟨kvs,hd',hkl,as7,hr7,hal7,rr8⟩:=rr6.push (v:=.bl true) hin hthz;walk_at"";refine⟨f,_,rfl,gg.t hd' (k:=bj z) hthz (gI (by omega)),?_⟩;walk_at"";refine⟨bZ (ag.of hr7),?_⟩;walk_at"";refine bR hr7 (gI (by rw[Ga];omega)) ?_;walk_at"";obtain⟨n0,hn0⟩:=rq.wk y (Gk hqi);refine⟨qs6++[z],_,rr8,?_,⟨new++[z],by rw[hnew,List.append_assoc]⟩,λz' hz'=>?_,λa ha z' hz'=>?_,λc o nf nr hc=>?_,rfl⟩
      ·rw[List.nodup_append];refine⟨nd6,by simp,λa ha c hc e=>?_⟩;rw[Gm.mp hc]at e;exact hin (e ▸ ha)
      ·rcases Gz.mp hz' with h|h
       ·exact in6 z' h
       ·rw[Gm.mp h];exact⟨⟨n0+1,.snoc hn0 hSz⟩,hSin y z iy hSz⟩
      ·by_cases haj:a<j
       ·exact GS _ (cl6 a haj z' hz')
       ·have:a=j:=by omega
        subst this;rw[hz]at hz';cases hz';exact GR _ (by simp)
      ·rw[az nr,az nf];exact kp6 c o nf nr hc
    ·rintro σ H6 ⟨qs6,k2,rr6,nd6,⟨new,hnew⟩,in6,cl6,kp6,rfl⟩;rw[Ga,hpl]at cl6;have hq6:qs6.length<=24012:=bV.few hm12 hT nd6 λz hz=>(in6 z hz).2;have hle:qs.length<=qs6.length:=by rw[hnew,Gu];omega
     refine⟨qs6,_,_,rr6,⟨nd6,by rw[hnew];exact GS _ rq.has,λz hz=>(in6 z hz).1,λz hz=>(in6 z hz).2,λj hj y' hy' z hz=>?_⟩,by omega,hq6,rfl⟩;have hjq:j<qs.length:=by omega
     have hy2:qs[j]?=some y':=by rw[hnew,GC hjq]at hy';exact hy'
     by_cases hji:j<i
     ·rw[hnew];exact GS _ (rq.cl j hji y' hy2 z hz)
     ·have:j=i:=by omega
      subst this;rw[hqi]at hy2;cases hy2;obtain⟨a,ha⟩:=GX ((hys z).mpr hz);exact cl6 a (Gj.mp ha).1 z ha
  ·rintro σ H4 ⟨qs,i,k0,k1,k2,rr,rq,hi,hqn,rfl⟩;obtain⟨as,hr4,pr⟩:=rr.r;walk_at"";exact q rw as qs H4 rr.ext hr4 pr rq.ins hqn (rq.done hi)
def Eu(H H':Hp):Prop:=∀b o,H b=some o->(∀f,o≠.ext f)->H' b=some o
def aM.eu{H H':Hp}{bs:List Addr}{ws:List Way}(e:Eu H H')(h:aM H bs ws):aM H' bs ws:=⟨h.1,λj b w e1 e2=>e _ _ (h.2 j b w e1 e2) (λf z=>by cases z)⟩
def ao.eu{H H':Hp}(e:Eu H H'){p:Addr}{x:Bfs.Pl}(h:ao H p x):ao H' p x:=e _ _ h (λf z=>by cases z)
structure TL(H H':Hp)(q:Addr)(rs:List Addr)(n:Nat)(M:Nat->Nat->Bool):Prop where
 keep:∀b o,b∉rs->H b=some o->H' b=some o
 nd:rs.Nodup
 nq:q∉rs
 rows:Rows H' q rs n M
def TL.mark{H H1:Hp}{q r:Addr}{rs:List Addr}{n i j:Nat}{M:Nat->Nat->Bool}(h:TL H H1 q rs n M)(hi:rs[i]?=some r)(hj:j<n):TL H (upd H1 r (.lst ((aQ n (M i)).set j (.bl true)))) q rs n (put2 M i j):=by
 have hm:=Gk hi;have nqr:q≠r:=λz=>h.nq (z ▸ hm);refine⟨λb o nb e=>?_,h.nd,h.nq,?_,λa r' ha=>?_⟩
 ·have nbr:b≠r:=λz=>nb (by rw[z];exact hm);rw[az nbr];exact h.keep b o nb e
 ·rw[az nqr];exact h.rows.1
 ·by_cases hai:a=i
  ·subst hai;rw[hi]at ha;cases ha;rw[aO,qw _ _ hj];congr 2;refine eP λy _=>?_;unfold put2;by_cases hy:y=j
   ·rw[Hf hy,Hf ⟨rfl,hy⟩]
   ·rw[He hy,He λz=>hy z.2]
  ·have nr:r'≠r:=λz=>hai ((List.getElem?_inj (Gj.mp ha).1 h.nd).mp (by rw[ha,hi,z]));rw[az nr,h.rows.2 a r' ha];congr 2;exact eP λy _=>by unfold put2;rw[He λz=>hai z.1]
def Aa{m:Int}{ws:List Way}(ok:HOuse m ws){top:Int}{x y:Bfs.Pl}(h0:0<=top)(hx:bV m top x)(h:LB ws m.toNat top x y):bV m top y:=by
 have m1:=ok.m1;rcases h with⟨w,hw,ho,rfl,hle⟩|⟨_,i,j,hk,_,rfl⟩
 ·have okw:=ok.ok w hw;refine⟨okw.o0,okw.o1,?_,hle⟩;have hs:=(oF okw.dd x).mp ho;exact ub okw.dd hx.2.2.1 hs.2
 ·have:=Kpt.lt ok.ok hk;exact⟨by show(0:Int)<=(j:Int);omega,by show(j:Int)<m;omega,h0,Int.le_refl _⟩
def WT.eu{H H':Hp}{c:Addr}{n:Nat}{ls:List Addr}{ws:List Way}(e:Eu H H')(h:WT H c n ls ws):WT H' c n ls ws:=
 ⟨e _ _ h.at_ (λf z=>by cases z),h.len,λr l hl=>by obtain⟨bs,h1,h2⟩:=h.it r l hl;exact⟨bs,e _ _ h1 (λf z=>by cases z),h2.eu e⟩⟩
def eB.eu{H H':Hp}(e:Eu H H'){l:Addr}{n:Nat}{R:Nat->Nat->Prop}(h:eB H l n R):eB H' l n R:=by obtain⟨ps,g,h1,h2,h3⟩:=h;exact⟨ps,g,e _ _ h1 (λf z=>by cases z),bY (λa x h=>h.eu e) h2,h3⟩
def mO{K:F6}{x q:Str}{line col:Nat}{H H':Hp}{rs:List Addr}(e:∀b o,b∉rs->H b=some o->H' b=some o)(hr:∀r∈rs,∃xs,H r=some (.lst xs))(h:dn K x q line col H):dn K x q line col H':=λc T ht=>by
 have no:∀b o,H b=some o->(∀xs,o≠.lst xs)->H' b=some o:=λb o hb nl=>e b o (λz=>by obtain⟨xs,hx⟩:=hr b z;rw[hx]at hb;cases hb;exact nl _ rfl) hb;rcases h c T ht with h|⟨c',h1,h2⟩
 ·exact .inl (no _ _ h (λxs z=>by cases z))
 ·exact .inr ⟨c',no _ _ h1 (λxs z=>by cases z),no _ _ h2 (λxs z=>by cases z)⟩
def Tbs.kp{K:F6}{H H':Hp}{rs:List Addr}(e:∀b o,b∉rs->H b=some o->H' b=some o)(hr:∀r∈rs,∃xs,H r=some (.lst xs))(h:Tbs K H):Tbs K H':=⟨mO e hr h.kept,mO e hr h.low,mO e hr h.risen⟩
def pf(K:F6):Sp:=λvs H Q _=>∃vh m ws pa x,vs=[vh,.ref pa]/\aY H vh m ws/\HOuse m ws/\ao H pa x/\bx m x/\dJ K/\Tbs K H/\∀q rs M H',Et H H'->Tbs K H'->Rows H' q rs m.toNat M->(rs.length:Int)=x.2+1->(∀i r:Nat,(i:Int)<=x.2->(r:Int)<m->(M i r=true↔∃n,Bfs.Rw (LB ws m.toNat x.2) n x ((r:Int),(i:Int))))->Q (.ref q) H'
abbrev mU:Stmt:=stq 50
def vI:FnScope ["house","place","ways","keeps","levels","room","number"] ["house","place"] (aJ mU):=⟨rfl,rfl,rfl,by decide +kernel,rfl,by decide +kernel,by decide +kernel⟩
def DA{P:Program}{w:World}{K:F6}{mg:Str->Option Value}{base:Heap}(D:Dfn K mg "low_levels" mU ["house","place"])(T:Blt mg){c9 T9:Addr}(B:Tab K mg base "low_levels" c9 T9)(C_reached:Cal P w K mg base "reached" 6 ["place","beside"] (vS P w K mg base))(C_kept:Cal P w K mg base "kept" 7 ["house"] (mG K))(C_ways_by_room:Cal P w K mg base "ways_by_room" 1 ["house"] (uH K))(C_low_beside:Cal P w K mg base "low_beside" 4 ["ways","keeps","top","here"] (si K)):Cal P w K mg base "low_levels" 8 ["house","place"] (pf K):=by
 have nd:=(vI).nd;refine D.okL B vI (λvs H Q E h=>?_) (λX hX H vs Q E h=>?_)
 ·obtain⟨vh,m,ws,pa,x,rfl,_⟩:=h;rfl
 ·obtain⟨f,A,outer,s,H0,E0,rfl,hr⟩:=hX;obtain⟨vh,m,ws,pa,x,rfl,hv,ok,hpx,ix,dis,htb,q⟩:=h;have m1:=ok.m1;have m12:=ok.m12;obtain⟨i0,i1,i2,i3⟩:=id ix;refine⟨_,(ai (aD (i:=2) nd rfl (Or.inr rfl) (aE C_ways_by_room hr (aa (pv 0) ae)))
    (ai (aD (i:=3) nd rfl (Or.inr rfl) (aE C_kept hr (aa (pv 0) ae)))
    (ai (ic (i:=4) ["number"] [0] nd rfl (Or.inl rfl) (cq rfl T.range_ (aa (av aU (ah (aA K) (pv 1) af (λ_ _=>rfl)) af) ae)) (λ_=>(aR (i:=0) (show(["number","house"]:List Str).Nodup from by decide +kernel) rfl (Or.inl rfl) (Or.inr rfl))) (λ_=>fJ) (λ_=>(av pQ (aZ (aa bL ae)) (ah (aA K) (pv 1) af (λ_ _=>rfl)))))
    (ai (bD PassesOwn.never rfl (cj K (o5 [2,3,1] C_reached hr (aa (pv 1) (aa (ny rfl rfl B.hd B.blt B.gl (by decide +kernel) rfl rfl rfl) ae)))) (kB (n:=2) K rfl (cQ (aR (i:=5) nd rfl (Or.inl rfl)) (cQ (aR (i:=6) nd rfl (Or.inl rfl)) hG))) (aq (fZ bL (jN (ah (aH K) (pv 4) (pv 6) (λ_ _=>rfl)) (pv 5) set_list))))
    (aq (aI (pv 4))))))),?_⟩
  walk_at"";refine⟨vh,m,ws,rfl,hv,ok,λc ls H1 e1 wt=>?_⟩;walk_at"";refine⟨vh,m,ws,rfl,hv.ext e1,ok,dis,htb.ext e1,λkl H2 e2 tb2 prs=>?_⟩;have e02:=e1.et.trans e2;have wt2:=wt.et e2;have hv2:=hv.et e02;have hpx2:=hpx.et e02;obtain⟨hp0,hq0,hvr,hh2,_⟩:=id hv2;subst hvr;walk_at"";refine aB (aj.of hpx2) (v:=.int x.2) rfl ?_;walk_at"";refine cw (by omega) ?_;refine fz (λi ys H'=>Ext H2 H'/\∃rs:List Addr,ys=List.map V.ref rs/\rs.length=i/\rs.Nodup/\∀r∈rs,H' r=some (.lst (aQ m.toNat λ_=>false))/\H2 r=none) (bN (by omega)) ⟨Ext.rfl' _,[],rfl,rfl,List.nodup_nil,λl h=>(nomatch h)⟩ (λi ys H' _ h=>by obtain⟨_,ls,rfl,h,_⟩:=h;rw[Ga,h];exact Gw _) ?_ ?_
  ·rintro i ys H3 hi ⟨e3,rs,rfl,hl,hnd,hrs⟩;walk_at"";refine ay ?_;walk_at"";refine aw λz1 H4 e4 hz1 _=>?_;walk_at"";refine aB (aj.of ((e3.trans e4) _ _ hh2)) (v:=.int m) rfl ?_;refine oi hz1 (by omega) (bN (by simp;omega)) (cc λz2 H5 e5 hz2 hn5=>?_);rw[rT]at hz2;refine⟨(e3.trans e4).trans e5,rs++[z2],by rw[Gs];rfl,by rw[Gu,hl];rfl,?_,λr hr=>?_⟩
   ·rw[List.nodup_append];refine⟨hnd,by simp,λa ha b hb z=>?_⟩;rw[Gm.mp hb]at z;subst z;rw[e4 _ _ (hrs a ha).1]at hn5;cases hn5
   ·rcases Gz.mp hr with h|h
    ·exact⟨(e4.trans e5) _ _ (hrs r h).1,(hrs r h).2⟩
    ·rw[Gm.mp h];refine⟨hz2,?_⟩;cases y:H2 z2 with
     | none=>rfl
     | some o=>rw[(e3.trans e4) _ _ y]at hn5;cases hn5
  ·rintro ys H3 lq ⟨e3,rs,rfl,hrl,hnd,hrs⟩ hlq;have e34:=bO (o:=.lst (List.map V.ref rs)) hlq;have hlq4:(upd H3 lq (.lst (List.map V.ref rs))) lq=_:=aO;have nql:lq∉rs:=λz=>by rw[(hrs lq z).1]at hlq;cases hlq
   have rows4:Rows (upd H3 lq (.lst (List.map V.ref rs))) lq rs m.toNat (λ_ _=>false):=⟨aO,λi r h=>e34 _ _ (hrs r (Gk h)).1⟩;have e24:=e3.trans e34;generalize upd H3 lq (.lst (List.map V.ref rs))=H4 at e34 hlq4 rows4 e24 ⊢;have e04:=e02.trans e24.et;have tb4:=tb2.ext e24;have wt4:=wt2.ext e24;have prs4:=prs.et e24.et;have hpx4:ao H4 pa x:=e24 _ _ hpx2;walk_at"";show jm _ [2,3,1] _ (["house","place","ways","keeps","levels","room","number"]:List Str) _ _ _ _;generalize PySem.Env.cells _=cells0;refine nL ?_;walk_at"";refine oX ?_;refine pZ (x:="low_levels") tb4.low B.tin λfl c' cl H5 hcl e5 ht5 ot hf hc'=>?_;have t5:Tbs K H5:=⟨ot "kept" _ _ _ (λc2 T2 e2=>dis "low_levels" (by simp) "kept" (by simp) (by decide +kernel) _ _ _ _ B.tin e2) tb4.kept,ht5,ot "risen" _ _ _ (λc2 T2 e2=>dis "low_levels" (by simp) "risen" (by simp) (by decide +kernel) _ _ _ _ B.tin e2) tb4.risen⟩;walk_at"";refine⟨λj hj=>?_,λcp hlen hcp=>?_⟩
   ·simp only[Gq,GJ,or_false]at hj;rcases hj with rfl|rfl|rfl
    ·exact⟨_,rfl⟩
    ·exact⟨_,rfl⟩
    ·exact⟨_,rfl⟩
   obtain⟨⟨n1,d1,o1,v1⟩,⟨n2,d2,o2,v2⟩,⟨n3,d3,o3,v3⟩,rfl⟩:=DB hlen;obtain⟨hN1,hcc1,hσ1,hno1,u1,hdat1,hrel1⟩:=hcp 0 2 _ rfl rfl;obtain⟨hN2,hcc2,hσ2,hno2,u2,hdat2,hrel2⟩:=hcp 1 3 _ rfl rfl;obtain⟨hN3,hcc3,hσ3,hno3,u3,hdat3,hrel3⟩:=hcp 2 1 _ rfl rfl;clear hcp hlen;dsimp only at hN1 hcc1 hσ1 hno1 hdat1 hrel1 hN2 hcc2 hσ2 hno2 hdat2 hrel2 hN3 hcc3 hσ3 hno3 hdat3 hrel3;have hN1':(GP "ways")=n1:=GQ hN1;have hσ1':(V.ref c)=v1:=GQ (GQ hσ1);have hN2':(GP "keeps")=n2:=GQ hN2;have hσ2':(V.ref kl)=v2:=GQ (GQ hσ2);have hN3':(GP "place")=n3:=GQ hN3;have hσ3':(V.ref pa)=v3:=GQ (GQ hσ3);clear hN1 hσ1 hN2 hσ2 hN3 hσ3;subst hN1';subst hσ1';subst hN2';subst hσ2';subst hN3';subst hσ3';obtain⟨a1,ha1⟩:=hcl.has (GP "ways") rfl;obtain⟨a2,ha2⟩:=hcl.has (GP "keeps") rfl;obtain⟨a3,ha3⟩:=hcl.has (GP "place") rfl;have hb1:=(hcl.fr _ _ ha1).2;have hb2:=(hcl.fr _ _ ha2).2;have hb3:=(hcl.fr _ _ ha3).2;rw[hcc1]at hb1;rw[hcc2]at hb2;rw[hcc3]at hb3;cases hb1;cases hb2;cases hb3;have n12:d1≠d2:=λz=>absurd (hcl.inj _ _ _ ha1 (z ▸ ha2)) (by decide +kernel);have n13:d1≠d3:=λz=>absurd (hcl.inj _ _ _ ha1 (z ▸ ha3)) (by decide +kernel);have n23:d2≠d3:=λz=>absurd (hcl.inj _ _ _ ha2 (z ▸ ha3)) (by decide +kernel);obtain⟨cp,hcp⟩:∃cp:List Cap,cp=[⟨GP "ways",d1,o1,V.ref c⟩,⟨GP "keeps",d2,o2,V.ref kl⟩,⟨GP "place",d3,o3,V.ref pa⟩]:=⟨_,rfl⟩;have hn5:∀b o9,(cellsOf cp).lookup b=some o9->H5 b=none:=λb o9 hb=>by
    obtain⟨e,he,rfl,rfl⟩:=fQ hb;rw[hcp]at he;simp only[Gq,GJ,or_false]at he;rcases he with rfl|rfl|rfl
    ·exact hno1
    ·exact hno2
    ·exact hno3
   have ex:=kQ hn5;have hcaps:Caps (bE (cellsOf cp) H5) cl cp:=by
    refine⟨λe he=>?_,λy g hy=>?_⟩
    ·rw[hcp]at he ⊢;simp only[Gq,GJ,or_false]at he;rcases he with rfl|rfl|rfl
     ·exact⟨ha1,dW (by simp[cellsOf]),u1,hdat1,hrel1⟩
     ·refine⟨ha2,dW ?_,u2,hdat2,hrel2⟩;show List.lookup d2 ((d1,o1)::(d2,o2)::[(d3,o3)])=some o2;rw[GY,show (d2 == d1)=false from beq_eq_false_iff_ne.mpr (Ne.symm n12),GY,beq_self_eq_true]
     ·refine⟨ha3,dW ?_,u3,hdat3,hrel3⟩;show List.lookup d3 ((d1,o1)::(d2,o2)::[(d3,o3)])=some o3;rw[GY,show (d3 == d1)=false from beq_eq_false_iff_ne.mpr (Ne.symm n13),GY,show (d3 == d2)=false from beq_eq_false_iff_ne.mpr (Ne.symm n23),GY,beq_self_eq_true]
    ·have hm:=iG (hcl.fr y g hy).1;rw[hcp];simp at hm;rcases hm with rfl|rfl|rfl
     all_goals first|(rw[ha1]at hy;cases hy;exact⟨⟨GP "ways",d1,o1,V.ref c⟩,by simp,rfl,rfl⟩)|(rw[ha2]at hy;cases hy;exact⟨⟨GP "keeps",d2,o2,V.ref kl⟩,by simp,rfl,rfl⟩)|(rw[ha3]at hy;cases hy;exact⟨⟨GP "place",d3,o3,V.ref pa⟩,by simp,rfl,rfl⟩)
   have wt5:=(wt4.et e5).ext ex;have prs5:=(prs4.et e5).et ex.et;have hpx5:ao (bE (cellsOf cp) H5) pa x:=ex _ _ (hpx4.et e5);subst hcp;have hF:=
    qF (P:=P) (w:=w) (K:=K) (mg:=mg) (base:=base) (k:=4) hf hcl (["here"]:List Str) [⟨GP "ways",d1,o1,V.ref c⟩,⟨GP "keeps",d2,o2,V.ref kl⟩,⟨GP "place",d3,o3,V.ref pa⟩] (uZ m x.2 (LB ws m.toNat x.2)) (λH=>WT H c m.toNat ls ws/\eB H kl m.toNat (Kpt ws m.toNat)/\ao H pa x) ⟨rfl,rfl,rfl,by decide +kernel,by decide +kernel⟩ (λ_ _ _ us hl=>by obtain⟨u1,rfl⟩:=me hl;rfl) (λvs H Q h=>by obtain⟨p,y,rfl,_⟩:=h;rfl) (λA outer s H vs Q hrL hpre hI hR=>by
     obtain⟨p,y,rfl,hpy,iy,hQ⟩:=hR;have hlk:=hpre.2.2.look;obtain⟨hI1,hI2,hI3⟩:=hI;have eu:Eu H (aW (cellsOf [⟨GP "ways",d1,o1,V.ref c⟩,⟨GP "keeps",d2,o2,V.ref kl⟩,⟨GP "place",d3,o3,V.ref pa⟩]) H):=λb o hb nf=>fN hlk hb nf;have k1:=hI1.eu eu;have k2:=hI2.eu eu;have k3:=hI3.eu eu;have kp:=hpy.eu eu;refine⟨_,(aE C_low_beside hrL (aa (pv 1) (aa (pv 2) (aa (ah (aA K) (pv 3) af (λ_ _=>rfl)) (aa (pv 0) ae))))),?_⟩;have hb:∀H',Ext (aW (cellsOf [⟨GP "ways",d1,o1,V.ref c⟩,⟨GP "keeps",d2,o2,V.ref kl⟩,⟨GP "place",d3,o3,V.ref pa⟩]) H) H'->Ext H (bE (cellsOf [⟨GP "ways",d1,o1,V.ref c⟩,⟨GP "keeps",d2,o2,V.ref kl⟩,⟨GP "place",d3,o3,V.ref pa⟩]) H'):=λH' e=>xW hlk e;have hu:∀l,(cellsOf [⟨GP "ways",d1,o1,V.ref c⟩,⟨GP "keeps",d2,o2,V.ref kl⟩,⟨GP "place",d3,o3,V.ref pa⟩]).lookup l=none->aW (cellsOf [⟨GP "ways",d1,o1,V.ref c⟩,⟨GP "keeps",d2,o2,V.ref kl⟩,⟨GP "place",d3,o3,V.ref pa⟩]) H l=H l:=λl hl=>cx hl;generalize aW (cellsOf [⟨GP "ways",d1,o1,V.ref c⟩,⟨GP "keeps",d2,o2,V.ref kl⟩,⟨GP "place",d3,o3,V.ref pa⟩]) H=HU at k1 k2 k3 kp hb hu ⊢;generalize cellsOf [⟨GP "ways",d1,o1,V.ref c⟩,⟨GP "keeps",d2,o2,V.ref kl⟩,⟨GP "place",d3,o3,V.ref pa⟩]=cs at hb hu ⊢;show ja _ _ _ _ [some (.ref p),some (.ref c),some (.ref kl),some (.ref pa)] _ _;walk_at"";refine aB (aj.of k3) (v:=.int x.2) rfl ?_;walk_at"";refine⟨c,kl,x.2,p,m,ws,ls,y,rfl,k1,k2,ok,kp,iy.1,iy.2.1,λl ps ys H' e hn hl hps hys hyl=>?_⟩;intro hnc;have nl:cs.lookup l=none:=by
      cases z:cs.lookup l with
      | none=>rfl
      | some o=>rw[hnc l o z]at hl;cases hl
     have et:=kQ hnc;exact hQ l ps ys _ (hb H' e) (by rw[←hu l nl];exact hn) (et _ _ hl) (bY (λa x h=>et _ _ h) hps) hys hyl)
   refine⟨pa,fl,_,x,m,x.2,LB ws m.toNat x.2,rfl,hpx5,⟨i0,i1,i2,Int.le_refl _⟩,m12,by omega,hF,⟨⟨ex _ _ hf,ex _ _ hc',hcaps⟩,wt5,prs5,hpx5⟩,λH H' e h=>⟨h.1.ext e,h.2.1.ext e,h.2.2.1.et e.et,e _ _ h.2.2.2⟩,λy z hy hS=>Aa ok i2 hy hS,λl as qs H6 e6 hl6 hps hin hqn hqs=>?_⟩;clear hF;obtain⟨b1,b2,b3,b4⟩:=held hn5 e6;refine⟨b1,?_⟩;have hl7:=b4 _ _ hl6 (λf z=>by cases z);have hps7:Paired (ao (aW _ H6)) as qs:=bY (λa x h=>b4 _ _ h (λf z=>by cases z)) hps;have rows7:=(rows4.et e5).ext b2;have e07:=(e04.trans e5).trans b2.et;have t7:=t5.ext b2;generalize aW _ H6=H7 at hl7 hps7 rows7 e07 t7 ⊢;have hal:=dk hps7;have fr0:∀r∈rs,∀o,H r=some o->(∀ps,o≠.tbl ps)->False:=λr hr o ho no=>by have:=e02 _ _ ho no;rw[(hrs r hr).2]at this;cases this
   clear hcaps hn5 ex wt5 prs5 hpx5 e6 hl6 hps b1 b2 b3 b4 hf hc' hcl ha1 ha2 ha3 hcc1 hcc2 hcc3 hno1 hno2 hno3 hrel1 hrel2 hrel3 hdat1 hdat2 hdat3 n12 n13 n23 ot;have tup1:∀(b:Addr) (z:Bfs.Pl),ao H7 b z->b∉rs:=λb z hb hr=>by obtain⟨j,hj⟩:=GX hr;have h1:=rows7.2 j b hj;have h2:H7 b=some (.tup [.int z.1,.int z.2]):=hb;rw[h1]at h2;cases h2
   have nl:l∉rs:=λhr=>by
    obtain⟨j,hj⟩:=GX hr;have h1:=rows7.2 j l hj;rw[hl7]at h1;have h2:List.map V.ref as=aQ m.toNat λ_=>false:=by
     injection h1 with h1
     injection h1
    have h3:=congrArg (λz:List V=>z[0]?) h2
    try dsimp only at h3
    rw[fH _ (by omega),Gd]at h3;cases y:as[0]? with
    | none=>rw[y]at h3;cases h3
    | some a=>rw[y]at h3;cases h3
   refine cb (ag.of hl7) ?_;refine forL (xs:=List.map V.ref as) (λj σ H'=>∃M k1 k2,TL H7 H' lq rs m.toNat M/\(∀i r:Nat,M i r=true↔(((r:Nat):Int),((i:Nat):Int))∈qs.take j)/\σ=[some (.ref hp0),some (.ref pa),some (.ref c),some (.ref kl),some (.ref lq),k1,k2]) ⟨_,_,_,⟨λ_ _ _ e=>e,hnd,nql,rows7⟩,λi r=>by simp,rfl⟩ (λj σ H' _ h=>by obtain⟨M,k1,k2,tl,_⟩:=h;exact ag.of (tl.keep _ _ nl hl7)) ?_ ?_
   ·rintro j v σ H8 hx ⟨M,k1,k2,tl,hM,rfl⟩;rw[Gd]at hx;obtain⟨b,hb,rfl⟩:=Gn.mp hx;obtain⟨z,hz,hbz⟩:=eZ hps7 hb;obtain⟨z0,z1,z2,z3⟩:=hin z (Gk hz);have hbz8:ao H8 b z:=tl.keep _ _ (tup1 b z hbz) hbz;have hrx:z.2.toNat<rs.length:=by omega
    have hrg:rs[z.2.toNat]?=some rs[z.2.toNat]:=Gb hrx;generalize rs[z.2.toNat]=ar at hrg;have hrow:=tl.rows.2 _ _ hrg;refine ke (aj.of hbz8) rfl ?_;walk_at"";refine aG (ag.of tl.rows.1) (v:=.ref ar) (eG z2 (by rw[Gd,hrg];rfl)) ?_;walk_at"";refine jb hrow (i9 z0 (by rw[cD];omega)) ?_;refine⟨_,_,_,tl.mark hrg (by omega),λi r=>?_,rfl⟩;rw[List.take_add_one,hz,Gz];unfold put2;split
    ·rename_i y;simp only[true_iff];right;simp;refine Prod.ext ?_ ?_
     ·show((r:Nat):Int)=z.1;omega
     ·show((i:Nat):Int)=z.2;omega
    ·rename_i y;rw[hM];constructor
     ·exact λh=>.inl h
     ·rintro(h|h)
      ·exact h
      ·have h':(((r:Nat):Int),((i:Nat):Int))=z:=by simpa using h
       refine absurd ⟨?_,?_⟩ y
       ·rw[←h'];show i=((i:Nat):Int).toNat;omega
       ·rw[←h'];show r=((r:Nat):Int).toNat;omega
   ·rintro σ H8 ⟨M,k1,k2,tl,hM,rfl⟩;rw[Ga,hal,GG]at hM;walk_at"";refine q lq rs M H8 (λb o hb no=>?_) (t7.kp tl.keep λr hr=>?_) tl.rows (by omega) λi r hi hr=>?_
    ·have h7:=e07 _ _ hb no;exact tl.keep b o (λhr=>fr0 b hr o hb no) h7
    ·obtain⟨j,hj⟩:=GX hr;exact⟨_,rows7.2 j r hj⟩
    ·rw[hM];exact hqs _
def tI(K:F6):Sp:=λvs H Q _=>∃rl lv n f R,vs=[.ref rl,.ref lv]/\eB H rl n R/\H lv=some (.lst (aQ n f))/\n<=12/\∀l g H',Ext H H'->H l=none->H' l=some (.lst (aQ n g))->(∀j,j<n->(g j=true↔∃i,i<n/\f i=true/\R i j))->Q (.ref l) H'
abbrev nR:Stmt:=stq 51
def uL:FnScope ["rises","level","risen_to","p","q"] ["rises","level"] (aJ nR):=⟨rfl,rfl,rfl,by decide +kernel,rfl,by decide +kernel,by decide +kernel⟩
def DH{P:Program}{w:World}{K:F6}{mg:Str->Option Value}{base:Heap}(D:Dfn K mg "next_level" nR ["rises","level"])(T:Blt mg):Cal P w K mg base "next_level" 1 ["rises","level"] (tI K):=by
 have nd:=(uL).nd;refine D.ok uL (λvs H Q E h=>?_) (λX hX H vs Q E h=>?_)
 ·obtain⟨rl,lv,n,f,R,rfl,_⟩:=h;rfl
 ·obtain⟨f,cdv,A,outer,s,H0,E0,rfl,hr⟩:=hX;obtain⟨rl,lv,n,f',R,rfl,prs,hlv,hn,q⟩:=h;obtain⟨ps,g,hrl,hps,hg⟩:=prs;have hpl:=dk hps;refine⟨_,(@ai _ _ _ _ _ (@aD _ _ 2 _ _ _ _ nd rfl (Or.inl rfl) (av pQ (@aZ _ _ _ _ (@aa _ _ _ _ _ bL ae rfl)) (bt (df K) rfl T.len_ PySem.boot_len (@aa _ _ _ _ _ (pv 1) ae rfl))) rfl (Or.inl rfl))
    (@ai _ _ _ _ _ (bD PassesOwn.never rfl (cj K (pv 0)) (kB (n:=2) K rfl (cQ (aR (i:=3) nd rfl (Or.inl rfl)) (cQ (aR (i:=4) nd rfl (Or.inl rfl)) hG))) (@aq _ _ _ (cV (cC (@ah _ _ _ _ _ _ _ (aH K) (pv 1) (pv 3) (λ_ _=>rfl))) (@aq _ _ _ (@fZ _ _ _ _ _ _ bL (jN (pv 2) (pv 4) set_list) rfl rfl rfl)) bf)))
    (@aq _ _ _ (@aI _ _ _ _ (pv 2))))),?_⟩
  walk_at"";refine aw λz1 H1 e1 hz1 _=>?_;walk_at"";refine fo (ag.of (e1 _ _ hlv)) ?_;rw[cD];refine oi hz1 (by omega) (bN (by simp;omega)) (cc λrt H2 e2 hrt hrn=>?_);rw[rT,Gp]at hrt;have e02:=e1.trans e2;have hrt0:H rt=none:=by
   cases y:H rt with
   | none=>rfl
   | some o=>rw[e1 _ _ y]at hrn;cases hrn
  walk_at"";refine cb (ag.of (e02 _ _ hrl)) ?_;refine forL (xs:=List.map V.ref ps) (λj σ H'=>∃h k1 k2,Ext H H'/\H' rt=some (.lst (aQ n h))/\(∀b,h b=true↔∃z∈(cS n g n).take j,f' z.1.toNat=true/\z.2.toNat=b)/\σ=[some (.ref rl),some (.ref lv),some (.ref rt),k1,k2]) ⟨_,_,_,e02,hrt,λb=>by simp,rfl⟩ (λj σ H' _ h=>by obtain⟨_,_,_,e,_⟩:=h;exact ag.of (e _ _ hrl)) ?_ ?_
  ·rintro j v σ H3 hx ⟨h,k1,k2,e3,hr3,hh,rfl⟩;rw[Gd]at hx;obtain⟨b,hb,rfl⟩:=Gn.mp hx;obtain⟨z,hz,hbz⟩:=eZ hps hb;obtain⟨i,r,hi,hr,hgz,rfl⟩:=iw.mp (Gk hz);have hbz3:ao H3 b (((i:Nat):Int),((r:Nat):Int)):=e3 _ _ hbz;refine ke (aj.of hbz3) rfl ?_;walk_at"";refine fj ?_;walk_at"";refine aG (ag.of (e3 _ _ hlv)) (dD (by omega) (by omega)) ?_;rw[Gp];walk_at"";have step:∀P:Bfs.Pl->Prop,(∃z∈(cS n g n).take (j+1),P z)↔(∃z∈(cS n g n).take j,P z)\/P (((i:Nat):Int),((r:Nat):Int)):=λP=>by
    rw[List.take_add_one,hz];constructor
    ·rintro⟨z,hm,hp⟩;rcases Gz.mp hm with hm|hm
     ·exact .inl ⟨z,hm,hp⟩
     ·have:z=(((i:Nat):Int),((r:Nat):Int)):=by simpa using hm
      subst this;exact .inr hp
    ·rintro(⟨z,hm,hp⟩|hp)
     ·exact⟨z,GS _ hm,hp⟩
     ·exact⟨_,GR _ (by simp),hp⟩
   cases hf:f' i with
   | false=>
    refine aC ?_;walk_at"";refine⟨h,_,_,e3,hr3,λb=>?_,rfl⟩;rw[hh,step];constructor
    ·exact λy=>.inl y
    ·rintro(y|⟨y,_⟩)
     ·exact y
     ·have y':f' ((i:Nat):Int).toNat=true:=y;rw[Gp,hf]at y';cases y'
   | true=>
    refine ay ?_;walk_at"";refine jb hr3 (i9 (by omega) (by rw[cD];omega)) ?_;rw[Gp,qw _ _ hr];refine⟨_,_,_,cG e3 hrt0,aO,λb=>?_,rfl⟩;rw[step];by_cases hbr:b=r
    ·rw[Hf hbr];simp only[true_iff];refine .inr ⟨?_,?_⟩
     ·show f' ((i:Nat):Int).toNat=true;rw[Gp];exact hf
     ·show((r:Nat):Int).toNat=b;rw[Gp];exact hbr.symm
    ·rw[He hbr,hh];constructor
     ·exact λy=>.inl y
     ·rintro(y|⟨_,y⟩)
      ·exact y
      ·have y':((r:Nat):Int).toNat=b:=y;rw[Gp]at y';exact absurd y'.symm hbr
  ·rintro σ H3 ⟨h,k1,k2,e3,hr3,hh,rfl⟩;rw[Ga,hpl,GG]at hh;walk_at"";refine q rt h H3 e3 hrt0 hr3 λb hb=>?_;rw[hh];constructor
   ·rintro⟨z,hz,hf,rfl⟩;obtain⟨i,r,hi,hr,hgz,rfl⟩:=iw.mp hz;have hf':f' ((i:Nat):Int).toNat=true:=hf;rw[Gp]at hf';refine⟨i,hi,hf',?_⟩;show R i ((r:Nat):Int).toNat;rw[Gp];exact(hg i r hi hr).mp hgz
   ·rintro⟨i,hi,hf,hR⟩;refine⟨(((i:Nat):Int),((b:Nat):Int)),iw.mpr ⟨i,b,hi,hb,(hg i b hi hb).mpr hR,rfl⟩,?_,?_⟩
    ·show f' ((i:Nat):Int).toNat=true;rw[Gp];exact hf
    ·show((b:Nat):Int).toNat=b;exact Gp b
def sr{f:Nat->Bool}{lo i:Nat}{ys:List V}(h:ys=(row f lo i).map V.int)(hf:f (lo+i)=true):ys++[V.int ((lo+i:Nat):Int)]=(row f lo (i+1)).map V.int:=by rw[sA,Hf hf,Gs,h];rfl
def vz{f:Nat->Bool}{lo i:Nat}{ys:List V}(h:ys=(row f lo i).map V.int)(hf:f (lo+i)=false):ys=(row f lo (i+1)).map V.int:=by rw[sA,He (by rw[hf];decide),List.append_nil,h]
def gr(H:Hp)(v:V)(b s:Int)(o a:List Int):Prop:=∃p q r,v=.ref p/\H p=some (.tup [.int b,.int s,.ref q,.ref r])/\H q=some (.tup (o.map V.int))/\H r=some (.tup (a.map V.int))
def gr.ext{H H':Hp}{v:V}{b s:Int}{o a:List Int}(e:Ext H H')(h:gr H v b s o a):gr H' v b s o a:=by obtain⟨p,q,r,rfl,h1,h2,h3⟩:=h;exact⟨p,q,r,rfl,e _ _ h1,e _ _ h2,e _ _ h3⟩
def uV{n:Nat}{f:Nat->Bool}{i:Int}(h0:0<=i)(h:i<=n):b5 (aQ n f) (some i) none=aQ (n-i.toNat) λk=>f (i.toNat+k):=by
 unfold b5;rw[cD,HT.vB];have e:HT.aL n 0 (some i)=i.toNat:=by show(if i<0 then(i+(n:Int)).toNat else min i.toNat n)=i.toNat;rw[He (by omega)];omega
 rw[e];apply List.ext_getElem?;intro k;rcases GW k (n-i.toNat)with hk|hk
 ·rw[List.getElem?_take_of_lt hk,List.getElem?_drop,fH _ (by omega),fH _ hk]
 ·rw[List.getElem?_eq_none (by rw[GZ,List.length_drop,cD];omega),List.getElem?_eq_none (by rw[cD];omega)]
def dB(n:Nat)(f:Nat->Bool):List PyData:=(Hb n).map λi=>PyData.bool (f i)
def ya{α:Type}{R:V->PyData->Prop}{g:α->V}{k:α->PyData}(h:∀x,R (g x) (k x)):∀l:List α,Paired R (l.map g) (l.map k)
 | []=>.nil
 | x::l=>.cons (h x) (ya h l)
def i4{H:Hp}{p:Addr}{n:Nat}{f:Nat->Bool}(h:H p=some (.lst (aQ n f))):aV H 1 (.ref p) (.list (dB n f)):=
 .inr ⟨p,aQ n f,dB n f,rfl,.inr ⟨h,rfl⟩,ya (λi=>(rfl:f i=f i)) _⟩
def wR{α:Type}(f g:α->Bool):∀l:List α,PyData.eqvAll (l.map λi=>PyData.bool (f i)) (l.map λi=>PyData.bool (g i))=l.all λi=>f i == g i
 | []=>rfl
 | x::l=>by show(PyData.eqv (.bool (f x)) (.bool (g x)) && PyData.eqvAll (l.map λi=>PyData.bool (f i)) (l.map λi=>PyData.bool (g i)))=((f x == g x) && l.all λi=>f i == g i);rw[wR f g l];rfl
def jj{n:Nat}{f g:Nat->Bool}:PyData.eqv (.list (dB n f)) (.list (dB n g))=true↔∀i,i<n->f i=g i:=by show PyData.eqvAll (dB n f) (dB n g)=true↔_;unfold dB;rw[wR,GK];simp only[List.mem_range,beq_iff_eq]
def EI{n d:Nat}{g:Nat->Bool}(hd:d<=n)(hz:n % d=0):PyData.eqv (.list (dB (n-d) λk=>g (d+k))) (.list (dB (n-d) g))=true↔Alike g 0 n d:=by
 rw[jj];constructor
 ·intro h;refine⟨hz,λi hi=>?_⟩;have:=h i (by omega);rw[show 0+i+d=d+i by omega,this,Nat.zero_add]
 ·intro h i hi;have:=h.2 i (by omega);rw[show 0+i+d=d+i by omega,Nat.zero_add]at this;exact this
def yg(K:F6):Sp:=λvs H Q _=>∃(p:Addr) (n:Nat) (g:Nat->Bool),vs=[.ref p]/\1<=n/\n<=20000/\H p=some (.lst (aQ n g)) ∧
 ∀(d:Nat) H',Ext H H'->1<=d->d<=n->Alike g 0 n d->(∀e,1<=e->e<d->¬Alike g 0 n e)->Q (.int d) H'
abbrev mj:Stmt:=stq 15
def xM:FnScope ["turn","whole","step"] ["turn"] (aJ mj):=⟨rfl,rfl,rfl,by decide +kernel,rfl,by decide +kernel,by decide +kernel⟩
def BJ{P:Program}{w:World}{K:F6}{mg:Str->Option Value}{base:Heap}(D:Dfn K mg "least_step" mj ["turn"])(T:Blt mg):Cal P w K mg base "least_step" 1 ["turn"] (yg K):=by
 have nd:=(xM).nd;refine D.ok xM (λvs H Q E h=>?_) (λX hX H vs Q E h=>?_)
 ·obtain⟨p,n,g,rfl,_⟩:=h;rfl
 ·obtain⟨f,cdv,A,outer,s,H0,E0,rfl,hr⟩:=hX;obtain⟨p,n,g,rfl,hn1,hn2,hp,q⟩:=h;refine⟨_,(ai (aD (i:=1) nd rfl (Or.inl rfl) (bt (df K) rfl T.len_ PySem.boot_len (aa (pv 0) ae)))
    (ai (aD (i:=2) nd rfl (Or.inl rfl) af)
    (ai (gB PassesOwn.never (PW.pt (dX (aS cE (av cn (pv 1) (pv 2)) af (aP _)) (dZ (aS (Cc hr) (gD (jO K) (pv 0) (fA (pv 2)) iD) (gD (jO K) (pv 0) iD (fA (av cX (pv 1) (pv 2)))) (aP _))))) (aq (j6 (i:=2) nd rfl (Or.inl rfl) af pY)))
    (aq (aI (pv 2)))))),?_⟩
  walk_at"";refine fo (ag.of hp) ?_;rw[cD];walk_at"";refine gF (λm σ H'=>Ext H H'/\∃d:Nat,σ=[some (.ref p),some (.int n),some (.int d)]/\1<=d/\d<=n/\m=n-d/\∀e,1<=e->e<d->¬Alike g 0 n e)
   (λσ H'=>Ext H H'/\∃d:Nat,σ=[some (.ref p),some (.int n),some (.int d)]/\1<=d/\d<=n/\Alike g 0 n d/\∀e,1<=e->e<d->¬Alike g 0 n e) (n-1)
   ⟨Ext.rfl' H,1,rfl,Gw _,hn1,rfl,λe h1 h2=>by omega⟩ ?_ ?_
  rotate_left
  ·rintro σ H' ⟨e,d,rfl,h1,h2,ha,hf⟩;walk_at"";exact q d H' e h1 h2 ha hf
  rintro m σ H' ⟨e,d,rfl,h1,h2,rfl,hf⟩;have hp':=e _ _ hp;have hmod:((n:Int) % (d:Int)=0)↔n % d=0:=by have:(n:Int) % (d:Int)=((n % d:Nat):Int):=rfl;omega
  have next:∀H2,Ext H' H2->¬Alike g 0 n d->∃m',m'<n-d/\Ext H H2/\∃d':Nat,[some (V.ref p),some (V.int n),some (V.int ((d:Int)+1))]=[some (V.ref p),some (V.int n),some (V.int d')]/\1<=d'/\d'<=n/\m'=n-d'/\∀e,1<=e->e<d'->¬Alike g 0 n e:=by
   intro H2 e2 hna;have hlt:d<n:=by
    rcases GW d n with h|h
    ·exact h
    ·have:d=n:=by omega
     subst this;exact absurd ⟨Nat.mod_self d,λi hi=>by omega⟩ hna
   refine⟨n-(d+1),by omega,e.trans e2,d+1,rfl,by omega,by omega,rfl,λe' h3 h4=>?_⟩;rcases GW e' d with h5|h5
   ·exact hf e' h3 h5
   ·have:e'=d:=by omega
    subst this;exact hna
  walk_at"";by_cases hz:(n:Int) % (d:Int)=0
  ·rw[Hd hz];refine aC ?_;walk_at"";refine jc (ag.of hp') (cc λp1 H1 e1 hp1 _=>?_);walk_at"";refine jc (ag.of (e1 _ _ hp')) (cc λp2 H2 e2 hp2 _=>?_);rw[uV (by omega) (by omega),Gp]at hp1;rw[Dm (by omega) (by omega),show ((n:Int)-(d:Int)).toNat=n-d by omega]at hp2;refine⟨1,1,_,_,i4 (e2 _ _ hp1),i4 hp2,by decide,?_⟩;walk_at"";have hal:=EI (g:=g) h2 (hmod.mp hz);cases hc:PyData.eqv (.list (dB (n-d) λk=>g (d+k))) (.list (dB (n-d) g))with
   | true=>
    exact aC ⟨e.trans (e1.trans e2),d,rfl,h1,h2,hal.mp hc,hf⟩
   | false=>
    refine ay ⟨_,λ_ _ h=>h,?_⟩;walk_at"";exact next H2 (e1.trans e2) λh=>by rw[hal.mpr h]at hc;cases hc
  ·rw[Hc hz];refine ay (ay ⟨_,λ_ _ h=>h,?_⟩);walk_at"";exact next H' (Ext.rfl' H') λh=>hz (hmod.mpr h.1)
def ym{f:Nat->Bool}{b n d:Nat}:Alike (λk=>f (b+k)) 0 n d↔Alike f b n d:=by unfold Alike;simp only[Nat.zero_add,Nat.add_assoc]
def q0(K:F6):Sp:=λvs H Q _=>∃(p:Addr) (b n:Nat) (f:Nat->Bool),vs=[.ref p,.int b]/\1<=n/\b+n<=20000/\H p=some (.lst (aQ (b+n) f))/\bB f b n ∧
 ∀v (l d:Nat) H',Ext H H'->Least f d l->l<=b->d<=n->gr H' v l d (row f 0 l) (row f l d)->Q v H'
abbrev nY:Stmt:=stq 16
def tW:FnScope ["marks","base","step","low","once","again"] ["marks","base"] (aJ nY):=⟨rfl,rfl,rfl,by decide +kernel,rfl,by decide +kernel,by decide +kernel⟩
def Fi{P:Program}{w:World}{K:F6}{mg:Str->Option Value}{base:Heap}(D:Dfn K mg "stair_of_marks" nY ["marks","base"])(T:Blt mg)(C_least_step:Cal P w K mg base "least_step" 1 ["turn"] (yg K)):Cal P w K mg base "stair_of_marks" 2 ["marks","base"] (q0 K):=by
 have nd:=(tW).nd;refine D.ok tW (λvs H Q E h=>?_) (λX hX H vs Q E h=>?_)
 ·obtain⟨p,b,n,f,rfl,_⟩:=h;rfl
 ·obtain⟨f,cdv,A,outer,s,H0,E0,rfl,hr⟩:=hX;obtain⟨p,b,n,g,rfl,hn1,hbn,hp,hper,q⟩:=h;refine⟨_,(ai (aD (i:=2) nd rfl (Or.inl rfl) (aE C_least_step hr (aa (gD (jO K) (pv 0) (fA (pv 1)) iD) ae)))
    (ai (aD (i:=3) nd rfl (Or.inl rfl) (pv 1))
    (ai (gB PassesOwn.never (PW.pt (ir (aS iN (pv 3) af (aP _)) (ji (aS b6 (ah (aH K) (pv 0) (av cX (pv 3) af) (λ_ _=>rfl)) (ah (aH K) (pv 0) (av aU (av cX (pv 3) af) (pv 2)) (λ_ _=>rfl)) (aP _))))) (aq (j6 (i:=3) nd rfl (Or.inl rfl) af Cg)))
    (ai (ic (i:=4) ["number"] [0] nd rfl (Or.inl rfl) (cq rfl T.range_ (aa (pv 3) ae)) (λ_=>(aR (i:=0) (show(["number","marks"]:List Str).Nodup from by decide +kernel) rfl (Or.inl rfl) (Or.inr rfl))) (λ_=>(fY (cC (ah (aH K) (pv 1) (pv 0) (λ_ _=>rfl))))) (λ_=>(pv 0)))
    (ai (ic (i:=5) ["number"] [0] nd rfl (Or.inl rfl) (A8 rfl T.range_ (aa (pv 3) (aa (av aU (pv 3) (pv 2)) ae))) (λ_=>(aR (i:=0) (show(["number","marks"]:List Str).Nodup from by decide +kernel) rfl (Or.inl rfl) (Or.inr rfl))) (λ_=>(fY (cC (ah (aH K) (pv 1) (pv 0) (λ_ _=>rfl))))) (λ_=>(pv 0)))
    (aq (aI (aT (aa (pv 3) (aa (pv 2) (aa (gH (jH K) rfl T.tuple_ PyProof.Rows.boot_tuple (aa (pv 4) ae)) (aa (gH (jH K) rfl T.tuple_ PyProof.Rows.boot_tuple (aa (pv 5) ae)) ae)))))))))))),?_⟩
  walk_at"";refine jc (ag.of hp) (cc λp1 H1 e1 hp1 _=>?_);rw[uV (by omega) (by omega),Gp,show b+n-b=n by omega]at hp1;walk_at"";refine⟨p1,n,_,rfl,hn1,by omega,hp1,λd H2 e2 hd1 hd2 hal hfirst=>?_⟩;have hal':=ym.mp hal;have hfirst':∀e,1<=e->e<d->¬Alike g b n e:=λe h3 h4 h5=>hfirst e h3 h4 (ym.mpr h5);have e02:Ext H H2:=e1.trans e2;have hp2:=e02 _ _ hp;walk_at"";refine gF (λm σ H'=>H'=H2/\∃l:Nat,σ=[some (.ref p),some (.int b),some (.int d),some (.int l),none,none]/\l<=b/\m=l/\∀x,l<=x->x<b->g x=g (x+d))
   (λσ H'=>H'=H2/\∃l:Nat,σ=[some (.ref p),some (.int b),some (.int d),some (.int l),none,none]/\l<=b/\(∀x,l<=x->x<b->g x=g (x+d))/\(l=0\/g (l-1)≠g (l-1+d))) b
   ⟨rfl,b,rfl,Gw _,rfl,λx h1 h2=>by omega⟩ ?_ ?_
  ·rintro m σ H' ⟨rfl,l,rfl,hl,rfl,hdown⟩;walk_at"";by_cases h0:(0:Int)<(m:Int)
   ·rw[Hd h0];refine ay ?_;walk_at"";refine aG (ag.of hp2) (dD (by omega) (by omega)) ?_;walk_at"";refine aG (ag.of hp2) (dD (by omega) (by omega)) ?_;walk_at"";rw[show ((m:Int)-1).toNat=m-1 by omega,show ((m:Int)-1+(d:Int)).toNat=m-1+d by omega];cases hc:g (m-1) == g (m-1+d)with
    | true=>
     refine ay ⟨_,λ_ _ h=>h,?_⟩;walk_at"";refine⟨m-1,by omega,rfl,m-1,by rw[show ((m-1:Nat):Int)=(m:Int)-1 by omega];rfl,by omega,rfl,λx h1 h2=>?_⟩;rcases GW x m with h3|h3
     ·have:x=m-1:=by omega
      rw[this];exact eq_of_beq hc
     ·exact hdown x h3 h2
    | false=>exact aC ⟨rfl,m,rfl,hl,hdown,.inr λh=>by rw[h]at hc;simp at hc⟩
   ·rw[Hc h0];exact aC (aC ⟨rfl,m,rfl,hl,hdown,.inl (by omega)⟩)
  rintro σ H' ⟨rfl,l,rfl,hl,hdown,hstop⟩;have hleast:Least g d l:=An hper hn1 hd1 hal' hfirst' hl hdown hstop;walk_at"";refine cw (by omega) ?_;rw[Gp];refine fz (λi ys H3=>H3=H'/\ys=(row g 0 i).map V.int) (bN (by omega)) ⟨rfl,rfl⟩ ?_ ?_ ?_
  ·rintro i ys H3 _ ⟨rfl,rfl⟩;rw[Ga];exact sY g 0 i
  ·rintro i ys H3 hi ⟨rfl,hy⟩;walk_at"";refine aG (ag.of hp2) (dD (by omega) (by omega)) ?_;walk_at"";rw[show ((0:Int)+(i:Int)).toNat=i by omega];have e0:g (0+i)=g i:=by rw[Nat.zero_add]
   cases hg:g i with
   | true=>
    refine ay ?_;walk_at"";refine⟨rfl,?_⟩;rw[←sr hy (e0.trans hg)];congr 3
    all_goals omega
   | false=>exact aC ⟨rfl,vz hy (e0.trans hg)⟩
  rintro ys H3 p3 ⟨rfl,rfl⟩ hp3;have e4:Ext H3 (upd H3 p3 (.lst ((row g 0 l).map V.int))):=bO hp3;have h4:(upd H3 p3 (.lst ((row g 0 l).map V.int))) p3=_:=aO;generalize upd H3 p3 (.lst ((row g 0 l).map V.int))=H4 at e4 h4;have hp4:=e4 _ _ hp2;walk_at"";refine Eb (by omega) ?_;rw[show ((l:Int)+(d:Int)-(l:Int)).toNat=d by omega];refine fz (λi ys H5=>H5=H4/\ys=(row g l i).map V.int) (bN (by omega)) ⟨rfl,rfl⟩ ?_ ?_ ?_
  ·rintro i ys H5 _ ⟨rfl,rfl⟩;rw[Ga];exact sY g _ i
  ·rintro i ys H5 hi ⟨rfl,hy⟩;walk_at"";refine aG (ag.of hp4) (dD (by omega) (by omega)) ?_;walk_at"";rw[show ((l:Int)+(i:Int)).toNat=l+i by omega];cases hg:g (l+i)with
   | true=>
    refine ay ?_;walk_at"";refine⟨rfl,?_⟩;rw[←sr hy hg];congr 3
    all_goals omega
   | false=>exact aC ⟨rfl,vz hy hg⟩
  rintro ys H5 p5 ⟨rfl,rfl⟩ hp5;have e6:Ext H5 (upd H5 p5 (.lst ((row g l d).map V.int))):=bO hp5;have h6:(upd H5 p5 (.lst ((row g l d).map V.int))) p5=_:=aO;generalize upd H5 p5 (.lst ((row g l d).map V.int))=H6 at e6 h6;walk_at"";refine jG (ag.of (e6 _ _ h4)) (cc λt1 H7 e7 ht1 _=>?_);walk_at"";refine jG (ag.of (e7 _ _ h6)) (cc λt2 H8 e8 ht2 _=>?_);walk_at"";refine aw λt H9 e9 ht _=>?_;exact q _ l d H9 (e02.trans (e4.trans (e6.trans (e7.trans (e8.trans e9))))) hleast hl hd2 ⟨t,t1,t2,rfl,ht,e9 _ _ (e8 _ _ ht1),e9 _ _ ht2⟩
open Classical in
def hV(n:Nat)(R:Nat->Nat->Prop)(f:Nat->Bool):Nat->Bool:=λj=>decide (∃i,i<n/\f i=true/\R i j)
def jI{n:Nat}{R:Nat->Nat->Prop}{f:Nat->Bool}{j:Nat}:hV n R f j=true↔∃i,i<n/\f i=true/\R i j:=by unfold hV;simp
def bq(n:Nat)(R:Nat->Nat->Prop)(f:Nat->Bool):Nat->Nat->Bool
 | 0=>f
 | k+1=>hV n R (bq n R f k)
def dF(n:Nat)(f g:Nat->Bool):Prop:=∀j,j<n->f j=g j
def AO{n:Nat}{R:Nat->Nat->Prop}{f g:Nat->Bool}(h:dF n f g):dF n (hV n R f) (hV n R g):=λj _=>by
 rw[GN,jI,jI];constructor
 ·rintro⟨i,hi,h1,h2⟩;exact⟨i,hi,by rw[←h i hi];exact h1,h2⟩
 ·rintro⟨i,hi,h1,h2⟩;exact⟨i,hi,by rw[h i hi];exact h1,h2⟩
def tP{n:Nat}{R:Nat->Nat->Prop}{f:Nat->Bool}{a k:Nat}(h:dF n (bq n R f a) (bq n R f k)):∀t,dF n (bq n R f (a+t)) (bq n R f (k+t))
 | 0=>h
 | t+1=>AO (tP h t)
def ef(f:Nat->Bool):Nat->Nat
 | 0=>0
 | n+1=>ef f n+if f n then 2 ^ n else 0
def kY(f:Nat->Bool):∀n,ef f n<2 ^ n
 | 0=>by simp[ef]
 | n+1=>by
  have:=kY f n;have h2:2 ^ (n+1)=2 ^ n+2 ^ n:=by rw[Nat.pow_succ];omega
  show ef f n+(if f n then 2 ^ n else 0)<_;split<;>omega
def qU{f g:Nat->Bool}:∀n,ef f n=ef g n->dF n f g
 | 0,_=>λj hj=>absurd hj (Nat.not_lt_zero _)
 | n+1,h=>by
  have h1:=kY f n;have h2:=kY g n;have h':ef f n+(if f n then 2 ^ n else 0)=ef g n+(if g n then 2 ^ n else 0):=h;have key:f n=g n/\ef f n=ef g n:=by cases hf:f n<;>cases hg:g n<;>simp[hf,hg]at h' ⊢<;>omega
  intro j hj;by_cases hjn:j<n
  ·exact qU n key.2 j hjn
  ·have:j=n:=by omega
   subst this;exact key.1
def wW{n k:Nat}{F:Nat->Nat->Bool}(hn:n<=12)(h:∀a b,a<b->b<k->¬dF n (F a) (F b)):k<=4096:=by
 have h1:=Bfs.oI 4096 ((Hb k).map λa=>ef (F a) n) (by
  rw[List.nodup_iff_pairwise_ne,List.pairwise_map,List.pairwise_iff_getElem];intro i j hi hj hij e;simp at hi hj e;exact h i j hij hj (qU n e)) (λx hx=>by
  obtain⟨a,_,rfl⟩:=List.mem_map.mp hx;exact GH (kY (F a) n) (GI (Nat.pow_le_pow_right (by omega) hn) (by decide)))
 simpa using h1
def ft(n:Nat)(R:Nat->Nat->Prop)(top:Nat)(M:Nat->Nat->Bool):Nat->Nat->Bool:=λi=>if i<top then M i else bq n R (M top) (i-top)
def Cp{α:Type}{xs:List α}{k:Nat}(h:xs.length=k+1){v:α}(hv:xs[k]?=some v):bC xs (-1)=some v:=by unfold bC eS;rw[h,He (by omega),Hf (by omega)];show xs[(-1+((k+1:Nat):Int)).toNat]?=some v;rw[show (-1+((k+1:Nat):Int)).toNat=k by omega];exact hv
def EH{xs:List V}{k:Nat}(h:xs.length=k+1):b5 xs none (some (-1))=xs.take k:=by
 unfold b5;have e1:HT.aL xs.length xs.length (some (-1))=k:=by show(if(-1:Int)<0 then(-1+(xs.length:Int)).toNat else min (-1:Int).toNat xs.length)=_;rw[Hf (by decide)];omega
 have e2:HT.aL xs.length 0 none=0:=rfl;rw[e1,e2];simp
def mT{H:Hp}{n:Nat}:∀{hs:List Addr} {F:Nat->Nat->Bool},(∀(a:Nat) (r:Addr),hs[a]?=some r->H r=some (.lst (aQ n (F a))))->Paired (aV H 1) (List.map V.ref hs) ((Hb hs.length).map λa=>PyData.list (dB n (F a)))
 | [],_,_=>.nil
 | r::hs,F,h=>by rw[GF,List.range_succ_eq_map,List.map_cons,List.map_cons,List.map_map];exact .cons (i4 (h 0 r rfl)) (mT (F:=λa=>F (a+1)) λa r' hr=>h (a+1) r' (by simpa using hr))
def zT{i x a:Nat}(h:x+a<=i):a+(i-x-a)=i-x:=by omega
def zC{i x a k:Nat}(h:x+a<=i)(ha:a<k+1):k+1+(i-x-a)=i+(k+1-a)-x:=by omega
def rY{i x a c:Nat}(h:x+a<=i):¬i+c<x/\¬i<x:=by omega
def FD{x r h k a:Nat}(hr:r=x+1)(hh:h=k+1)(ha:a<k+1):min x r+h=x+a+(k+1-a):=by omega
def Av{i x r:Nat}(hr:r=x+1):i-min x r=i-x:=by omega
def wb{x r:Nat}(hr:r=x+1):min x r=x:=by omega
def sS(K:F6):Sp:=λvs H Q _=>∃vh m ws pa x,vs=[vh,.ref pa]/\aY H vh m ws/\HOuse m ws/\ao H pa x/\bx m x/\dJ K/\Tbs K H/\∀p lq rs (b N:Nat) M H',Et H H'->Tbs K H'->H' p=some (.tup [.ref lq,.int (b:Nat)])->Rows H' lq rs m.toNat (ft m.toNat (bo ws m.toNat) x.2.toNat M)->rs.length=b+N->1<=N->b+N<=5200->(∀r,r<m.toNat->bB (λi=>ft m.toNat (bo ws m.toNat) x.2.toNat M i r) b N) →
 (∀i r:Nat,(i:Int)<=x.2->(r:Int)<m->(M i r=true↔∃n,Bfs.Rw (LB ws m.toNat x.2) n x ((r:Int),(i:Int))))->Q (.ref p) H'
abbrev pN:Stmt:=stq 52
def qR:FnScope ["house","place","rises","low","high","level"] ["house","place"] (aJ pN):=⟨rfl,rfl,rfl,by decide +kernel,rfl,by decide +kernel,by decide +kernel⟩
def Bf{P:Program}{w:World}{K:F6}{mg:Str->Option Value}{base:Heap}(D:Dfn K mg "all_levels" pN ["house","place"])(T:Blt mg)(C_next_level:Cal P w K mg base "next_level" 1 ["rises","level"] (tI K))(C_low_levels:Cal P w K mg base "low_levels" 8 ["house","place"] (pf K))(C_risen:Cal P w K mg base "risen" 7 ["house"] (mK K)):Cal P w K mg base "all_levels" 9 ["house","place"] (sS K):=by
 have nd:=(qR).nd;refine D.ok qR (λvs H Q E h=>?_) (λX hX H vs Q E h=>?_)
 ·obtain⟨vh,m,ws,pa,x,rfl,_⟩:=h;rfl
 ·obtain⟨f,cdv,A,outer,s,H0,E0,rfl,hr⟩:=hX;obtain⟨vh,m,ws,pa,x,rfl,hv,ok,hpx,ix,dis,htb,q⟩:=h;have m1:=ok.m1;have m12:=ok.m12;obtain⟨i0,i1,i2,i3⟩:=id ix;refine⟨_,(ai (aD (i:=2) nd rfl (Or.inl rfl) (aE C_risen hr (aa (pv 0) ae)))
    (ai (aD (i:=3) nd rfl (Or.inl rfl) (aE C_low_levels hr (aa (pv 0) (aa (pv 1) ae))))
    (ai (aD (i:=4) nd rfl (Or.inl rfl) (aZ (aa (ah (aH K) (pv 3) (gq gR af) (λ_ _=>rfl)) ae)))
    (ai (aD (i:=5) nd rfl (Or.inl rfl) (aE C_next_level hr (aa (pv 2) (aa (ah (aH K) (pv 3) (gq gR af) (λ_ _=>rfl)) ae))))
    (ai (gB PassesOwn.never (aS (xI hr) (pv 5) (pv 4) (by with_unfolding_all rfl)) (ai (br (bG K Gi Gx Gy bT (pv 4) (aa (pv 5) ae)))
    (aq (aD (i:=5) nd rfl (Or.inl rfl) (aE C_next_level hr (aa (pv 2) (aa (pv 5) ae)))))))
    (aq (aI (aT (aa (av oM (gD (jO K) (pv 3) iD (fA (gq gR af))) (pv 4)) (aa (av aU (ah (aA K) (pv 1) af (λ_ _=>rfl)) (bG K Gi PySem.F.slot_list_index PySem.F.type_list_index (EB hr) (pv 4) (aa (pv 5) ae))) ae)))))))))),?_⟩
  walk_at"";refine⟨vh,m,ws,rfl,hv,ok,dis,htb,λrl H1 e1 tb1 prs=>?_⟩;walk_at"";refine⟨vh,m,ws,pa,x,rfl,hv.et e1,ok,hpx.et e1,ix,dis,tb1,λlq rs M H2 e2 tb2 rows hrl hM=>?_⟩;have prs2:=prs.et e2;have hpx2:=(hpx.et e1).et e2;have hrl':rs.length=x.2.toNat+1:=by omega
  have hlast:rs[x.2.toNat]?=some rs[x.2.toNat]:=Gb (by omega);generalize rs[x.2.toNat]=r0 at hlast;have hr0:=rows.2 _ _ hlast;have hat:bC (List.map V.ref rs) (-1)=some (.ref r0):=Cp (k:=x.2.toNat) (by rw[Ga];exact hrl') (by rw[Gd,hlast];rfl);walk_at"";refine aG (ag.of rows.1) hat ?_;walk_at"";refine aw λhq H3 e3 hhq hhn=>?_;walk_at"";refine aG (ag.of (e3 _ _ rows.1)) hat ?_;walk_at"";refine⟨rl,r0,m.toNat,_,_,rfl,prs2.et e3.et,e3 _ _ hr0,by omega,λlv g H4 e4 hln hl4 hg=>?_⟩;have e24:=e3.trans e4;have hl4':H4 lv=some (.lst (aQ m.toNat (bq m.toNat (bo ws m.toNat) (M x.2.toNat) 1))):=by
   rw[hl4];congr 2;exact eP λj hj=>by rw[GN];exact(hg j hj).trans jI.symm
  clear hl4 hg;walk_at"";refine gF (λmm σ H'=>∃hs lv k,Ext H2 H'/\H' hq=some (.lst (List.map V.ref hs))/\hs.length=k+1/\(∀(a:Nat) (r:Addr),hs[a]?=some r->H' r=some (.lst (aQ m.toNat (bq m.toNat (bo ws m.toNat) (M x.2.toNat) a))))/\(∀a b,a<b->b<k+1->¬dF m.toNat (bq m.toNat (bo ws m.toNat) (M x.2.toNat) a) (bq m.toNat (bo ws m.toNat) (M x.2.toNat) b))/\H' lv=some (.lst (aQ m.toNat (bq m.toNat (bo ws m.toNat) (M x.2.toNat) (k+1))))/\mm=4097-k/\σ=[some vh,some (.ref pa),some (.ref rl),some (.ref lq),some (.ref hq),some (.ref lv)])
   (λσ H'=>∃hs lv k a,Ext H2 H'/\H' hq=some (.lst (List.map V.ref hs))/\hs.length=k+1/\(∀(a:Nat) (r:Addr),hs[a]?=some r->H' r=some (.lst (aQ m.toNat (bq m.toNat (bo ws m.toNat) (M x.2.toNat) a))))/\(∀a b,a<b->b<k+1->¬dF m.toNat (bq m.toNat (bo ws m.toNat) (M x.2.toNat) a) (bq m.toNat (bo ws m.toNat) (M x.2.toNat) b))/\H' lv=some (.lst (aQ m.toNat (bq m.toNat (bo ws m.toNat) (M x.2.toNat) (k+1))))/\a<k+1/\dF m.toNat (bq m.toNat (bo ws m.toNat) (M x.2.toNat) a) (bq m.toNat (bo ws m.toNat) (M x.2.toNat) (k+1))/\k+1<=4096/\σ=[some vh,some (.ref pa),some (.ref rl),some (.ref lq),some (.ref hq),some (.ref lv)])
   4097 ⟨[r0],lv,0,e24,e4 _ _ hhq,rfl,λa r ha=>by
    cases a with
    | zero=>cases ha;exact e24 _ _ hr0
    | succ a=>simp at ha,λa b h1 h2=>by omega,hl4',rfl,rfl⟩ ?_ ?_
  ·rintro mm σ H5 ⟨hs,lv,k,e5,hq5,hsl,hrow,hun,hlv,rfl,rfl⟩;have hk:=wW (F:=bq m.toNat (bo ws m.toNat) (M x.2.toNat)) (show m.toNat<=12 by omega) hun;have hrep:=mT hrow;walk_at"";refine sV (i4 hlv) hq5 hrep (by omega) ?_;have hany:((Hb hs.length).map λa=>PyData.list (dB m.toNat (bq m.toNat (bo ws m.toNat) (M x.2.toNat) a))).any (λe=>PyData.eqv e (.list (dB m.toNat (bq m.toNat (bo ws m.toNat) (M x.2.toNat) (k+1)))))=true↔∃a,a<k+1/\dF m.toNat (bq m.toNat (bo ws m.toNat) (M x.2.toNat) a) (bq m.toNat (bo ws m.toNat) (M x.2.toNat) (k+1)):=by
    rw[List.any_map,GL,hsl];constructor
    ·rintro⟨a,ha,he⟩;exact⟨a,List.mem_range.mp ha,jj.mp he⟩
    ·rintro⟨a,ha,he⟩;exact⟨a,List.mem_range.mpr ha,jj.mpr he⟩
   generalize ((Hb hs.length).map λa=>PyData.list (dB m.toNat (bq m.toNat (bo ws m.toNat) (M x.2.toNat) a))).any (λe=>PyData.eqv e (.list (dB m.toNat (bq m.toNat (bo ws m.toNat) (M x.2.toNat) (k+1)))))=bb at hany ⊢;cases bb with
   | true=>
    obtain⟨a,ha,hsame⟩:=hany.mp rfl;refine⟨_,rfl,aC ?_⟩;exact⟨hs,lv,k,a,e5,hq5,hsl,hrow,hun,hlv,ha,hsame,hk,rfl⟩
   | false=>
    have hno:∀a,a<k+1->¬dF m.toNat (bq m.toNat (bo ws m.toNat) (M x.2.toNat) a) (bq m.toNat (bo ws m.toNat) (M x.2.toNat) (k+1)):=λa ha hs=>by have:=hany.mpr ⟨a,ha,hs⟩;cases this
    have hun2:∀a b,a<b->b<k+1+1->¬dF m.toNat (bq m.toNat (bo ws m.toNat) (M x.2.toNat) a) (bq m.toNat (bo ws m.toNat) (M x.2.toNat) b):=λa b hab hb=>by
     by_cases hbk:b<k+1
     ·exact hun a b hab hbk
     ·have:b=k+1:=by omega
      subst this;exact hno a hab
    have hk2:=wW (F:=bq m.toNat (bo ws m.toNat) (M x.2.toNat)) (show m.toNat<=12 by omega) hun2;refine⟨_,rfl,ay ⟨λσ' H'=>∃hs lv,Ext H2 H'/\H' hq=some (.lst (List.map V.ref hs))/\hs.length=k+1+1/\(∀(a:Nat) (r:Addr),hs[a]?=some r->H' r=some (.lst (aQ m.toNat (bq m.toNat (bo ws m.toNat) (M x.2.toNat) a))))/\H' lv=some (.lst (aQ m.toNat (bq m.toNat (bo ws m.toNat) (M x.2.toNat) (k+1+1))))/\σ'=[some vh,some (.ref pa),some (.ref rl),some (.ref lq),some (.ref hq),some (.ref lv)],λσ' H' ⟨hs,lv,a1,a2,a3,a4,a5,a6⟩=>⟨4097-(k+1),by omega,hs,lv,k+1,a1,a2,a3,a4,hun2,a5,rfl,a6⟩,?_⟩⟩;have nqr:∀r∈hs++[lv],r≠hq:=λr hr z=>by
     have hb:∃f,H5 r=some (.lst (aQ m.toNat f)):=by
      rcases Gz.mp hr with h|h
      ·obtain⟨j,hj⟩:=GX h;exact⟨_,hrow j r hj⟩
      ·rw[Gm.mp h];exact⟨_,hlv⟩
     obtain⟨f,hb⟩:=hb;rw[z,hq5]at hb;have h2:List.map V.ref hs=aQ m.toNat f:=by
      injection hb with hb
      injection hb
     have h3:=congrArg (λz:List V=>z[0]?) h2
     try dsimp only at h3
     rw[fH _ (by omega),Gd]at h3;cases y:hs[0]? with
     | none=>rw[y]at h3;cases h3
     | some a=>rw[y]at h3;cases h3
    walk_at"";refine⟨bZ (ag.of hq5),?_⟩;walk_at"";refine bR hq5 (gI (by rw[Ga];omega)) ?_;have hn2:H2 hq=none:=hhn;have e6:=cG (o:=.lst (List.map V.ref hs++[.ref lv])) e5 hn2;have keep:∀b o,b≠hq->H5 b=some o->upd H5 hq (.lst (List.map V.ref hs++[.ref lv])) b=some o:=λb o nb e=>by rw[az nb];exact e
    have hq6:upd H5 hq (.lst (List.map V.ref hs++[.ref lv])) hq=some (.lst (List.map V.ref (hs++[lv]))):=by rw[aO,Gs];rfl
    have hlv6:=keep lv _ (nqr lv (by simp)) hlv;have hrow6:∀(a:Nat) (r:Addr),(hs++[lv])[a]?=some r->upd H5 hq (.lst (List.map V.ref hs++[.ref lv])) r=some (.lst (aQ m.toNat (bq m.toNat (bo ws m.toNat) (M x.2.toNat) a))):=λa r ha=>by
     by_cases hal:a<hs.length
     ·rw[GC hal]at ha;exact keep r _ (nqr r (GS _ (Gk ha))) (hrow a r ha)
     ·rw[GA (by omega)]at ha;have hz:a-hs.length=0:=by have:=(Gj.mp ha).1;simp at this;omega
      rw[hz]at ha;cases ha;have:a=k+1:=by omega
      subst this;exact hlv6
    generalize upd H5 hq (.lst (List.map V.ref hs++[.ref lv]))=H6 at e6 hq6 hlv6 hrow6 ⊢;walk_at"";refine⟨rl,lv,m.toNat,_,_,rfl,prs2.et e6.et,hlv6,by omega,λlv2 g2 H7 e7 _ hl7 hg2=>?_⟩;walk_at"";refine⟨hs++[lv],lv2,e6.trans e7,e7 _ _ hq6,by rw[Gu,hsl];rfl,λa r ha=>e7 _ _ (hrow6 a r ha),?_,rfl⟩;rw[hl7];congr 2;exact eP λj hj=>by rw[GN];exact(hg2 j hj).trans jI.symm
  ·rintro σ H5 ⟨hs,lv,k,a,e5,hq5,hsl,hrow,hun,hlv,ha,hsame,hk,rfl⟩;have rows5:=rows.ext e5;walk_at"";refine jc (ag.of rows5.1) (cc λlo H6 e6 hlo _=>?_);rw[EH (k:=x.2.toNat) (by rw[Ga];exact hrl')]at hlo;walk_at"";refine qC hlo (e6 _ _ hq5) (bN (by simp;omega)) (cc λll H7 e7 hll _=>?_);have e57:=e6.trans e7;walk_at"";refine aB (aj.of (e57 _ _ (e5 _ _ hpx2))) (v:=.int x.2) rfl ?_;walk_at"";have hrow7:∀(a:Nat) (r:Addr),hs[a]?=some r->H7 r=some (.lst (aQ m.toNat (bq m.toNat (bo ws m.toNat) (M x.2.toNat) a))):=λa r h=>e57 _ _ (hrow a r h);refine⟨bZ (ag.of (e57 _ _ hq5)),?_⟩;walk_at"";refine⟨1,hq,_,.ref lv,_,_,a,rfl,rfl,i4 (e57 _ _ hlv),e57 _ _ hq5,mT hrow7,by omega,⟨_,by rw[Gd,List.getElem?_range (by omega)];rfl,jj.mpr hsame⟩,λb e hb he=>?_,by omega,?_⟩
   ·rw[Gd,List.getElem?_range (by omega)]at he;cases he;rw[Bool.eq_false_iff];intro hc;have:=jj.mp hc;exact hun b a hb ha λj hj=>(this j hj).trans (hsame j hj).symm
   walk_at"";refine aw λpp H8 e8 hpp _=>?_;have e28:=e5.trans (e57.trans e8);refine q pp ll (rs.take x.2.toNat++hs) (x.2.toNat+a) (k+1-a) M H8 ((e1.trans e2).trans e28.et) (tb2.ext e28) ?_ ⟨?_,λi r hi=>?_⟩ ?_ (by omega) (by omega) (λr hr=>?_) hM
   ·rw[hpp];congr 3;congr 2;omega
   ·rw[e8 _ _ hll,Gs,List.map_take]
   ·unfold ft;by_cases hix:i<x.2.toNat
    ·rw[Hf hix];rw[GC (by rw[GZ,wb hrl'];exact hix),List.getElem?_take_of_lt hix]at hi;exact e28 _ _ (rows.2 i r hi)
    ·rw[He hix];rw[GA (by rw[GZ,wb hrl'];exact Nat.le_of_not_lt hix),GZ,Av hrl']at hi;exact e8 _ _ (hrow7 _ _ hi)
   ·rw[Gu,GZ];exact FD hrl' hsl ha
   ·intro i hi;show ft _ _ _ _ (i+(k+1-a)) r=ft _ _ _ _ i r;unfold ft;rw[He (rY hi).1,He (rY (c:=0) hi).2];have hp:=tP hsame (i-x.2.toNat-a) r hr;rw[zT hi,zC hi ha]at hp;exact hp.symm
def qS{i d:Nat}(h:i+1<=d)(hn:d≠i+1):i+1+(d-1-(i+1))=d-1:=by omega
def eM(ws:List Way)(a b:Bfs.Pl):Prop:=∃w∈ws,cz w a.1 a.2=true/\b=(w.other,a.2+rz w.deed)
def cB(ws:List Way)(x y:Bfs.Pl):Prop:=∃n,Bfs.Rw (eM ws) n x y
def kJ{w:Way}{r n:Int}(hr:w.room=r)(h:w.deed = "up"\/w.deed = "stay"\/(w.deed = "down"/\0<n)\/(w.deed = "zero"/\n=0)):cz w r n=true:=by
 unfold cz;rw[Hd hr,Bool.true_and];rcases h with h|h|⟨h,hn⟩|⟨h,hn⟩
 ·rw[h,He (by decide +kernel)];have:decide ((GP "up") = "zero")=false:=by decide +kernel
  rw[this];rfl
 ·rw[h,He (by decide +kernel)];have:decide ((GP "stay") = "zero")=false:=by decide +kernel
  rw[this];rfl
 ·rw[h,Hf (by decide +kernel)];exact Hd hn
 ·rw[h,He (by decide +kernel),hn];simp
def ik{w:Way}{r n:Int}(hd:bK w.deed)(h:cz w r n=true):(w.deed = "up"/\rz w.deed=1)\/(w.deed = "stay"/\rz w.deed=0)\/(w.deed = "down"/\0<n/\rz w.deed = -1)\/(w.deed = "zero"/\n=0/\rz w.deed=0):=by
 unfold cz at h;rw[GO]at h;rcases hd with hd|hd|hd|hd
 ·exact .inl ⟨hd,by rw[hd];exact jt⟩
 ·rw[hd,Hf (by decide +kernel)]at h;exact .inr (.inr (.inl ⟨hd,of_decide_eq_true h.2,by rw[hd];exact kE⟩))
 ·exact .inr (.inl ⟨hd,by rw[hd];exact kG⟩)
 ·rw[hd,He (by decide +kernel)]at h;have h2:decide ((GP "zero") = "zero")=true:=by decide +kernel
  rw[h2]at h;refine .inr (.inr (.inr ⟨hd,?_,by rw[hd];exact ql⟩));simpa using h.2
def cB.refl{ws:List Way}{x:Bfs.Pl}:cB ws x x:=⟨0,.nil⟩
def cB.trans{ws:List Way}{x y z:Bfs.Pl}(h:cB ws x y)(g:cB ws y z):cB ws x z:=by obtain⟨n,h⟩:=h;obtain⟨k,g⟩:=g;exact⟨n+k,h.trans g⟩
def cB.one{ws:List Way}{x y:Bfs.Pl}(h:eM ws x y):cB ws x y:=⟨1,.snoc .nil h⟩
section
variable {m:Int} {ws:List Way} (ok:∀w∈ws,w.Ok m)
include ok
def fm{a b:Bfs.Pl}(h:eM ws a b)(ha:0<=a.2):0<=b.1/\b.1<m/\0<=b.2/\b.2<=a.2+1/\a.2<=b.2+1:=by obtain⟨w,hw,ho,rfl⟩:=h;have okw:=ok w hw;refine⟨okw.o0,okw.o1,?_⟩;rcases ik okw.dd ho with⟨_,h⟩|⟨_,h⟩|⟨_,h1,h⟩|⟨_,h1,h⟩<;>(show 0<=a.2+rz w.deed/\a.2+rz w.deed<=a.2+1/\a.2<=a.2+rz w.deed+1;omega)
def vw{i j:Nat}(h:Kpt ws m.toNat i j):∀L:Int,0<=L->cB ws ((i:Int),L) ((j:Int),L):=by
 induction h with
 | refl _=>exact λ_ _=>.refl
 | @stay w hw hd=>
  intro L _;have okw:=ok w hw;have r0:=okw.r0;have o0:=okw.o0;refine .one ⟨w,hw,kJ (by show w.room=((w.room.toNat:Nat):Int);omega) (.inr (.inl hd)),?_⟩;rw[hd,kG];exact Prod.ext (by show((w.other.toNat:Nat):Int)=w.other;omega) (by show L=L+0;omega)
 | trans _ _ h1 h2=>exact λL hL=>(h1 L hL).trans (h2 L hL)
 | @arch u d hu hud hd hdd _ ih=>
  intro L hL;have oku:=ok u hu;have okd:=ok d hd;have u0:=oku.r0;have u1:=oku.o0;have d0:=okd.r0;have d1:=okd.o0;have s1:eM ws (((u.room.toNat:Nat):Int),L) (((u.other.toNat:Nat):Int),L+1):=⟨u,hu,kJ (by show u.room=((u.room.toNat:Nat):Int);omega) (.inl hud),by rw[hud,jt];exact Prod.ext (by show((u.other.toNat:Nat):Int)=u.other;omega) rfl⟩;have s2:eM ws (((d.room.toNat:Nat):Int),L+1) (((d.other.toNat:Nat):Int),L):=⟨d,hd,kJ (by show d.room=((d.room.toNat:Nat):Int);omega) (.inr (.inr (.inl ⟨hdd,by omega⟩))),by rw[hdd,kE];exact Prod.ext (by show((d.other.toNat:Nat):Int)=d.other;omega) (by show L=L+1 + -1;omega)⟩;exact((cB.one s1).trans (ih (L+1) (by omega))).trans (.one s2)
def sG:∀(n:Nat) (w:Nat->Bfs.Pl) (i:Nat) (L:Int),1<=L->(∀k,i<=k->k<i+n->eM ws (w k) (w (k+1)))->(∀k,i<=k->k<=i+n->L<=(w k).2)->(w i).2=L->(w (i+n)).2=L->0<=(w i).1->(w i).1<m->Kpt ws m.toNat (w i).1.toNat (w (i+n)).1.toNat:=by
 intro n;induction n using Nat.strongRecOn with
 | ind n ih=>
  intro w i L hL hS hh h0 h1 r0 r1;cases n with
  | zero=>exact .refl (by show(w i).1.toNat<m.toNat;omega)
  | succ n=>
   have s0:=hS i (Gw _) (by omega);have in1:=fm ok s0 (by omega);obtain⟨v,hv,ho,hw1⟩:=id s0;have okv:=ok v hv;have hroom:=iB ho;have e1:(w (i+1)).1=v.other:=by rw[hw1]
   have e2:(w (i+1)).2=(w i).2+rz v.deed:=by rw[hw1]
   have hge:=hh (i+1) (by omega) (by omega);rcases ik okv.dd ho with⟨hd,hz⟩|⟨hd,hz⟩|⟨hd,_,hz⟩|⟨hd,h00,hz⟩
   ·obtain⟨d,hd1,hd2,hd3,hd4⟩:=Bfs.Dg (h:=λk=>(w k).2) (l:=L) (P:=i+1) (n:=i+(n+1)) (by omega) (λk hk1 hk2=>(fm ok (hS k (by omega) hk2) (by have:=hh k (by omega) (by omega);omega)).2.2.2.2) (by show(w (i+(n+1))).2<=L;omega) (by show L<=(w (i+1)).2;omega)
    try dsimp only at hd3 hd4
    have hdi:d≠i+1:=λz=>by rw[z]at hd3;omega
    have sd:=hS (d-1) (by omega) (by omega);rw[show d-1+1=d by omega]at sd;obtain⟨v2,hv2,ho2,hw2⟩:=id sd;have okv2:=ok v2 hv2;have hroom2:=iB ho2;have f1:(w d).1=v2.other:=by rw[hw2]
    have f2:(w d).2=(w (d-1)).2+rz v2.deed:=by rw[hw2]
    have hgt:=hd4 (d-1) (by omega) (by omega);have hdown:v2.deed = "down"/\rz v2.deed = -1:=by
     rcases ik okv2.dd ho2 with⟨_,hz⟩|⟨_,hz⟩|⟨hd,_,hz⟩|⟨_,_,hz⟩
     ·omega
     ·omega
     ·exact⟨hd,hz⟩
     ·omega
    have inner:=ih (d-1-(i+1)) (by omega) w (i+1) (L+1) (by omega) (λk hk1 hk2=>hS k (by omega) (by omega)) (λk hk1 hk2=>by have:=hd4 k hk1 (by omega);omega) (by omega) (by rw[qS hd1 hdi];omega) in1.1 in1.2.1;rw[qS hd1 hdi,e1,←hroom2]at inner;have ar:=Kpt.arch hv hd hv2 hdown.1 inner;rw[hroom,←f1]at ar;have ind:=fm ok sd (by omega);have rest:=ih (i+(n+1)-d) (by omega) w d L hL (λk hk1 hk2=>hS k (by omega) (by omega)) (λk hk1 hk2=>hh k (by omega) (by omega)) hd3 (by rw[Nat.add_sub_of_le hd2];exact h1) ind.1 ind.2.1;rw[Nat.add_sub_of_le hd2]at rest;exact .trans ar rest
   ·have rest:=ih n (by omega) w (i+1) L hL (λk hk1 hk2=>hS k (by omega) (by omega)) (λk hk1 hk2=>hh k (by omega) (by omega)) (by omega) (by rw[show i+1+n=i+(n+1) by omega];exact h1) in1.1 in1.2.1;rw[show i+1+n=i+(n+1) by omega,e1]at rest;have st:=Kpt.stay (n:=m.toNat) hv hd;rw[hroom]at st;exact .trans st rest
   ·omega
   ·omega
def oP{w:Nat->Bfs.Pl}{n:Nat}(h0:0<=(w 0).1/\(w 0).1<m/\0<=(w 0).2)(hS:∀k,k<n->eM ws (w k) (w (k+1))):∀k,k<=n->0<=(w k).1/\(w k).1<m/\0<=(w k).2
 | 0,_=>h0
 | k+1,hk=>by have ih:=oP h0 hS k (by omega);have:=fm ok (hS k (by omega)) ih.2.2;exact⟨this.1,this.2.1,this.2.2.1⟩
def CU{top:Int}{x:Bfs.Pl}(ht:0<=top)(hx:bV m top x){k:Nat}{y:Bfs.Pl}(h:Bfs.Rw (LB ws m.toNat top) k x y):cB ws x y/\bV m top y:=by
 induction h with
 | nil=>exact⟨.refl,hx⟩
 | @snoc n x y z _ hs ih=>
  obtain⟨hr,hy⟩:=ih hx;rcases hs with⟨w,hw,ho,rfl,hle⟩|⟨hty,i,j,hk,hyi,rfl⟩
  ·have st:eM ws y (w.other,y.2+rz w.deed):=⟨w,hw,ho,rfl⟩;have:=fm ok st hy.2.2.1;exact⟨hr.trans (.one st),this.1,this.2.1,this.2.2.1,hle⟩
  ·have hlt:=Kpt.lt ok hk;have hy2:y.2=top:=by have:=hy.2.2.2;omega
   have hs:=vw ok hk top ht;have hye:y=((i:Int),top):=Prod.ext hyi hy2;rw[←hye]at hs;exact⟨hr.trans hs,by show(0:Int)<=(j:Int);omega,by show(j:Int)<m;omega,ht,Int.le_refl _⟩
def zl{top:Int}(ht:0<=top):∀(n:Nat) (w:Nat->Bfs.Pl),0<=(w 0).1->(w 0).1<m->(w 0).2=top->(∀k,k<n->eM ws (w k) (w (k+1)))->(w n).2<=top->∃k,Bfs.Rw (LB ws m.toNat top) k (w 0) (w n):=by
 intro n;induction n using Nat.strongRecOn with
 | ind n ih=>
  intro w h00 h01 h02 hS hle;cases n with
  | zero=>exact⟨0,.nil⟩
  | succ n=>
   have hin:=oP ok (w:=w) (n:=n+1) ⟨h00,h01,by omega⟩ hS;have sn:=hS n (by omega);have inn:=fm ok sn (hin n (by omega)).2.2;by_cases hz:(w n).2<=top
   ·obtain⟨k,hk⟩:=ih n (by omega) w h00 h01 h02 (λk hk=>hS k (by omega)) hz;obtain⟨v,hv,ho,he⟩:=sn;exact⟨k+1,.snoc hk (.inl ⟨v,hv,ho,he,hle⟩)⟩
   ·obtain⟨u,hu,hul,hui⟩:=Bfs.kW (h:=λk=>(w k).2) (l:=top) n (λk hk=>(fm ok (hS k (by omega)) (hin k (by omega)).2.2).2.2.2.1) (by show(w 0).2<=top;omega) (by show top<=(w n).2;omega)
    try dsimp only at hul hui
    have hun:u≠n:=λz=>by rw[z]at hul;omega
    have su:=hS u (by omega);have inu:=fm ok su (hin u (by omega)).2.2;have hu1:=hui (u+1) (by omega) (by omega);obtain⟨v,hv,ho,hw1⟩:=id su;obtain⟨v2,hv2,ho2,hw2⟩:=id sn;have e1:(w (u+1)).1=v.other:=by rw[hw1]
    have e2:(w (u+1)).2=(w u).2+rz v.deed:=by rw[hw1]
    have f1:(w (n+1)).1=v2.other:=by rw[hw2]
    have f2:(w (n+1)).2=(w n).2+rz v2.deed:=by rw[hw2]
    have hup:v.deed = "up":=by
     rcases ik (ok v hv).dd ho with⟨hd,_⟩|⟨_,hz⟩|⟨_,_,hz⟩|⟨_,_,hz⟩
     ·exact hd
     ·omega
     ·omega
     ·omega
    have hdn:v2.deed = "down":=by
     rcases ik (ok v2 hv2).dd ho2 with⟨_,hz⟩|⟨_,hz⟩|⟨hd,_,_⟩|⟨_,_,hz⟩
     ·omega
     ·omega
     ·exact hd
     ·omega
    have hin1:=hin (u+1) (by omega);have inner:=sG ok (n-(u+1)) w (u+1) (top+1) (by omega) (λk hk1 hk2=>hS k (by omega)) (λk hk1 hk2=>by have:=hui k (by omega) (by omega);omega) (by omega) (by rw[show u+1+(n-(u+1))=n by omega];omega) hin1.1 hin1.2.1;rw[show u+1+(n-(u+1))=n by omega,e1,←iB ho2]at inner;have ar:=Kpt.arch hv hup hv2 hdn inner;rw[iB ho,←f1]at ar;obtain⟨k,hk⟩:=ih u (by omega) w h00 h01 h02 (λk hk=>hS k (by omega)) (by omega);have hinu:=hin u (by omega);have hinn:=hin (n+1) (by omega);refine⟨k+1,.snoc hk (.inr ⟨by omega,_,_,ar,by omega,?_⟩)⟩;exact Prod.ext (by show(w (n+1)).1=(((w (n+1)).1.toNat:Nat):Int);omega) (by show(w (n+1)).2=top;omega)
def Cw{top:Int}{x:Bfs.Pl}(ht:0<=top)(hx:bV m top x)(hx2:x.2=top){y:Bfs.Pl}(hy:y.2<=top):(∃n,Bfs.Rw (LB ws m.toNat top) n x y)↔cB ws x y:=by
 constructor
 ·rintro⟨n,h⟩;exact(CU ok ht hx h).1
 ·rintro⟨n,h⟩;obtain⟨w,w0,wn,hS⟩:=h.fn;have:=zl ok ht n w (by rw[w0];exact hx.1) (by rw[w0];exact hx.2.1) (by rw[w0];exact hx2) hS (by rw[wn];exact hy);rw[w0,wn]at this;exact this
def DS{x:Bfs.Pl}(hx:0<=x.1/\x.1<m/\0<=x.2){i r:Nat}(hi:x.2<=(i:Int)):cB ws x ((r:Int),((i+1:Nat):Int))↔∃p,p<m.toNat/\cB ws x ((p:Int),(i:Int))/\bo ws m.toNat p r:=by
 constructor
 ·rintro⟨n,h⟩;obtain⟨w,w0,wn,hS⟩:=h.fn;have hin:=oP ok (w:=w) (n:=n) (by rw[w0];exact hx) hS;have wn2:(w n).2=(i:Int)+1:=by rw[wn];show((i+1:Nat):Int)=_;omega
  obtain⟨u,hu,hul,hui⟩:=Bfs.kW (h:=λk=>(w k).2) (l:=(i:Int)) n (λk hk=>(fm ok (hS k hk) (hin k (by omega)).2.2).2.2.2.1) (by show(w 0).2<=(i:Int);rw[w0];exact hi) (by show(i:Int)<=(w n).2;omega)
  try dsimp only at hul hui
  have hun:u≠n:=λz=>by rw[z]at hul;omega
  have su:=hS u (by omega);have hu1:=hui (u+1) (by omega) (by omega);obtain⟨v,hv,ho,hw1⟩:=id su;have e1:(w (u+1)).1=v.other:=by rw[hw1]
  have e2:(w (u+1)).2=(w u).2+rz v.deed:=by rw[hw1]
  have hup:v.deed = "up"/\rz v.deed=1:=by
   rcases ik (ok v hv).dd ho with⟨hd,hz⟩|⟨_,hz⟩|⟨_,_,hz⟩|⟨_,_,hz⟩
   ·exact⟨hd,hz⟩
   ·omega
   ·omega
   ·omega
  have hin1:=hin (u+1) (by omega);have hinu:=hin u (by omega);have inner:=sG ok (n-(u+1)) w (u+1) ((i:Int)+1) (by omega) (λk hk1 hk2=>hS k (by omega)) (λk hk1 hk2=>by have:=hui k (by omega) (by omega);omega) (by omega) (by rw[show u+1+(n-(u+1))=n by omega];exact wn2) hin1.1 hin1.2.1;rw[show u+1+(n-(u+1))=n by omega,e1,show (w n).1.toNat=r by rw[wn];exact Gp r]at inner;refine⟨(w u).1.toNat,by omega,⟨u,?_⟩,v,hv,hup.1,by rw[iB ho],inner⟩;have seg:=Bfs.BW (S:=eM ws) (w:=w) (i:=0) (j:=u) (by omega) (λk _ hk=>hS k (by omega));rw[w0,Nat.sub_zero]at seg;have hwu:w u=((((w u).1.toNat:Nat):Int),(i:Int)):=Prod.ext (by show(w u).1=(((w u).1.toNat:Nat):Int);omega) hul;rw[hwu]at seg;exact seg
 ·rintro⟨p,hp,hr,v,hv,hd,hroom,hk⟩;have okv:=ok v hv;have r0:=okv.r0;have o0:=okv.o0;have st:eM ws ((p:Int),(i:Int)) (((v.other.toNat:Nat):Int),(i:Int)+1):=⟨v,hv,kJ (by show v.room=((p:Nat):Int);omega) (.inl hd),by rw[hd,jt];exact Prod.ext (by show((v.other.toNat:Nat):Int)=v.other;omega) rfl⟩;have hs:=vw ok hk ((i:Int)+1) (by omega);have:=(hr.trans (.one st)).trans hs;rw[show ((i+1:Nat):Int)=(i:Int)+1 by omega];exact this
def zb{x:Bfs.Pl}(hx:0<=x.1/\x.1<m/\0<=x.2){M:Nat->Nat->Bool}(hM:∀i r:Nat,(i:Int)<=x.2->(r:Int)<m->(M i r=true↔∃n,Bfs.Rw (LB ws m.toNat x.2) n x ((r:Int),(i:Int)))):∀i r:Nat,r<m.toNat->(ft m.toNat (bo ws m.toNat) x.2.toNat M i r=true↔cB ws x ((r:Int),(i:Int))):=by
 have hxT:bV m x.2 x:=⟨hx.1,hx.2.1,hx.2.2,Int.le_refl _⟩;have low:∀i r:Nat,(i:Int)<=x.2->r<m.toNat->(M i r=true↔cB ws x ((r:Int),(i:Int))):=λi r hi hr=>(hM i r hi (by omega)).trans (Cw ok hx.2.2 hxT rfl hi);have high:∀k r:Nat,r<m.toNat->(bq m.toNat (bo ws m.toNat) (M x.2.toNat) k r=true↔cB ws x ((r:Int),((x.2.toNat+k:Nat):Int))):=by
  intro k;induction k with
  | zero=>exact λr hr=>low x.2.toNat r (by omega) hr
  | succ k ih=>
   intro r hr;show hV _ _ _ r=true↔_;rw[jI,show x.2.toNat+(k+1)=x.2.toNat+k+1 by omega,DS ok hx (by omega)];constructor
   ·rintro⟨i,hi,h1,h2⟩;exact⟨i,hi,(ih i hi).mp h1,h2⟩
   ·rintro⟨i,hi,h1,h2⟩;exact⟨i,hi,(ih i hi).mpr h1,h2⟩
 intro i r hr;unfold ft;by_cases hi:i<x.2.toNat
 ·rw[Hf hi];exact low i r (by omega) hr
 ·rw[He hi,high (i-x.2.toNat) r hr,show x.2.toNat+(i-x.2.toNat)=i by omega]
end
def vJ(K:F6):Sp:=λvs H Q _=>∃lq rs m F b N r,vs=[.ref lq,.int (b:Nat),.int (r:Nat)]/\Rows H lq rs m F/\rs.length=b+N/\1<=N/\b+N<=20000/\r<m/\bB (λi=>F i r) b N/\∀v (l d:Nat) H',Ext H H'->Least (λi=>F i r) d l->l<=b->d<=N->gr H' v l d (row (λi=>F i r) 0 l) (row (λi=>F i r) l d)->Q v H'
abbrev lX:Stmt:=stq 53
def yk:FnScope ["levels","base","room"] ["levels","base","room"] (aJ lX):=⟨rfl,rfl,rfl,by decide +kernel,rfl,by decide +kernel,by decide +kernel⟩
def DQ{P:Program}{w:World}{K:F6}{mg:Str->Option Value}{base:Heap}(D:Dfn K mg "stair_of_room" lX ["levels","base","room"])(T:Blt mg)(C_stair_of_marks:Cal P w K mg base "stair_of_marks" 2 ["marks","base"] (q0 K)):Cal P w K mg base "stair_of_room" 3 ["levels","base","room"] (vJ K):=by
 have nd:=(yk).nd;refine D.ok yk (λvs H Q E h=>?_) (λX hX H vs Q E h=>?_)
 ·obtain⟨lq,rs,m,F,b,N,r,rfl,_⟩:=h;rfl
 ·obtain⟨f,cdv,A,outer,s,H0,E0,rfl,hr⟩:=hX;obtain⟨lq,rs,m,F,b,N,r,rfl,rows,hrl,hN,hbN,hr',hper,q⟩:=h;refine⟨_,(aq (aI (aE C_stair_of_marks hr (aa (eC ["level"] [2] (cj K (pv 0)) (λ_=>(aR (i:=0) (show(["level","room"]:List Str).Nodup from by decide +kernel) rfl (Or.inl rfl) (Or.inr rfl))) (λ_=>fJ) (λ_=>(ah (aH K) (pv 0) (pv 1) (λ_ _=>rfl)))) (aa (pv 1) ae))))),?_⟩;walk_at"";refine cb (ag.of rows.1) ?_;refine iX (xs:=List.map V.ref rs) (λi ys H'=>H'=H/\ys=aQ i (λi=>F i r)) (GI (show(List.map V.ref rs).length<=20000 by rw[Ga];omega) (by decide)) ⟨rfl,rfl⟩ (λi ys H' _ h=>⟨by rw[h.1];exact ag.of rows.1,by rw[h.2,cD];exact Gw _⟩) ?_ ?_
  ·rintro i v ys H1 hx ⟨rfl,rfl⟩;rw[Gd]at hx;obtain⟨a,ha,rfl⟩:=Gn.mp hx;have hrow:=rows.2 i a ha;walk_at"";refine ay ?_;walk_at"";refine aG (ag.of hrow) (dD (by omega) (by omega)) ?_;rw[Gp];refine⟨rfl,?_⟩;rw[jJ]
  ·rintro ys H1 p9 ⟨hH,rfl⟩ hp9;subst hH;rw[Ga,hrl];have e1:=bO (o:=.lst (aQ (b+N) λi=>F i r)) hp9;have h9:(upd H1 p9 (.lst (aQ (b+N) λi=>F i r))) p9=_:=aO;generalize upd H1 p9 (.lst (aQ (b+N) λi=>F i r))=H2 at e1 h9 ⊢;walk_at"";exact⟨p9,b,N,_,rfl,hN,hbN,h9,hper,λv l d H3 e3 hL hl hd hst=>q v l d H3 (e1.trans e3) hL hl hd hst⟩
def Ez(H:Hp)(vs:List V)(m:Int)(ws:List Way)(x:Bfs.Pl):Prop:=(vs.length:Int)=m/\∀(r:Nat) (v:V),vs[r]?=some v->∃(F:Nat->Bool) (l d:Nat),gr H v l d (row F 0 l) (row F l d)/\Least F d l/\1<=d/\l+d<=5200/\∀i:Nat,F i=true↔cB ws x ((r:Int),(i:Int))
def lJ(K:F6):Sp:=λvs H Q E=>∃vh pa,vs=[vh,.ref pa]/\((di H vh/\Ref K H E)\/∃m ws x,aY H vh m ws/\HOuse m ws/\ao H pa x/\((¬okPl m x/\dj K H E "NoPlace")\/(okPl m x/\1000<x.2/\dj K H E "TooGreat") ∨
 (bx m x/\dJ K/\Tbs K H/\∀l xs H',Et H H'->Tbs K H'->H' l=some (.lst xs)->Ez H' xs m ws x->Q (.ref l) H')))
abbrev mn:Stmt:=stq 54
def rM:FnScope ["house","place","told"] ["house","place"] (aJ mn):=⟨rfl,rfl,rfl,by decide +kernel,rfl,by decide +kernel,by decide +kernel⟩
def zE{P:Program}{w:World}{K:F6}{mg:Str->Option Value}{base:Heap}(D:Dfn K mg "forward" mn ["house","place"])(T:Blt mg)(C_stair_of_room:Cal P w K mg base "stair_of_room" 3 ["levels","base","room"] (vJ K))(C_all_levels:Cal P w K mg base "all_levels" 9 ["house","place"] (sS K))(CX_refuse_bad_places:CalX P w K mg base "refuse_bad_places" 3 ["house","places"] (lF K))(CX_refuse_no_house:CalX P w K mg base "refuse_no_house" 6 ["thing"] (fC K)):CalX P w K mg base "forward" 10 ["house","place"] (lJ K):=by
 have nd:=(rM).nd;refine D.okX rM (λvs H Q E h=>?_) (λf cdv A outer s H vs Q E hr h=>?_)
 ·obtain⟨vh,pa,rfl,_⟩:=h;rfl
 ·obtain⟨vh,pa,rfl,h⟩:=h;refine⟨_,(ai (br (fK CX_refuse_no_house hr (aa (pv 0) ae)))
    (ai (br (fK CX_refuse_bad_places hr (aa (pv 0) (aa (aZ (aa (pv 1) ae)) ae))))
    (ai (aD (i:=2) nd rfl (Or.inr rfl) (aE C_all_levels hr (aa (pv 0) (aa (pv 1) ae))))
    (aq (qL (aI (eC ["room"] [2] (cq rfl T.range_ (aa (ah (aA K) (pv 0) af (λ_ _=>rfl)) ae)) (λ_=>(aR (i:=0) (show(["room","told"]:List Str).Nodup from by decide +kernel) rfl (Or.inl rfl) (Or.inr rfl))) (λ_=>fJ) (λ_=>(aE C_stair_of_room hr (aa (ah (aA K) (pv 1) af (λ_ _=>rfl)) (aa (ah (aA K) (pv 1) af (λ_ _=>rfl)) (aa (pv 0) ae)))))))))))),?_⟩
  walk_at"";rcases h with⟨hno,href⟩|⟨m,ws,x,hv,ok,hpx,h⟩
  ·exact refuses hno href
  have m1:=ok.m1;have m12:=ok.m12;refine accepts hv ok λH1 e1=>?_;obtain⟨hp0,hq0,hvr,hh,_⟩:=id (hv.ext e1);subst hvr;walk_at"";refine aw λpl H2 e2 hpl _=>?_;have e02:=e1.trans e2;walk_at"";refine⟨hp0,.ref hq0,m,pl,[pa],[x],rfl,e2 _ _ hh,hpl,.cons (e02 _ _ hpx) .nil,?_⟩;rcases h with⟨hb,hr⟩|⟨hb,hg,hr⟩|⟨ix,dis,htb,q⟩
  ·exact .inl ⟨⟨x,by simp,hb⟩,hr.ext e02⟩
  ·exact .inr (.inl ⟨λy hy=>by rw[Gm.mp hy];exact hb,⟨x,by simp,hg⟩,hr.ext e02⟩)
  refine .inr (.inr ⟨λy hy=>by rw[Gm.mp hy];exact ix,?_⟩);walk_at"";refine⟨.ref hp0,m,ws,pa,x,rfl,hv.ext e02,ok,e02 _ _ hpx,ix,dis,htb.ext e02,λp lq rs b N M H3 e3 tb3 hp rows hrl hN hbN hper hM=>?_⟩;have hiff:=zb ok.ok ⟨ix.1,ix.2.1,ix.2.2.1⟩ hM;generalize ft m.toNat (bo ws m.toNat) x.2.toNat M=F at rows hper hiff;have hh3:H3 hp0=some (.tup [.int m,.ref hq0]):=e3 _ _ (e2 _ _ hh) (λps z=>by cases z);walk_at"";refine aB (aj.of hh3) (v:=.int m) rfl ?_;walk_at"";refine cw (by omega) ?_;refine fz (λi ys H'=>Ext H3 H'/\ys.length=i/\∀(r:Nat) (v:V),ys[r]?=some v->∃(F:Nat->Bool) (l d:Nat),gr H' v l d (row F 0 l) (row F l d)/\Least F d l/\1<=d/\l+d<=5200/\∀i:Nat,F i=true↔cB ws x ((r:Int),(i:Int))) (bN (by omega)) ⟨Ext.rfl' _,rfl,λr v h=>by simp at h⟩ (λi ys H' _ h=>Nat.le_of_eq h.2.1) ?_ ?_
  ·rintro i ys H4 hi ⟨e4,hyl,hys⟩;rw[show (0:Int)+(i:Int)=((i:Nat):Int) by omega];have hp4:=e4 _ _ hp;walk_at"";refine ay ?_;walk_at"";refine aB (aj.of hp4) (v:=.ref lq) rfl ?_;walk_at"";refine aB (aj.of hp4) (v:=.int (b:Nat)) rfl ?_;walk_at"";refine⟨lq,rs,m.toNat,F,b,N,i,rfl,rows.ext e4,hrl,hN,by omega,hi,hper i hi,λv l d H5 e5 hL hl hd hst=>?_⟩;refine⟨e4.trans e5,by rw[Gu,hyl];rfl,λr v' hv'=>?_⟩;by_cases hrl2:r<ys.length
   ·rw[GC hrl2]at hv';obtain⟨F',l',d',a1,a2⟩:=hys r v' hv';exact⟨F',l',d',a1.ext e5,a2⟩
   ·rw[GA (by omega)]at hv';have hz:r-ys.length=0:=by have:=(Gj.mp hv').1;simp at this;omega
    rw[hz]at hv';cases hv';have hri:r=i:=by omega
    subst hri;exact⟨λj=>F j r,l,d,hst,hL,hL.pos,by omega,λj=>hiff j r hi⟩
  ·rintro ys H4 p9 ⟨e4,hyl,hys⟩ hp9;have e5:=bO (o:=.lst ys) hp9;have e35:=e4.trans e5;walk_at"";refine q p9 ys _ ((e02.et.trans e3).trans e35.et) (tb3.ext e35) aO ⟨by omega,λr v hv=>?_⟩;obtain⟨F',l',d',a1,a2⟩:=hys r v hv;exact⟨F',l',d',a1.ext e5,a2⟩
def oC(K:F6):Sp:=λvs H Q E=>∃vh pa,vs=[vh,.ref pa]/\((di H vh/\Ref K H E)\/∃m ws x,aY H vh m ws/\HOuse m ws/\ao H pa x/\((¬okPl m x/\dj K H E "NoPlace")\/(okPl m x/\1000<x.2/\dj K H E "TooGreat") ∨
 (bx m x/\dJ K/\Tbs K H/\∀l H',Et H H'->Tbs K H'->Q (.ref l) H')))
abbrev pA:Stmt:=stq 65
def uC:FnScope ["house","goal"] ["house","goal"] (aJ pA):=⟨rfl,rfl,rfl,by decide +kernel,rfl,by decide +kernel,by decide +kernel⟩
def Fy{P:Program}{w:World}{K:F6}{mg:Str->Option Value}{base:Heap}(D:Dfn K mg "backward" pA ["house","goal"])(T:Blt mg)(CX_forward:CalX P w K mg base "forward" 10 ["house","place"] (lJ K))(CX_turned_about:CalX P w K mg base "turned_about" 7 ["house"] (mP K)):CalX P w K mg base "backward" 11 ["house","goal"] (oC K):=by
 have nd:=(uC).nd;refine D.okX uC (λvs H Q E h=>?_) (λf cdv A outer s H vs Q E hr h=>?_)
 ·obtain⟨vh,pa,rfl,_⟩:=h;rfl
 ·obtain⟨vh,pa,rfl,h⟩:=h;refine⟨_,(aq (aI (fK CX_forward hr (aa (fK CX_turned_about hr (aa (pv 0) ae)) (aa (pv 1) ae))))),?_⟩;walk_at"";rcases h with h|⟨m,ws,x,hv,ok,hpx,h⟩
  ·exact⟨vh,rfl,.inl h⟩
  refine⟨vh,rfl,.inr ⟨m,ws,hv,ok,λu H1 e1 hu=>?_⟩⟩;walk_at"";refine⟨u,pa,rfl,.inr ⟨m,_,x,hu,ok.turn,e1 _ _ hpx,?_⟩⟩;rcases h with⟨h1,h2⟩|⟨h1,h2,h3⟩|⟨ix,dis,htb,q⟩
  ·exact .inl ⟨h1,h2.ext e1⟩
  ·exact .inr (.inl ⟨h1,h2,h3.ext e1⟩)
  ·exact .inr (.inr ⟨ix,dis,htb.ext e1,λl xs H2 e2 t2 _ _=>q l H2 (e1.et.trans e2) t2⟩)
def qz(K:F6):Sp:=λvs H Q E=>∃vh pa ga,vs=[vh,.ref pa,.ref ga]/\((di H vh/\Ref K H E)\/∃m ws x g,aY H vh m ws/\HOuse m ws/\ao H pa x/\ao H ga g/\(gN K m [x,g] H E\/(bx m x/\bx m g/\dJ K/\Tbs K H/\∀p H',Et H H'->Tbs K H'->Q (.ref p) H')))
abbrev mX:Stmt:=stq 63
def rE:FnScope ["house","place","goal","walk"] ["house","place","goal"] (aJ mX):=⟨rfl,rfl,rfl,by decide +kernel,rfl,by decide +kernel,by decide +kernel⟩
def Cq{P:Program}{w:World}{K:F6}{mg:Str->Option Value}{base:Heap}(D:Dfn K mg "answer" mX ["house","place","goal"])(T:Blt mg)(CX_forward:CalX P w K mg base "forward" 10 ["house","place"] (lJ K))(CX_shortest:CalX P w K mg base "shortest" 7 ["house","place","goal"] (n6 K)):CalX P w K mg base "answer" 11 ["house","place","goal"] (qz K):=by
 have nd:=(rE).nd;refine D.okX rE (λvs H Q E h=>?_) (λf cdv A outer s H vs Q E hr h=>?_)
 ·obtain⟨vh,pa,ga,rfl,_⟩:=h;rfl
 ·obtain⟨vh,pa,ga,rfl,h⟩:=h;refine⟨_,(ai (aD (i:=3) nd rfl (Or.inl rfl) (fK CX_shortest hr (aa (pv 0) (aa (pv 1) (aa (pv 2) ae)))))
    (ai (bM (aS vO (pv 3) dy (aP _)) (aq (aI (aT (aa aF (aa (fK CX_forward hr (aa (pv 0) (aa (pv 1) ae))) ae))))) bf)
    (aq (aI (aT (aa aF (aa (pv 3) ae))))))),?_⟩
  walk_at"";rcases h with h|⟨m,ws,x,g,hv,ok,hpx,hpg,h⟩
  ·exact⟨vh,pa,ga,rfl,.inl h⟩
  refine⟨vh,pa,ga,rfl,.inr ⟨m,ws,x,g,hv,ok,hpx,hpg,?_⟩⟩;rcases h with h|⟨ix,ig,dis,htb,q⟩
  ·exact .inl h
  refine .inr ⟨ix,ig,λH1 e1=>?_,λwl H1 e1=>?_⟩
  ·walk_at"";refine⟨rfl,?_⟩;refine rd_exb (ay ?_);walk_at"";refine⟨vh,pa,rfl,.inr ⟨m,ws,x,hv.ext e1,ok,e1 _ _ hpx,.inr (.inr ⟨ix,dis,htb.ext e1,λl xs H2 e2 t2 hl fw=>?_⟩)⟩⟩;walk_at"";refine aw λp H3 e3 hp _=>?_;exact q p H3 (e1.et.trans (e2.trans e3.et)) (t2.ext e3)
  ·walk_at"";refine⟨rfl,?_⟩;refine rd_exb (aC ?_);walk_at"";refine aw λp H3 e3 hp _=>?_;exact q p H3 (e1.trans e3).et (htb.ext (e1.trans e3))
def tm(K:F6):Sp:=λvs H Q _=>∃a ns v m ws k p,vs=[.ref a,v,.int k,.int p]/\ag K H a (List.map V.int ns)/\ns.length<=63/\aY H v m ws/\1<=m/\0<=k/\0<p ∧
 ∀f (as:List Addr) H',Ext H H'->H' f=some (.lst (as.map V.ref))->as.length=2->(∀b∈as,∃x,ao H' b x/\bx m x)->Q (.ref f) H'
abbrev nh:Stmt:=stq 76
def um:FnScope ["_law_script","_law_house_here","_law_k","_law_prime","_law_found","_law_j","_law_draws_here","_law_number"] ["_law_script","_law_house_here","_law_k","_law_prime"] (aJ nh):=⟨rfl,rfl,rfl,by decide +kernel,rfl,by decide +kernel,by decide +kernel⟩
def BC{P:Program}{w:World}{K:F6}{mg:Str->Option Value}{base:Heap}(D:Dfn K mg "_law_places" nh ["_law_script","_law_house_here","_law_k","_law_prime"])(T:Blt mg)(C__law_draws:Cal P w K mg base "_law_draws" 2 ["_law_cell_here","_law_widths","_law_prime"] (fO K))(C__law_cell:Cal P w K mg base "_law_cell" 1 ["_law_script","_law_k"] (kR K)):Cal P w K mg base "_law_places" 3 ["_law_script","_law_house_here","_law_k","_law_prime"] (tm K):=by
 have nd:=(um).nd;refine D.ok um (λvs H Q E h=>?_) (λX hX H vs Q E h=>?_)
 ·obtain⟨a,ns,v,m,ws,k,p,rfl,_⟩:=h;rfl
 ·obtain⟨f,cdv,A,outer,s,H0,E0,rfl,hr⟩:=hX;obtain⟨a,ns,v,m,ws,k,p,rfl,ha,hl,hv,m1,hk,hp,q⟩:=h;obtain⟨hh,t,rfl,k1,k2⟩:=id hv;refine⟨_,(@ai _ _ _ _ _ (@aD _ _ 4 _ _ _ _ nd rfl (Or.inl rfl) (@aZ _ _ _ _ ae) rfl (Or.inl rfl))
    (@ai _ _ _ _ _ (bD PassesOwn.never rfl (cq rfl T.range_ (@aa _ _ _ _ _ af ae rfl)) (aR (i:=5) nd rfl (Or.inl rfl)) (@ai _ _ _ _ _ (@aD _ _ 6 _ _ _ _ nd rfl (Or.inl rfl) (aE C__law_draws hr (@aa _ _ _ _ _ (aE C__law_cell hr (@aa _ _ _ _ _ (pv 0) (@aa _ _ _ _ _ (av aU (pv 2) (pv 5)) ae rfl) rfl)) (@aa _ _ _ _ _ (@aZ _ _ _ _ (iC (.c (.c (.c (.c (.c .n))))))) (@aa _ _ _ _ _ (pv 3) ae rfl) rfl) rfl)) rfl (Or.inl rfl))
    (@ai _ _ _ _ _ (@aD _ _ 7 _ _ _ _ nd rfl (Or.inl rfl) (@ah _ _ _ _ _ _ _ (aH K) (pv 6) af (λ_ _=>rfl)) rfl (Or.inl rfl))
    (@ai _ _ _ _ _ (cV (PW.pt (ir (aS b6 (@ah _ _ _ _ _ _ _ (aH K) (pv 6) af (λ_ _=>rfl)) af (aP _)) (ji (aS gL (@ah _ _ _ _ _ _ _ (aA K) (pv 1) af (λ_ _=>rfl)) af (aP _))))) (@aq _ _ _ (@aD _ _ 7 _ _ _ _ nd rfl (Or.inl rfl) (@ah _ _ _ _ _ _ _ (aH K) (pv 6) af (λ_ _=>rfl)) rfl (Or.inl rfl))) bf)
    (@ai _ _ _ _ _ (cV (aS b6 (@ah _ _ _ _ _ _ _ (aH K) (pv 6) af (λ_ _=>rfl)) af (aP _)) (@aq _ _ _ (@aD _ _ 7 _ _ _ _ nd rfl (Or.inl rfl) (av cn (@ah _ _ _ _ _ _ _ (aH K) (pv 6) af (λ_ _=>rfl)) (@ah _ _ _ _ _ _ _ (aH K) (@aZ _ _ _ _ (@aa _ _ _ _ _ af (@aa _ _ _ _ _ af ae rfl) rfl)) (gH Es rfl T.int_ PyProof.Rows.boot_int (@aa _ _ _ _ _ (fb iN (@ah _ _ _ _ _ _ _ (aA K) (pv 1) af (λ_ _=>rfl)) af (aP _)) ae rfl)) (λ_ _=>rfl))) rfl (Or.inl rfl))) bf)
    (@aq _ _ _ (br (bG K Gi Gx Gy bT (pv 4) (@aa _ _ _ _ _ (@aT _ _ _ _ _ (@aa _ _ _ _ _ (av cn (@ah _ _ _ _ _ _ _ (aH K) (pv 6) af (λ_ _=>rfl)) (@ah _ _ _ _ _ _ _ (aA K) (pv 1) af (λ_ _=>rfl))) (@aa _ _ _ _ _ (pv 7) ae rfl) rfl)) ae rfl)))))))))
    (@aq _ _ _ (@aI _ _ _ _ (pv 4))))),?_⟩
  walk_at"";refine aw λf H1 e1 hf hfn=>?_;walk_at""
  try refine cw (by decide) ?_
  refine forR (λi σ H'=>∃c1 c2 c3 as,σ=[some (.ref a),some (.ref hh),some (.int k),some (.int p),some (.ref f),c1,c2,c3]/\Ext H H'/\H' f=some (.lst (List.map V.ref as))/\as.length=i/\∀b∈as,∃x,ao H' b x/\bx m x) ⟨_,_,_,[],rfl,e1,hf,rfl,λb h=>(nomatch h)⟩ ?_ ?_
  ·rintro i σ H2 hi ⟨c1,c2,c3,as,rfl,e2,hf2,has,hall⟩;walk_at"";refine⟨a,ns,k+(0+(i:Int)),rfl,ha.ext e2,hl,by omega,λz=>?_⟩;walk_at"";refine aw λw0 H3 e3 hw0 _=>?_;walk_at"";refine⟨z,w0,[12,8,13,201,1001],p,rfl,hw0,by decide,by decide,hp,λdq ds H4 e4 hd hdn hdl hb=>?_⟩;have e24:=e3.trans e4;have e04:=e2.trans e24;have hf4:=e24 _ _ hf2;have hall4:∀b∈as,∃x,ao H4 b x/\bx m x:=λb hb=>by obtain⟨x,h1,h2⟩:=hall b hb;exact⟨x,e24 _ _ h1,h2⟩
   obtain⟨d0,g0,_⟩:=b9 hdl hb 0 rfl;obtain⟨d1,g1,_⟩:=b9 hdl hb 1 rfl;obtain⟨d2,g2,b20,b21⟩:=b9 hdl hb 2 rfl;obtain⟨d3,g3,b30,b31⟩:=b9 hdl hb 3 rfl;obtain⟨d4,g4,b40,b41⟩:=b9 hdl hb 4 rfl;have k14:=e04 _ _ k1;clear e24 e3 e4 hw0 hf2 hall e2 hb hdl hdn;walk_at"";refine aG (ag.of hd) g2 ?_;walk_at"";refine gG (λσ H'=>∃nb,σ=[some (.ref a),some (.ref hh),some (.int k),some (.int p),some (.ref f),some (.int (0+(i:Int))),some (.ref dq),some (.int nb)]/\0<=nb/\nb<=1000/\H'=H4) ?_ ?_
   ·walk_at"";refine aG (ag.of hd) g1 ?_;walk_at"";by_cases h7:d1=7
    ·rw[Hd h7];refine ay ?_;walk_at"";refine aB (aj.of k14) (v:=.int m) rfl ?_;walk_at"";by_cases h5:m<5
     ·rw[Hd h5];refine ay ?_;walk_at"";refine aG (ag.of hd) g4 ?_;walk_at"";exact⟨d4,rfl,b40,by omega,rfl⟩
     ·rw[Hc h5];refine aC ?_;walk_at"";exact⟨d2,rfl,b20,by omega,rfl⟩
    ·rw[Hc h7];refine aC ?_;walk_at"";exact⟨d2,rfl,b20,by omega,rfl⟩
   ·rintro σ H5 ⟨nb,rfl,n0,n1,rfl⟩;walk_at"";refine gG (λσ H'=>∃nb,σ=[some (.ref a),some (.ref hh),some (.int k),some (.int p),some (.ref f),some (.int (0+(i:Int))),some (.ref dq),some (.int nb)]/\0<=nb/\nb<=1000/\Ext H5 H') ?_ ?_
    ·walk_at"";refine aG (ag.of hd) g1 ?_;walk_at"";by_cases h6:d1=6
     ·rw[Hd h6];refine ay ?_;walk_at"";refine aG (ag.of hd) g3 ?_;walk_at"";refine aw λw1 H6 e6 hw1 _=>?_;walk_at"";refine aB (aj.of (e6 _ _ k14)) (v:=.int m) rfl ?_;walk_at"";by_cases h5:5<m
      ·rw[Hd h5,Hf rfl];refine aG (ag.of hw1) (v:=.int 40) rfl ?_
       try refine rd_I (show(0:Int)<40 by decide) ?_
       walk_at"";exact⟨d3 % 40,rfl,Int.emod_nonneg _ (by decide),by have:=Int.emod_lt_of_pos d3 (show(0:Int)<40 by decide);omega,e6⟩
      ·rw[Hc h5,He Gr];refine aG (ag.of hw1) (v:=.int 201) rfl ?_
       try refine rd_I (show(0:Int)<201 by decide) ?_
       walk_at"";exact⟨d3 % 201,rfl,Int.emod_nonneg _ (by decide),by have:=Int.emod_lt_of_pos d3 (show(0:Int)<201 by decide);omega,e6⟩
     ·rw[Hc h6];refine aC ?_;walk_at"";exact⟨nb,rfl,n0,n1,Ext.rfl' _⟩
    ·rintro σ H6 ⟨nb,rfl,n0,n1,e6⟩;have hf6:=e6 _ _ hf4;walk_at"";refine⟨bZ (ag.of hf6),?_⟩;walk_at"";refine aG (ag.of (e6 _ _ hd)) g0 ?_;walk_at"";refine aB (aj.of (e6 _ _ k14)) (v:=.int m) rfl ?_
     try refine rd_I (show(0:Int)<m by omega) ?_
     walk_at"";refine aw λpa H7 e7 hpa _=>?_;have hf7:=e7 _ _ hf6;walk_at"";refine bR hf7 (gI (by rw[Ga];omega)) ?_;walk_at"";refine⟨_,_,_,as++[pa],rfl,cG (e04.trans (e6.trans e7)) hfn,by rw[aO,Gs];rfl,by rw[Gu,has];rfl,λb hb=>?_⟩;rcases Gz.mp hb with w1|w1
     ·obtain⟨x,h1,h2⟩:=hall4 b w1;have h7:ao H7 b x:=(e6.trans e7) _ _ h1;refine⟨x,?_,h2⟩;show upd _ _ _ _=_;rw[az (cK h7 hf7 (by intro z;cases z))];exact h7
     ·rw[Gm.mp w1];refine⟨(d0 % m,nb),?_,Int.emod_nonneg _ (by omega),Int.emod_lt_of_pos _ (by omega),n0,n1⟩;show upd _ _ _ _=_;rw[az (cK hpa hf7 (by intro z;cases z))];exact hpa
  ·rintro σ H2 ⟨c1,c2,c3,as,rfl,e2,hf2,has,hall⟩;walk_at"";exact q f as H2 e2 hf2 has hall
local macro_rules|`(tactic| walk_at "ra") => do
 let ts ← ("seq asg c name".splitOn " ").toArray.mapM λn =>
  let i := Lean.mkIdent (.mkSimple ("rd_" ++ n))
  `(tacticSeq| with_reducible refine $i ?_)
 `(tactic| repeat (first $[| $ts]*|dsimp only))
def FJ(K:F6)(Dx:Addr)(z:Str):Prop:=(Dx=cA K "NoHouse"/\z=GP "house")\/(Dx=cA K "NoPlace"/\z=GP "place")\/(Dx=cA K "TooGreat"/\z=GP "great")
def jE(m:Int)(xs:List Bfs.Pl)(z:Str):Prop:=((∃x∈xs,¬okPl m x)/\z=GP "place")\/((∀x∈xs,okPl m x)/\(∃x∈xs,1000<x.2)/\z=GP "great")
def kg(H:Hp)(u:V)(g:Addr)(xs:List Bfs.Pl):Prop:=(u=.non/\∃y,ao H g y/\xs=[y])\/∃p x y,u=.ref p/\ao H p x/\ao H g y/\xs=[x,y]
def Eo(H:Hp)(v u:V)(g:Addr)(z:Str):Prop:=∃m ws xs,aY H v m ws/\HOuse m ws/\kg H u g xs/\(jE m xs z\/((∀x∈xs,bx m x)/\z=GP "told"))
def kT(K:F6):Sp:=λvs H Q _=>∃v u g z,vs=[v,u,.ref g]/\(u=.non\/∃p,u=.ref p)/\((di H v/\z=GP "house"/\∀H',Ext H H'->Q (.str z) H')\/(Eo H v u g z/\dJ K/\Tbs K H/\∀H',Et H H'->Tbs K H'->Q (.str z) H'))
abbrev ou:Stmt:=stq 77
def sx:FnScope ["_law_house_here","_law_place","_law_goal","_law_kind","_law_clean","e","_law_found","_law_others"] ["_law_house_here","_law_place","_law_goal"] (aJ ou):=⟨rfl,rfl,rfl,by decide +kernel,rfl,by decide +kernel,by decide +kernel⟩
def EL{P:Program}{w:World}{K:F6}{mg:Str->Option Value}{base:Heap}(D:Dfn K mg "_law_asked" ou ["_law_house_here","_law_place","_law_goal"])(T:Blt mg)(XF:Xf K mg base jz jA)(CX_backward:CalX P w K mg base "backward" 11 ["house","goal"] (oC K))(CX_answer:CalX P w K mg base "answer" 11 ["house","place","goal"] (qz K)):Cal P w K mg base "_law_asked" 12 ["_law_house_here","_law_place","_law_goal"] (kT K):=by
 have nd:=(sx).nd;refine D.ok sx (λvs H Q E h=>?_) (λX hX H vs Q E h=>?_)
 ·obtain⟨v,u,g,z,rfl,_⟩:=h;rfl
 ·obtain⟨f,cdv,A,outer,s,H0,E0,rfl,hr⟩:=hX;obtain⟨v,u,g,z,rfl,hu,hask⟩:=h;refine⟨_,(@ai _ _ _ _ _ (@aD _ _ 3 _ _ _ _ nd rfl (Or.inl rfl) aF rfl (Or.inl rfl))
    (@ai _ _ _ _ _ (@aD _ _ 4 _ _ _ _ nd rfl (Or.inl rfl) bL rfl (Or.inl rfl))
    (@ai _ _ _ _ _ (zf (i:=5) rfl rfl nd rfl rfl rfl (XF.cl "StairError" (by decide +kernel)) rfl (by decide) (pW (DW (aS vO (pv 1) dy (aP _)) (pW (yq CX_backward hr (@aa _ _ _ _ _ (pv 0) (@aa _ _ _ _ _ (pv 2) ae rfl) rfl)) m6) (pW (yq CX_answer hr (@aa _ _ _ _ _ (pv 0) (@aa _ _ _ _ _ (pv 1) (@aa _ _ _ _ _ (pv 2) ae rfl) rfl) rfl)) m6)) m6) (λx oe Dx da hK hc hal hdd=>(@ai _ _ _ _ _ (@aD _ _ 6 _ _ _ _ nd rfl (Or.inl rfl) (@aZ _ _ _ _ (@aa _ _ _ _ _ (bt (iq hK hc) rfl T.isinstance_ PyProof.Rows.boot_isinstance (@aa _ _ _ _ _ (pv 5) (@aa _ _ _ _ _ (cY (v:=.ref (cA K "NoHouse")) rfl (XF.cl "NoHouse" (by decide +kernel)) rfl) ae rfl) rfl)) (@aa _ _ _ _ _ (bt (iq hK hc) rfl T.isinstance_ PyProof.Rows.boot_isinstance (@aa _ _ _ _ _ (pv 5) (@aa _ _ _ _ _ (cY (v:=.ref (cA K "NoPlace")) rfl (XF.cl "NoPlace" (by decide +kernel)) rfl) ae rfl) rfl)) (@aa _ _ _ _ _ (bt (iq hK hc) rfl T.isinstance_ PyProof.Rows.boot_isinstance (@aa _ _ _ _ _ (pv 5) (@aa _ _ _ _ _ (cY (v:=.ref (cA K "TooGreat")) rfl (XF.cl "TooGreat" (by decide +kernel)) rfl) ae rfl) rfl)) ae rfl) rfl) rfl)) rfl (Or.inl rfl))
    (@ai _ _ _ _ _ (@aD _ _ 7 _ _ _ _ nd rfl (Or.inl rfl) (@aZ _ _ _ _ (@aa _ _ _ _ _ (bt (iq hK hc) rfl T.isinstance_ PyProof.Rows.boot_isinstance (@aa _ _ _ _ _ (pv 5) (@aa _ _ _ _ _ (@aT _ _ _ _ _ (@aa _ _ _ _ _ (cY (v:=.ref (cA K "Endless")) rfl (XF.cl "Endless" (by decide +kernel)) rfl) (@aa _ _ _ _ _ (cY (v:=.ref (cA K "NoStair")) rfl (XF.cl "NoStair" (by decide +kernel)) rfl) (@aa _ _ _ _ _ (cY (v:=.ref (cA K "NoText")) rfl (XF.cl "NoText" (by decide +kernel)) rfl) (@aa _ _ _ _ _ (cY (v:=.ref (cA K "NoLine")) rfl (XF.cl "NoLine" (by decide +kernel)) rfl) ae rfl) rfl) rfl) rfl)) ae rfl) rfl)) (@aa _ _ _ _ _ (bt (iq hK hc) rfl T.isinstance_ PyProof.Rows.boot_isinstance (@aa _ _ _ _ _ (pv 5) (@aa _ _ _ _ _ (@aT _ _ _ _ _ (@aa _ _ _ _ _ (cY (v:=.ref (cA K "NoWalk")) rfl (XF.cl "NoWalk" (by decide +kernel)) rfl) (@aa _ _ _ _ _ (cY (v:=.ref (cA K "NoWay")) rfl (XF.cl "NoWay" (by decide +kernel)) rfl) (@aa _ _ _ _ _ (cY (v:=.ref (cA K "NotBare")) rfl (XF.cl "NotBare" (by decide +kernel)) rfl) (@aa _ _ _ _ _ (cY (v:=.ref (cA K "NoDeed")) rfl (XF.cl "NoDeed" (by decide +kernel)) rfl) ae rfl) rfl) rfl) rfl)) ae rfl) rfl)) ae rfl) rfl)) rfl (Or.inl rfl))
    (@ai _ _ _ _ _ (@aD _ _ 4 _ _ _ _ nd rfl (Or.inl rfl) (dI (bt (iq hK hc) rfl T.isinstance_ PyProof.Rows.boot_isinstance (@aa _ _ _ _ _ (pv 5) (@aa _ _ _ _ _ (fM (v:=.ty "ValueError") rfl T.ValueError_ PyProof.Rows.Boot.«ValueError» rfl) ae rfl) rfl)) (dI (fb b6 (bG K Gi PySem.F.slot_list_count PySem.F.type_list_count (DI K) (pv 6) (@aa _ _ _ _ _ bL ae rfl)) af (aP _)) (eO (xE (bt (EG hal) rfl T.any_ PyProof.Rows.boot_any (@aa _ _ _ _ _ (pv 7) ae rfl)))))) rfl (Or.inl rfl))
    (@ai _ _ _ _ _ (@aD _ _ 3 _ _ _ _ nd rfl (Or.inl rfl) aF rfl (Or.inl rfl))
    (@aq _ _ _ (cV (cC (pv 4)) (@aq _ _ _ (@aD _ _ 3 _ _ _ _ nd rfl (Or.inl rfl) (@ah _ _ _ _ _ _ _ (aH K) (@aZ _ _ _ _ (@aa _ _ _ _ _ aF (@aa _ _ _ _ _ aF (@aa _ _ _ _ _ aF ae rfl) rfl) rfl)) (bG K Gi PySem.F.slot_list_index PySem.F.type_list_index (Ar K) (pv 6) (@aa _ _ _ _ _ bL ae rfl)) (λ_ _=>rfl)) rfl (Or.inl rfl))) bf))))))))
    (@aq _ _ _ (@aI _ _ _ _ (pv 3)))))),?_⟩
  walk_at "ra";refine CO (λDx σ1 H1=>FJ K Dx z/\σ1=[some v,some u,some (.ref g),some (.str (GP "told")),some (.bl true),none,none,none]/\∀H',Ext H1 H'->Q (.str z) H') (λE9 hE=>?_) ?_
  ·rcases hask with⟨h1,hz,q⟩|⟨⟨m,ws,xs,h1,h2,h3,h4⟩,dis,htb,q⟩
   ·have no:Ref K H (E9 [some v,some u,some (.ref g),some (.str (GP "told")),some (.bl true),none,none,none]):=λH' e'=>hE _ _ _ ⟨.inl ⟨rfl,hz⟩,rfl,λH2 e2=>q H2 (e'.trans e2)⟩;rcases hu with rfl|⟨p,rfl⟩
    ·walk_at"";refine⟨rfl,?_⟩;refine rd_exb (ay ?_);walk_at"";exact⟨v,g,rfl,.inl ⟨h1,no⟩⟩
    ·walk_at"";refine⟨rfl,?_⟩;refine rd_exb (aC ?_);walk_at"";exact⟨v,p,g,rfl,.inl ⟨h1,no⟩⟩
   ·have pl:z=GP "place"->dj K H (E9 [some v,some u,some (.ref g),some (.str (GP "told")),some (.bl true),none,none,none]) "NoPlace":=λhz H' e'=>hE _ _ _ ⟨.inr (.inl ⟨rfl,hz⟩),rfl,λH2 e2=>q H2 (e'.trans e2).et (htb.ext (e'.trans e2))⟩;have gt:z=GP "great"->dj K H (E9 [some v,some u,some (.ref g),some (.str (GP "told")),some (.bl true),none,none,none]) "TooGreat":=λhz H' e'=>hE _ _ _ ⟨.inr (.inr ⟨rfl,hz⟩),rfl,λH2 e2=>q H2 (e'.trans e2).et (htb.ext (e'.trans e2))⟩;rcases h3 with⟨rfl,y,hy,rfl⟩|⟨p,x,y,rfl,hx,hy,rfl⟩
    ·walk_at"";refine⟨rfl,?_⟩;refine rd_exb (ay ?_);walk_at"";refine⟨v,g,rfl,.inr ⟨m,ws,y,h1,h2,hy,?_⟩⟩;rcases h4 with(⟨⟨x,hx,hb⟩,hz⟩|⟨hb,⟨x,hx,hg⟩,hz⟩)|⟨hin,hz⟩
     ·rw[Gm.mp hx]at hb;exact .inl ⟨hb,pl hz⟩
     ·rw[Gm.mp hx]at hg;exact .inr (.inl ⟨hb y (by simp),hg,gt hz⟩)
     ·refine .inr (.inr ⟨hin y (by simp),dis,htb,λl H' e' t'=>?_⟩);walk_at"";rw[←hz];exact q H' e' t'
    ·walk_at"";refine⟨rfl,?_⟩;refine rd_exb (aC ?_);walk_at"";refine⟨v,p,g,rfl,.inr ⟨m,ws,x,y,h1,h2,hx,hy,?_⟩⟩;rcases h4 with(⟨hb,hz⟩|⟨hb,hg,hz⟩)|⟨hin,hz⟩
     ·exact .inl (.inl ⟨hb,pl hz⟩)
     ·exact .inl (.inr ⟨hb,hg,gt hz⟩)
     ·refine .inr ⟨hin x (by simp),hin y (by simp),dis,htb,λl H' e' t'=>?_⟩;walk_at"";rw[←hz];exact q H' e' t'
  ·rintro σ1 Dx H1 ⟨hd,rfl,q⟩;rcases hd with⟨rfl,rfl⟩|⟨rfl,rfl⟩|⟨rfl,rfl⟩
   ·refine⟨XF.up "NoHouse" (by decide +kernel),XF.exk "NoHouse" (by decide +kernel),λx hx=>?_⟩;walk_at"";refine fG (b:=true) ((XF.kc "NoHouse" (by decide +kernel) "NoHouse" (by decide +kernel)).trans (by decide +kernel)) ?_;walk_at"";refine fG (b:=false) ((XF.kc "NoHouse" (by decide +kernel) "NoPlace" (by decide +kernel)).trans (by decide +kernel)) ?_;walk_at"";refine fG (b:=false) ((XF.kc "NoHouse" (by decide +kernel) "TooGreat" (by decide +kernel)).trans (by decide +kernel)) ?_;walk_at"";refine aw λl2 H2 e2 k2 _=>?_;walk_at"";refine aw λta H3 e3 k3 _=>?_;walk_at"";refine il (Cs:=(["Endless","NoStair","NoText","NoLine"]:List Str).map (cA K)) k3 (gm λC hC=>?_) ?_
    ·obtain⟨z,hz,rfl⟩:=List.mem_map.mp hC;simp only[Gq,GJ,or_false]at hz;rcases hz with rfl|rfl|rfl|rfl
     ·exact(XF.kc "NoHouse" (by decide +kernel) "Endless" (by decide +kernel)).trans (by decide +kernel)
     ·exact(XF.kc "NoHouse" (by decide +kernel) "NoStair" (by decide +kernel)).trans (by decide +kernel)
     ·exact(XF.kc "NoHouse" (by decide +kernel) "NoText" (by decide +kernel)).trans (by decide +kernel)
     ·exact(XF.kc "NoHouse" (by decide +kernel) "NoLine" (by decide +kernel)).trans (by decide +kernel)
    walk_at"";refine aw λtb H4 e4 k4 _=>?_;walk_at"";refine il (Cs:=(["NoWalk","NoWay","NotBare","NoDeed"]:List Str).map (cA K)) k4 (gm λC hC=>?_) ?_
    ·obtain⟨z,hz,rfl⟩:=List.mem_map.mp hC;simp only[Gq,GJ,or_false]at hz;rcases hz with rfl|rfl|rfl|rfl
     ·exact(XF.kc "NoHouse" (by decide +kernel) "NoWalk" (by decide +kernel)).trans (by decide +kernel)
     ·exact(XF.kc "NoHouse" (by decide +kernel) "NoWay" (by decide +kernel)).trans (by decide +kernel)
     ·exact(XF.kc "NoHouse" (by decide +kernel) "NotBare" (by decide +kernel)).trans (by decide +kernel)
     ·exact(XF.kc "NoHouse" (by decide +kernel) "NoDeed" (by decide +kernel)).trans (by decide +kernel)
    walk_at"";refine aw λl5 H5 e5 k5 _=>?_;have k5:H5 l5=some (.lst (List.map V.bl [false,false])):=k5;have k2:H2 l2=some (.lst (List.map V.bl [true,false,false])):=k2;have k25:=e5 _ _ (e4 _ _ (e3 _ _ k2));have e15:Ext H1 H5:=e2.trans (e3.trans (e4.trans e5));clear e2 e3 e4 e5 k2 k3 k4;walk_at"";refine pw (XF.kv "NoHouse" (by decide +kernel)) ?_;walk_at""
    first|refine ay ?_|refine rd_exb (ay ?_)
    walk_at"";refine⟨bZ (ag.of k25),?_⟩;walk_at"";refine⟨l2,_,true,rfl,rfl,ag.of k25,?_⟩;rw[show List.countP (· == true) [true,false,false]=1 from rfl];walk_at""
    first|refine ay ?_|refine rd_exb (ay ?_)
    walk_at"";refine⟨l5,[false,false],rfl,ag.of k5,?_⟩;walk_at"";refine fj ?_;walk_at""
    first|refine ay ?_|refine rd_exb (ay ?_)
    walk_at"";refine aw λl7 H7 e7 k7 _=>?_;walk_at"";refine⟨bZ (ag.of (e7 _ _ k25)),?_⟩;walk_at"";have hno:∀m b,m<0->([true,false,false]:List Bool)[m]?=some b->b≠true:=λm b hm hb=>by omega
    refine⟨l2,_,true,0,rfl,rfl,ag.of (e7 _ _ k25),rfl,hno,by decide,?_⟩;refine aG (ag.of k7) (v:=.str (GP "house")) rfl ?_;walk_at"";exact q H7 (e15.trans e7)
   ·refine⟨XF.up "NoPlace" (by decide +kernel),XF.exk "NoPlace" (by decide +kernel),λx hx=>?_⟩;walk_at"";refine fG (b:=false) ((XF.kc "NoPlace" (by decide +kernel) "NoHouse" (by decide +kernel)).trans (by decide +kernel)) ?_;walk_at"";refine fG (b:=true) ((XF.kc "NoPlace" (by decide +kernel) "NoPlace" (by decide +kernel)).trans (by decide +kernel)) ?_;walk_at"";refine fG (b:=false) ((XF.kc "NoPlace" (by decide +kernel) "TooGreat" (by decide +kernel)).trans (by decide +kernel)) ?_;walk_at"";refine aw λl2 H2 e2 k2 _=>?_;walk_at"";refine aw λta H3 e3 k3 _=>?_;walk_at"";refine il (Cs:=(["Endless","NoStair","NoText","NoLine"]:List Str).map (cA K)) k3 (gm λC hC=>?_) ?_
    ·obtain⟨z,hz,rfl⟩:=List.mem_map.mp hC;simp only[Gq,GJ,or_false]at hz;rcases hz with rfl|rfl|rfl|rfl
     ·exact(XF.kc "NoPlace" (by decide +kernel) "Endless" (by decide +kernel)).trans (by decide +kernel)
     ·exact(XF.kc "NoPlace" (by decide +kernel) "NoStair" (by decide +kernel)).trans (by decide +kernel)
     ·exact(XF.kc "NoPlace" (by decide +kernel) "NoText" (by decide +kernel)).trans (by decide +kernel)
     ·exact(XF.kc "NoPlace" (by decide +kernel) "NoLine" (by decide +kernel)).trans (by decide +kernel)
    walk_at"";refine aw λtb H4 e4 k4 _=>?_;walk_at"";refine il (Cs:=(["NoWalk","NoWay","NotBare","NoDeed"]:List Str).map (cA K)) k4 (gm λC hC=>?_) ?_
    ·obtain⟨z,hz,rfl⟩:=List.mem_map.mp hC;simp only[Gq,GJ,or_false]at hz;rcases hz with rfl|rfl|rfl|rfl
     ·exact(XF.kc "NoPlace" (by decide +kernel) "NoWalk" (by decide +kernel)).trans (by decide +kernel)
     ·exact(XF.kc "NoPlace" (by decide +kernel) "NoWay" (by decide +kernel)).trans (by decide +kernel)
     ·exact(XF.kc "NoPlace" (by decide +kernel) "NotBare" (by decide +kernel)).trans (by decide +kernel)
     ·exact(XF.kc "NoPlace" (by decide +kernel) "NoDeed" (by decide +kernel)).trans (by decide +kernel)
    walk_at"";refine aw λl5 H5 e5 k5 _=>?_;have k5:H5 l5=some (.lst (List.map V.bl [false,false])):=k5;have k2:H2 l2=some (.lst (List.map V.bl [false,true,false])):=k2;have k25:=e5 _ _ (e4 _ _ (e3 _ _ k2));have e15:Ext H1 H5:=e2.trans (e3.trans (e4.trans e5));clear e2 e3 e4 e5 k2 k3 k4;walk_at"";refine pw (XF.kv "NoPlace" (by decide +kernel)) ?_;walk_at""
    first|refine ay ?_|refine rd_exb (ay ?_)
    walk_at"";refine⟨bZ (ag.of k25),?_⟩;walk_at"";refine⟨l2,_,true,rfl,rfl,ag.of k25,?_⟩;rw[show List.countP (· == true) [false,true,false]=1 from rfl];walk_at""
    first|refine ay ?_|refine rd_exb (ay ?_)
    walk_at"";refine⟨l5,[false,false],rfl,ag.of k5,?_⟩;walk_at"";refine fj ?_;walk_at""
    first|refine ay ?_|refine rd_exb (ay ?_)
    walk_at"";refine aw λl7 H7 e7 k7 _=>?_;walk_at"";refine⟨bZ (ag.of (e7 _ _ k25)),?_⟩;walk_at"";have hno:∀m b,m<1->([false,true,false]:List Bool)[m]?=some b->b≠true:=λm b hm hb=>by
     have:m=0:=by omega
     subst this;cases hb;exact Gr
    refine⟨l2,_,true,1,rfl,rfl,ag.of (e7 _ _ k25),rfl,hno,by decide,?_⟩;refine aG (ag.of k7) (v:=.str (GP "place")) rfl ?_;walk_at"";exact q H7 (e15.trans e7)
   ·refine⟨XF.up "TooGreat" (by decide +kernel),XF.exk "TooGreat" (by decide +kernel),λx hx=>?_⟩;walk_at"";refine fG (b:=false) ((XF.kc "TooGreat" (by decide +kernel) "NoHouse" (by decide +kernel)).trans (by decide +kernel)) ?_;walk_at"";refine fG (b:=false) ((XF.kc "TooGreat" (by decide +kernel) "NoPlace" (by decide +kernel)).trans (by decide +kernel)) ?_;walk_at"";refine fG (b:=true) ((XF.kc "TooGreat" (by decide +kernel) "TooGreat" (by decide +kernel)).trans (by decide +kernel)) ?_;walk_at"";refine aw λl2 H2 e2 k2 _=>?_;walk_at"";refine aw λta H3 e3 k3 _=>?_;walk_at"";refine il (Cs:=(["Endless","NoStair","NoText","NoLine"]:List Str).map (cA K)) k3 (gm λC hC=>?_) ?_
    ·obtain⟨z,hz,rfl⟩:=List.mem_map.mp hC;simp only[Gq,GJ,or_false]at hz;rcases hz with rfl|rfl|rfl|rfl
     ·exact(XF.kc "TooGreat" (by decide +kernel) "Endless" (by decide +kernel)).trans (by decide +kernel)
     ·exact(XF.kc "TooGreat" (by decide +kernel) "NoStair" (by decide +kernel)).trans (by decide +kernel)
     ·exact(XF.kc "TooGreat" (by decide +kernel) "NoText" (by decide +kernel)).trans (by decide +kernel)
     ·exact(XF.kc "TooGreat" (by decide +kernel) "NoLine" (by decide +kernel)).trans (by decide +kernel)
    walk_at"";refine aw λtb H4 e4 k4 _=>?_;walk_at"";refine il (Cs:=(["NoWalk","NoWay","NotBare","NoDeed"]:List Str).map (cA K)) k4 (gm λC hC=>?_) ?_
    ·obtain⟨z,hz,rfl⟩:=List.mem_map.mp hC;simp only[Gq,GJ,or_false]at hz;rcases hz with rfl|rfl|rfl|rfl
     ·exact(XF.kc "TooGreat" (by decide +kernel) "NoWalk" (by decide +kernel)).trans (by decide +kernel)
     ·exact(XF.kc "TooGreat" (by decide +kernel) "NoWay" (by decide +kernel)).trans (by decide +kernel)
     ·exact(XF.kc "TooGreat" (by decide +kernel) "NotBare" (by decide +kernel)).trans (by decide +kernel)
     ·exact(XF.kc "TooGreat" (by decide +kernel) "NoDeed" (by decide +kernel)).trans (by decide +kernel)
    walk_at"";refine aw λl5 H5 e5 k5 _=>?_;have k5:H5 l5=some (.lst (List.map V.bl [false,false])):=k5;have k2:H2 l2=some (.lst (List.map V.bl [false,false,true])):=k2;have k25:=e5 _ _ (e4 _ _ (e3 _ _ k2));have e15:Ext H1 H5:=e2.trans (e3.trans (e4.trans e5));clear e2 e3 e4 e5 k2 k3 k4;walk_at"";refine pw (XF.kv "TooGreat" (by decide +kernel)) ?_;walk_at""
    first|refine ay ?_|refine rd_exb (ay ?_)
    walk_at"";refine⟨bZ (ag.of k25),?_⟩;walk_at"";refine⟨l2,_,true,rfl,rfl,ag.of k25,?_⟩;rw[show List.countP (· == true) [false,false,true]=1 from rfl];walk_at""
    first|refine ay ?_|refine rd_exb (ay ?_)
    walk_at"";refine⟨l5,[false,false],rfl,ag.of k5,?_⟩;walk_at"";refine fj ?_;walk_at""
    first|refine ay ?_|refine rd_exb (ay ?_)
    walk_at"";refine aw λl7 H7 e7 k7 _=>?_;walk_at"";refine⟨bZ (ag.of (e7 _ _ k25)),?_⟩;walk_at"";have hno:∀m b,m<2->([false,false,true]:List Bool)[m]?=some b->b≠true:=λm b hm hb=>by
     have:m=0\/m=1:=by omega
     rcases this with rfl|rfl<;>(cases hb;exact Gr)
    refine⟨l2,_,true,2,rfl,rfl,ag.of (e7 _ _ k25),rfl,hno,by decide,?_⟩;refine aG (ag.of k7) (v:=.str (GP "great")) rfl ?_;walk_at"";exact q H7 (e15.trans e7)
def cL(H:Hp)(xs:List V):Prop:=∀x∈xs,di H x
def cL.nil(H:Hp):cL H []:=λx hx=>by cases hx
def cL.cons{H:Hp}{x:V}{xs:List V}(h:di H x)(h':cL H xs):cL H (x::xs):=λy hy=>by
 rcases Gq.mp hy with rfl|hy
 ·exact h
 ·exact h' y hy
def cL.ext{H H':Hp}{xs:List V}(e:Ext H H')(h:cL H xs):cL H' xs:=λx hx=>(h x hx).ext e
def cL.app{H:Hp}{xs ys:List V}(h:cL H xs)(h':cL H ys):cL H (xs++ys):=λx hx=>(Gz.mp hx).elim (h x) (h' x)
def jK(H:Hp)(m:Int)(v:V):Prop:=bw H 2 v/\bP H m v=false
def jK.ext{H H':Hp}{m:Int}{v:V}(e:Ext H H')(h:jK H m v):jK H' m v:=⟨h.1.ext e,(kX e h.1).trans h.2⟩
def gY(H:Hp)(m:Int)(xs:List V):Prop:=∀x∈xs,jK H m x
def gY.nil(H:Hp)(m:Int):gY H m []:=λx hx=>by cases hx
def gY.cons{H:Hp}{m:Int}{x:V}{xs:List V}(h:jK H m x)(h':gY H m xs):gY H m (x::xs):=λy hy=>by
 rcases Gq.mp hy with rfl|hy
 ·exact h
 ·exact h' y hy
def zX{H:Hp}{p:Addr}{xs:List V}(h:H p=some (.lst xs)):cZ H (.ref p)=false:=by unfold cZ;dsimp only;rw[h]
def CW{H:Hp}{m:Int}{q:V}(h:eU H m q=false):dS H [.int m,q]=false:=by unfold dS;dsimp only;rw[h,Bool.and_false,Bool.and_false]
def wL{H:Hp}{m:Int}{q:V}(h:m<1\/12<m):dS H [.int m,q]=false:=by
 unfold dS;dsimp only;rcases h with h|h
 ·rw[Hc (show ¬1<=m by omega)];rfl
 ·rw[Hc (show ¬m<=12 by omega),Bool.false_and,Bool.and_false]
def dl(f:Addr)(H:Hp):Hp:=λb=>if b=f then none else H b
def iF{f:Addr}{H:Hp}:dl f H f=none:=Hf rfl
def fR{f b:Addr}{H:Hp}(h:b≠f):dl f H b=H b:=He h
def iS(f:Addr){H H':Hp}(e:Ext H H'):Ext (dl f H) (dl f H'):=λb o h=>by
 by_cases z:b=f
 ·rw[z,iF]at h;cases h
 ·rw[fR z]at h ⊢;exact e b o h
def nJ(f:Addr)(H:Hp):Ext (dl f H) H:=λb o h=>by
 by_cases z:b=f
 ·rw[z,iF]at h;cases h
 ·rw[fR z]at h;exact h
def Er{f:Addr}{H:Hp}{o:HO}:dl f (upd H f o)=dl f H:=funext λb=>by
 by_cases z:b=f
 ·rw[z,iF,iF]
 ·rw[fR z,fR z,az z]
def BZ{f:Addr}{H H':Hp}(n:H f=none)(e:Ext H H'):Ext H (dl f H'):=λb o h=>by rw[fR (λz=>by rw[z,n]at h;cases h)];exact e b o h
def jw{f p:Addr}{H H':Hp}{o u:HO}(hf:H f=some u)(n:H p=none)(k:H' p=some o):dl f H' p=some o:=by rw[fR (λz=>by rw[z,hf]at n;cases n)];exact k
def rV{f p:Addr}{H:Hp}{xs ys:List V}(hf:H f=some (.lst ys))(k:H p=some (.tup xs)):dl f H p=some (.tup xs):=by rw[fR (λz=>by rw[z,hf]at k;cases k)];exact k
def BQ{f:Addr}{G H:Hp}(e:Ext (dl f G) H):Ext (dl f G) (dl f H):=λb o h=>by rw[fR (λz=>by rw[z,iF]at h;cases h)];exact e b o h
def BB{f:Addr}{G H:Hp}{o:HO}(e:Ext (dl f G) H):Ext (dl f G) (upd H f o):=λb u h=>by rw[az (λz=>by rw[z,iF]at h;cases h)];exact e b u h
def DJ{G G':Hp}{l:Addr}{xs:List V}(_k:G' l=some (.lst xs))(h:cL G xs):cL G xs:=h
def BP{G G':Hp}{m:Int}{l:Addr}{xs:List V}(_k:G' l=some (.lst xs))(h:gY G m xs):gY G m xs:=h
def Fo{H H':Hp}{b:Addr}(e:Ext H H')(n:H' b=none):H b=none:=by
 cases h:H b with
 | none=>rfl
 | some o=>rw[e _ _ h]at n;cases n
def iK{H H':Hp}{cs:List Addr}{ts:List Bfs.Pl}(f:∀c t,ao H c t->ao H' c t)(h:Paired (ao H) cs ts):Paired (ao H') cs ts:=by
 induction h with
 | nil=>exact .nil
 | cons a _ ih=>exact .cons (f _ _ a) ih
def xF{K:F6}{H:Hp}{a:Addr}{ns:List Int}{k:Int}{Q:VK}{xe:XK}(h1:ag K H a (ns.map V.int))(h2:ns.length<=63)(h3:0<=k)(q:∀z,Q (.int z) H):kR K [.ref a,.int k] H Q xe:=⟨a,ns,k,rfl,h1,h2,h3,q⟩
def dw{z:Str}{H:Hp}{Q:VK}(h:Q (.bl false) H):kH (.str z) (.str z) H Q:=uB (by rw[Hd rfl];exact h)
def sI{z:Str}{H:Hp}{Q:VK}(h:Q (.bl true) H):jg (.str z) (.str z) H Q:=mC (by rw[Hd rfl];exact h)
def kn{K:F6}{H:Hp}{v u:V}{g:Addr}{Q:VK}{E:XK}(hn:di H v)(hu:u=.non\/∃p,u=.ref p)(q:∀H',Ext H H'->Q (.str (GP "house")) H'):kT K [v,u,.ref g] H Q E:=
 ⟨v,u,g,_,rfl,hu,.inl ⟨hn,rfl,q⟩⟩
def eo{K:F6}{H:Hp}{v u:V}{g:Addr}{m:Int}{ws:List Way}{xs:List Bfs.Pl}{z:Str}{Q:VK}{E:XK}(hp:kg H u g xs)(hz:jE m xs z\/((∀x∈xs,bx m x)/\z=GP "told"))(hv:aY H v m ws)(ok:HOuse m ws)(dis:dJ K)(tb:Tbs K H)(q:∀H',Et H H'->Tbs K H'->Q (.str z) H'):kT K [v,u,.ref g] H Q E:=by
 refine⟨v,u,g,_,rfl,?_,.inr ⟨⟨m,ws,xs,hv,ok,hp,hz⟩,dis,tb,q⟩⟩;rcases hp with⟨rfl,_⟩|⟨p,_,_,rfl,_⟩
 ·exact .inl rfl
 ·exact .inr ⟨p,rfl⟩
def fW{H:Hp}{p g:Addr}{x y:Bfs.Pl}(hx:ao H p x)(hy:ao H g y):kg H (.ref p) g [x,y]:=.inr ⟨p,x,y,rfl,hx,hy,rfl⟩
def ml{H:Hp}{g:Addr}{y:Bfs.Pl}(hy:ao H g y):kg H .non g [y]:=.inl ⟨rfl,y,hy,rfl⟩
def jC{m:Int}{xs:List Bfs.Pl}{x:Bfs.Pl}(hx:x∈xs)(h:¬okPl m x):jE m xs (GP "place")\/((∀x∈xs,bx m x)/\GP "place" = GP "told"):=.inl (.inl ⟨⟨x,hx,h⟩,rfl⟩)
def oR{m:Int}{xs:List Bfs.Pl}{x:Bfs.Pl}(ha:∀x∈xs,okPl m x)(hx:x∈xs)(h:1000<x.2):jE m xs (GP "great")\/((∀x∈xs,bx m x)/\GP "great" = GP "told"):=.inl (.inr ⟨ha,⟨x,hx,h⟩,rfl⟩)
def mI{m:Int}{xs:List Bfs.Pl}(ha:∀x∈xs,bx m x):jE m xs (GP "told")\/((∀x∈xs,bx m x)/\GP "told" = GP "told"):=.inr ⟨ha,rfl⟩
def bx.okPl{m:Int}{x:Bfs.Pl}(h:bx m x):okPl m x:=⟨h.1,h.2.1,h.2.2.1⟩
def kx{P:Bfs.Pl->Prop}{x y:Bfs.Pl}(hx:P x)(hy:P y):∀z∈[x,y],P z:=λz hz=>by
 rcases Gq.mp hz with rfl|hz
 ·exact hx
 ·rw[Gm.mp hz];exact hy
def wY{P:Bfs.Pl->Prop}{x:Bfs.Pl}(hx:P x):∀z∈[x],P z:=λz hz=>by rw[Gm.mp hz];exact hx
def qE{x y:Bfs.Pl}:x∈[x,y]:=Gh
def lQ{x y:Bfs.Pl}:y∈[x,y]:=Ge _ Gh
def wI{x:Bfs.Pl}:x∈[x]:=Gh
def j7(K:F6):Sp:=λvs H Q _=>∃(a:Addr) (ns:List Int),vs=[.ref a]/\ag K H a (ns.map V.int)/\ns.length<=63/\(∀y∈(["kept","low_levels","risen"]:List Str),∀c T,PySem.W.tabIn K y=some (c,T)->H T=some (.tbl #[]))/\dJ K/\∀H',Q (.bl true) H'
abbrev fu:Stmt:=stq 78
def uT:FnScope ["_law_script","_law_house_here","_law_place","_law_goal","_law_far","_law_at","_law_no_places","_law_greats","_law_some","_law_way","_law_bad","_law_great"] ["_law_script"] (aJ fu):=⟨rfl,rfl,rfl,by decide +kernel,rfl,by decide +kernel,by decide +kernel⟩
def Af{P:Program}{w:World}{K:F6}{mg:Str->Option Value}{base:Heap}{f:Addr}{fd:FuncData}(F:Fun K "law" "law" fu f fd)(T:Blt mg)(C__law_asked:Cal P w K mg base "_law_asked" 12 ["_law_house_here","_law_place","_law_goal"] (kT K))(C__law_draws:Cal P w K mg base "_law_draws" 2 ["_law_cell_here","_law_widths","_law_prime"] (fO K))(C__law_cell:Cal P w K mg base "_law_cell" 1 ["_law_script","_law_k"] (kR K))(C__law_places:Cal P w K mg base "_law_places" 3 ["_law_script","_law_house_here","_law_k","_law_prime"] (tm K))(C__law_house:Cal P w K mg base "_law_house" 4 ["_law_cell_here","_law_prime"] (ug K)):FnOk P w K mg base dm 13 f fd ["_law_script"] (j7 K):=by
 have nd:=(uT).nd;refine F.ok uT (λvs H Q E h=>?_) (λcdv A outer s H vs Q E hr h=>?_)
 ·obtain⟨a,ns,rfl,_⟩:=h;rfl
 ·obtain⟨a,ns,rfl,ha,hl,hT,dis,q⟩:=h;have tab0:Tbs K H:=⟨λc T e=>.inl (hT _ (by simp) c T e),λc T e=>.inl (hT _ (by simp) c T e),λc T e=>.inl (hT _ (by simp) c T e)⟩;clear hT;refine⟨_,(@ai _ _ _ _ _ (@aD _ _ 1 _ _ _ _ nd rfl (Or.inl rfl) (aE C__law_house hr (@aa _ _ _ _ _ (aE C__law_cell hr (@aa _ _ _ _ _ (pv 0) (@aa _ _ _ _ _ af ae rfl) rfl)) (@aa _ _ _ _ _ af ae rfl) rfl)) rfl (Or.inl rfl))
    (@ai _ _ _ _ _ (@fZ _ _ _ _ _ _ (aE C__law_places hr (@aa _ _ _ _ _ (pv 0) (@aa _ _ _ _ _ (pv 1) (@aa _ _ _ _ _ af (@aa _ _ _ _ _ af ae rfl) rfl) rfl) rfl)) (mQ (n:=2) K rfl (cQ (aR (i:=2) nd rfl (Or.inl rfl)) (cQ (aR (i:=3) nd rfl (Or.inl rfl)) hG))) rfl rfl rfl)
    (@ai _ _ _ _ _ (@fZ _ _ _ _ _ _ (aE C__law_draws hr (@aa _ _ _ _ _ (aE C__law_cell hr (@aa _ _ _ _ _ (pv 0) (@aa _ _ _ _ _ af ae rfl) rfl)) (@aa _ _ _ _ _ (@aZ _ _ _ _ (@aa _ _ _ _ _ (av gE af af) (@aa _ _ _ _ _ af ae rfl) rfl)) (@aa _ _ _ _ _ af ae rfl) rfl) rfl)) (mQ (n:=2) K rfl (cQ (aR (i:=4) nd rfl (Or.inl rfl)) (cQ (aR (i:=5) nd rfl (Or.inl rfl)) hG))) rfl rfl rfl)
    (@ai _ _ _ _ _ (@aD _ _ 4 _ _ _ _ nd rfl (Or.inl rfl) (av aU af (pv 4)) rfl (Or.inl rfl))
    (@ai _ _ _ _ _ (@aD _ _ 5 _ _ _ _ nd rfl (Or.inl rfl) (av cn (pv 5) (av aU (bt (df K) rfl T.len_ PySem.boot_len (@aa _ _ _ _ _ (@ah _ _ _ _ _ _ _ (aA K) (pv 1) af (λ_ _=>rfl)) ae rfl)) af)) rfl (Or.inl rfl))
    (@ai _ _ _ _ _ (@aD _ _ 6 _ _ _ _ nd rfl (Or.inl rfl) (@aZ _ _ _ _ (@aa _ _ _ _ _ (@aT _ _ _ _ _ (@aa _ _ _ _ _ (@ah _ _ _ _ _ _ _ (aA K) (pv 1) af (λ_ _=>rfl)) (@aa _ _ _ _ _ af ae rfl) rfl)) (@aa _ _ _ _ _ (@aT _ _ _ _ _ (@aa _ _ _ _ _ (gq gR af) (@aa _ _ _ _ _ af ae rfl) rfl)) (@aa _ _ _ _ _ (@aT _ _ _ _ _ (@aa _ _ _ _ _ (@ah _ _ _ _ _ _ _ (aA K) (pv 2) af (λ_ _=>rfl)) (@aa _ _ _ _ _ (gq gR af) ae rfl) rfl)) (@aa _ _ _ _ _ (@aT _ _ _ _ _ (@aa _ _ _ _ _ (@ah _ _ _ _ _ _ _ (aA K) (pv 1) af (λ_ _=>rfl)) (@aa _ _ _ _ _ (pv 4) ae rfl) rfl)) (@aa _ _ _ _ _ (@aT _ _ _ _ _ (@aa _ _ _ _ _ (av aU (@ah _ _ _ _ _ _ _ (aA K) (pv 1) af (λ_ _=>rfl)) (pv 4)) (@aa _ _ _ _ _ (gq gR (pv 4)) ae rfl) rfl)) ae rfl) rfl) rfl) rfl) rfl)) rfl (Or.inl rfl))
    (@ai _ _ _ _ _ (@aD _ _ 7 _ _ _ _ nd rfl (Or.inl rfl) (@aZ _ _ _ _ (@aa _ _ _ _ _ (@aT _ _ _ _ _ (@aa _ _ _ _ _ (@ah _ _ _ _ _ _ _ (aA K) (pv 2) af (λ_ _=>rfl)) (@aa _ _ _ _ _ af ae rfl) rfl)) (@aa _ _ _ _ _ (@aT _ _ _ _ _ (@aa _ _ _ _ _ (@ah _ _ _ _ _ _ _ (aA K) (pv 3) af (λ_ _=>rfl)) (@aa _ _ _ _ _ (pv 4) ae rfl) rfl)) (@aa _ _ _ _ _ (@aT _ _ _ _ _ (@aa _ _ _ _ _ af (@aa _ _ _ _ _ (av gE af af) ae rfl) rfl)) ae rfl) rfl) rfl)) rfl (Or.inl rfl))
    (@ai _ _ _ _ _ (@aD _ _ 8 _ _ _ _ nd rfl (Or.inl rfl) (@aZ _ _ _ _ (@aa _ _ _ _ _ dy (@xZ _ _ _ _ _ (.tup (.cons .int (.cons (.tup .nil) .nil))) (@xZ _ _ _ _ _ (.tup (.cons .int (.cons (.tup .nil) .nil))) (@aa _ _ _ _ _ (@aT _ _ _ _ _ (@aa _ _ _ _ _ (@ah _ _ _ _ _ _ _ (aA K) (pv 1) af (λ_ _=>rfl)) ae rfl)) (@aa _ _ _ _ _ (@aZ _ _ _ _ (@aa _ _ _ _ _ (@ah _ _ _ _ _ _ _ (aA K) (pv 1) af (λ_ _=>rfl)) (@aa _ _ _ _ _ (@ah _ _ _ _ _ _ _ (aA K) (pv 1) af (λ_ _=>rfl)) ae rfl) rfl)) (@aa _ _ _ _ _ aF ae rfl) rfl) rfl))) rfl)) rfl (Or.inl rfl))
    (@ai _ _ _ _ _ (bD PassesOwn.never rfl (cj K (@aZ _ _ _ _ (@aa _ _ _ _ _ (@aT _ _ _ _ _ (@aa _ _ _ _ _ af (@aa _ _ _ _ _ aF (@aa _ _ _ _ _ (@ah _ _ _ _ _ _ _ (aA K) (pv 1) af (λ_ _=>rfl)) (@aa _ _ _ _ _ aF ae rfl) rfl) rfl) rfl)) (@aa _ _ _ _ _ (@aT _ _ _ _ _ (@aa _ _ _ _ _ af (@aa _ _ _ _ _ aF (@aa _ _ _ _ _ af (@aa _ _ _ _ _ aF ae rfl) rfl) rfl) rfl)) (@aa _ _ _ _ _ (@aT _ _ _ _ _ (@aa _ _ _ _ _ af (@aa _ _ _ _ _ aF (@aa _ _ _ _ _ af (@aa _ _ _ _ _ aF ae rfl) rfl) rfl) rfl)) (@aa _ _ _ _ _ (@aT _ _ _ _ _ (@aa _ _ _ _ _ af (@aa _ _ _ _ _ aF (@aa _ _ _ _ _ af ae rfl) rfl) rfl)) (@aa _ _ _ _ _ dy ae rfl) rfl) rfl) rfl) rfl))) (aR (i:=9) nd rfl (Or.inl rfl)) (@aq _ _ _ (br (bG K Gi Gx Gy bT (pv 8) (@aa _ _ _ _ _ (@aT _ _ _ _ _ (@aa _ _ _ _ _ (@ah _ _ _ _ _ _ _ (aA K) (pv 1) af (λ_ _=>rfl)) (@aa _ _ _ _ _ (av rB (av rB (gD xV (@ah _ _ _ _ _ _ _ (aA K) (pv 1) af (λ_ _=>rfl)) iD (fA (pv 5))) (@aT _ _ _ _ _ (@aa _ _ _ _ _ (pv 9) ae rfl))) (gD xV (@ah _ _ _ _ _ _ _ (aA K) (pv 1) af (λ_ _=>rfl)) (fA (pv 5)) iD)) ae rfl) rfl)) ae rfl)))))
    (@ai _ _ _ _ _ (bD PassesOwn.never rfl (cj K (pv 8)) (aR (i:=10) nd rfl (Or.inl rfl)) (@ai _ _ _ _ _ (@bM _ _ _ _ _ _ _ _ (PW.pt (dX (aS cE (aE C__law_asked hr (@aa _ _ _ _ _ (pv 10) (@aa _ _ _ _ _ (pv 2) (@aa _ _ _ _ _ (pv 3) ae rfl) rfl) rfl)) aF (aP _)) (dZ (aS cE (aE C__law_asked hr (@aa _ _ _ _ _ (pv 10) (@aa _ _ _ _ _ dy (@aa _ _ _ _ _ (pv 3) ae rfl) rfl) rfl)) aF (aP _))))) (@aq _ _ _ (@aI _ _ _ _ bL)) bf)
    (@aq _ _ _ (@bM _ _ _ _ _ _ _ _ (PW.pt (dX (aS cE (aE C__law_asked hr (@aa _ _ _ _ _ (pv 10) (@aa _ _ _ _ _ (@ah _ _ _ _ _ _ _ (aH K) (pv 6) af (λ_ _=>rfl)) (@aa _ _ _ _ _ (@ah _ _ _ _ _ _ _ (aH K) (pv 7) af (λ_ _=>rfl)) ae rfl) rfl) rfl)) aF (aP _)) (dZ (aS cE (aE C__law_asked hr (@aa _ _ _ _ _ (pv 10) (@aa _ _ _ _ _ dy (@aa _ _ _ _ _ (@ah _ _ _ _ _ _ _ (aH K) (pv 7) af (λ_ _=>rfl)) ae rfl) rfl) rfl)) aF (aP _))))) (@aq _ _ _ (@aI _ _ _ _ bL)) bf))))
    (@ai _ _ _ _ _ (bD PassesOwn.never rfl (cj K (pv 6)) (aR (i:=10) nd rfl (Or.inl rfl)) (@ai _ _ _ _ _ (@bM _ _ _ _ _ _ _ _ (PW.pt (dX (aS cE (aE C__law_asked hr (@aa _ _ _ _ _ (pv 1) (@aa _ _ _ _ _ (pv 10) (@aa _ _ _ _ _ (pv 3) ae rfl) rfl) rfl)) aF (aP _)) (dZ (aS cE (aE C__law_asked hr (@aa _ _ _ _ _ (pv 1) (@aa _ _ _ _ _ (pv 2) (@aa _ _ _ _ _ (pv 10) ae rfl) rfl) rfl)) aF (aP _))))) (@aq _ _ _ (@aI _ _ _ _ bL)) bf)
    (@ai _ _ _ _ _ (@bM _ _ _ _ _ _ _ _ (aS cE (aE C__law_asked hr (@aa _ _ _ _ _ (pv 1) (@aa _ _ _ _ _ dy (@aa _ _ _ _ _ (pv 10) ae rfl) rfl) rfl)) aF (aP _)) (@aq _ _ _ (@aI _ _ _ _ bL)) bf)
    (@aq _ _ _ (bD PassesOwn.never rfl (cj K (pv 7)) (aR (i:=11) nd rfl (Or.inl rfl)) (@aq _ _ _ (@bM _ _ _ _ _ _ _ _ (PW.pt (dX (aS cE (aE C__law_asked hr (@aa _ _ _ _ _ (pv 1) (@aa _ _ _ _ _ (pv 10) (@aa _ _ _ _ _ (pv 11) ae rfl) rfl) rfl)) aF (aP _)) (dZ (aS cE (aE C__law_asked hr (@aa _ _ _ _ _ (pv 1) (@aa _ _ _ _ _ (pv 11) (@aa _ _ _ _ _ (pv 10) ae rfl) rfl) rfl)) aF (aP _))))) (@aq _ _ _ (@aI _ _ _ _ bL)) bf)))))))
    (@ai _ _ _ _ _ (bD PassesOwn.never rfl (cj K (pv 7)) (aR (i:=11) nd rfl (Or.inl rfl)) (@ai _ _ _ _ _ (@bM _ _ _ _ _ _ _ _ (PW.pt (dX (aS cE (aE C__law_asked hr (@aa _ _ _ _ _ (pv 1) (@aa _ _ _ _ _ (pv 11) (@aa _ _ _ _ _ (pv 3) ae rfl) rfl) rfl)) aF (aP _)) (dZ (aS cE (aE C__law_asked hr (@aa _ _ _ _ _ (pv 1) (@aa _ _ _ _ _ (pv 2) (@aa _ _ _ _ _ (pv 11) ae rfl) rfl) rfl)) aF (aP _))))) (@aq _ _ _ (@aI _ _ _ _ bL)) bf)
    (@aq _ _ _ (@bM _ _ _ _ _ _ _ _ (aS cE (aE C__law_asked hr (@aa _ _ _ _ _ (pv 1) (@aa _ _ _ _ _ dy (@aa _ _ _ _ _ (pv 11) ae rfl) rfl) rfl)) aF (aP _)) (@aq _ _ _ (@aI _ _ _ _ bL)) bf))))
    (@ai _ _ _ _ _ (@bM _ _ _ _ _ _ _ _ (aS cE (aE C__law_asked hr (@aa _ _ _ _ _ (pv 1) (@aa _ _ _ _ _ (@aT _ _ _ _ _ (@aa _ _ _ _ _ (av cX (@ah _ _ _ _ _ _ _ (aA K) (pv 1) af (λ_ _=>rfl)) af) (@aa _ _ _ _ _ af ae rfl) rfl)) (@aa _ _ _ _ _ (@aT _ _ _ _ _ (@aa _ _ _ _ _ (av cX (@ah _ _ _ _ _ _ _ (aA K) (pv 1) af (λ_ _=>rfl)) af) (@aa _ _ _ _ _ af ae rfl) rfl)) ae rfl) rfl) rfl)) aF (aP _)) (@aq _ _ _ (@aI _ _ _ _ bL)) bf)
    (@aq _ _ _ (@aI _ _ _ _ (dI (fb b6 (aE C__law_asked hr (@aa _ _ _ _ _ (pv 1) (@aa _ _ _ _ _ (pv 2) (@aa _ _ _ _ _ (pv 3) ae rfl) rfl) rfl)) aF (aP _)) (eO (fb b6 (aE C__law_asked hr (@aa _ _ _ _ _ (pv 1) (@aa _ _ _ _ _ dy (@aa _ _ _ _ _ (pv 3) ae rfl) rfl) rfl)) aF (aP _))))))))))))))))))),?_⟩
  walk_at"";refine xF ha hl (by decide) λz=>?_;walk_at"";refine⟨z,_,rfl,by decide,λv m ws H1 e1 hv ok3=>?_⟩;have ok:=ok3.house;clear ok3;have m1:=ok.m1;have m2:=ok.m12;walk_at"";refine⟨a,ns,v,m,ws,1,_,rfl,ha.ext e1,hl,hv,m1,by decide,by decide,λf as H2 e2 hf has hall=>?_⟩
  match as,has with
  | [pp,pg],_=>
  have hf:H2 f=some (.lst [.ref pp,.ref pg]):=hf;obtain⟨x,hx,ix⟩:=hall pp (by simp);obtain⟨y,hy,iy⟩:=hall pg (by simp);walk_at"";refine og (ag.of hf) rfl ?_;walk_at"";refine xF (ha.ext (e1.trans e2)) hl (by decide) λz3=>?_;walk_at"";refine aw λw0 G1 f1 hw0 _=>?_;walk_at"";refine i6 [1000000,31] hw0 (by decide) (by decide) (by decide) λdq ds H3 e3 hd _ hdl hdb=>?_;have hdl3:ds.length=2:=hdl
  match ds,hdl3 with
  | [d0,d1],_=>
  have hd:H3 dq=some (.lst [.int d0,.int d1]):=hd;have b0:=(hdb 0 d0 1000000 rfl rfl).1;walk_at"";refine og (ag.of hd) rfl ?_;have e13:=e2.trans (f1.trans e3);have hv3:=hv.ext e13;have hx3:ao H3 pp x:=(f1.trans e3) _ _ hx;have hy3:ao H3 pg y:=(f1.trans e3) _ _ hy;have tb3:=tab0.ext (e1.trans e13);clear hdb hdl hw0 hd hv e1 e2 e3 f1 hx hy hf hall ha tab0 e13;obtain⟨hh,r,bs,rfl,k1,k2,hbl,hal,hts⟩:=xC hv3 ok;have hbl1:(bs.map V.ref).length<=100:=by rw[Ga,hbl];exact ok.few
  clear hal hbl;walk_at"";refine aB (aj.of k1) (v:=.ref r) rfl ?_;walk_at"";refine iY (aj.of k2) ?_;walk_at""
  try refine rd_I (show(0:Int)<(((bs.map V.ref).length:Nat):Int)+1 by omega) ?_
  walk_at"";have F1:(1001:Int)<=1001+d0:=by omega
  generalize 1001+d0=F at F1 ⊢;generalize d1 % ((((bs.map V.ref).length:Nat):Int)+1)=at';refine aB (aj.of k1) (v:=.int m) rfl ?_;walk_at"";refine aw λc0 A0 a0 hc0 _=>?_;walk_at"";refine aw λc1 A1 a1 hc1 _=>?_;walk_at"";refine aB (aj.of ((a0.trans a1) _ _ hx3)) (v:=.int x.1) rfl ?_;walk_at"";refine aw λc2 A2 a2 hc2 _=>?_;have x2:=a0.trans (a1.trans a2);walk_at"";refine aB (aj.of (x2 _ _ k1)) (v:=.int m) rfl ?_;walk_at"";refine aw λc3 A3 a3 hc3 _=>?_;have x3:=x2.trans a3;walk_at"";refine aB (aj.of (x3 _ _ k1)) (v:=.int m) rfl ?_;walk_at"";refine aw λc4 A4 a4 hc4 _=>?_;walk_at"";refine aw λcl A6 a6 hcl _=>?_;have y4:=a4.trans a6;have y3:=a3.trans y4;have y2:=a2.trans y3;have y1:=a1.trans y2;have y0:=a0.trans y1;obtain⟨ps,xs,hps,hcl',hpp,hbad⟩:∃(ps:List Addr) (xs:List Bfs.Pl),ps=[c0,c1,c2,c3,c4]/\A6 cl=some (.lst (ps.map V.ref))/\Paired (ao A6) ps xs/\∀x∈xs,¬okPl m x:=by
   refine⟨[c0,c1,c2,c3,c4],[(m,0),(-1,3),(x.1,-1),(m,F),(m+F,-F)],rfl,hcl,.cons (y1 _ _ hc0) (.cons (y2 _ _ hc1) (.cons (y3 _ _ hc2) (.cons (y4 _ _ hc3) (.cons (a6 _ _ hc4) .nil)))),λx hx=>?_⟩;simp only[Gq,GJ,or_false]at hx;unfold okPl;rcases hx with rfl|rfl|rfl|rfl|rfl
   ·intro h;have:=h.2.1;simp only at this;omega
   ·intro h;have:=h.1;simp only at this;omega
   ·intro h;have:=h.2.2;simp only at this;omega
   ·intro h;have:=h.2.1;simp only at this;omega
   ·intro h;have:=h.2.2;simp only at this;omega
  have hv6:=hv3.ext y0;have hx6:ao A6 pp x:=y0 _ _ hx3;have hy6:ao A6 pg y:=y0 _ _ hy3;have tb6:=tb3.ext y0;have k16:=y0 _ _ k1;have k26:=y0 _ _ k2;have hts6:=hts.ext y0;clear y0 y1 y2 y3 y4 a0 a1 a2 a3 a4 a6 x2 x3 hc0 hc1 hc2 hc3 hc4 hcl hv3 hx3 hy3 tb3 k1 k2 hts;walk_at"";refine aB (aj.of hx6) (v:=.int x.1) rfl ?_;walk_at"";refine aw λg0 B0 a0 hg0 _=>?_;walk_at"";refine aB (aj.of (a0 _ _ hy6)) (v:=.int y.1) rfl ?_;walk_at"";refine aw λg1 B1 a1 hg1 _=>?_;walk_at"";refine aw λg2 B2 a2 hg2 _=>?_;walk_at"";refine aw λgl B3 a3 hgl _=>?_;have y2:=a2.trans a3;have y1:=a1.trans y2;have y0:=a0.trans y1;obtain⟨gs,us,hgs,hgl',hgg,hgt⟩:∃(gs:List Addr) (us:List Bfs.Pl),gs=[g0,g1,g2]/\B3 gl=some (.lst (gs.map V.ref))/\Paired (ao B3) gs us/\∀u∈us,okPl m u/\1000<u.2:=by
   refine⟨[g0,g1,g2],[(x.1,1001),(y.1,F),(0,10 ^ (40:Int).toNat)],rfl,hgl,.cons (y1 _ _ hg0) (.cons (y2 _ _ hg1) (.cons (a3 _ _ hg2) .nil)),λu hu=>?_⟩;simp only[Gq,GJ,or_false]at hu;rcases hu with rfl|rfl|rfl
   ·exact⟨⟨ix.1,ix.2.1,by show(0:Int)<=1001;decide⟩,by show(1000:Int)<1001;decide⟩
   ·exact⟨⟨iy.1,iy.2.1,by show(0:Int)<=F;omega⟩,by show(1000:Int)<F;omega⟩
   ·exact⟨⟨Int.le_refl _,by show(0:Int)<m;omega,by show(0:Int)<=10 ^ (40:Int).toNat;decide⟩,by show(1000:Int)<10 ^ (40:Int).toNat;decide⟩
  have hv7:=hv6.ext y0;have hx7:ao B3 pp x:=y0 _ _ hx6;have hy7:ao B3 pg y:=y0 _ _ hy6;have tb7:=tb6.ext y0;have k17:=y0 _ _ k16;have k27:=y0 _ _ k26;have hts7:=hts6.ext y0;have hcl7:=y0 _ _ hcl';have hpp7:Paired (ao B3) ps xs:=iK (λ_ _ h=>y0 _ _ h) hpp;clear y0 y1 y2 a0 a1 a2 a3 hg0 hg1 hg2 hgl hv6 hx6 hy6 tb6 k16 k26 hts6 hcl' hpp;walk_at"";refine aw λp1 G1 e1 h1 _=>?_;walk_at"";refine aw λp2 G2 e2 h2 _=>?_;walk_at"";refine aw λp3 G3 e3 h3 _=>?_;walk_at"";refine aw λp4 G4 e4 h4 _=>?_;have x4:=e1.trans (e2.trans (e3.trans e4));walk_at"";refine aB (aj.of (x4 _ _ k17)) (v:=.int m) rfl ?_;walk_at"";refine aw λp5 G5 e5 h5 _=>?_;have x5:=x4.trans e5;walk_at"";refine aB (aj.of (x5 _ _ k17)) (v:=.int m) rfl ?_;walk_at"";refine aB (aj.of (x5 _ _ k17)) (v:=.ref r) rfl ?_;walk_at"";refine aw λp6 G6 e6 h6 _=>?_;walk_at"";refine aw λp7 G7 e7 h7 n7=>?_;have z5:=e5.trans e6;have z4:=e4.trans z5;have z3:=e3.trans z4;have z2:=e2.trans z3;have x6:=x5.trans e6;have F1':=DJ (G:=G6) h7 (.cons ⟨vA _ _,rfl⟩ (.cons ⟨(cW (n:=3) h2 (by simp) (.cons (cR _ _ _) (.cons ((cW (n:=2) h1 (by simp) (.nil _ _)).ext e2) (.nil _ _)))).ext z3,(iT (z3 _ _ h2)).trans (wL (by decide))⟩ (.cons ⟨(cW (n:=3) h4 (by simp) (.cons (cR _ _ _) (.cons ((cW (n:=2) h3 (by simp) (.nil _ _)).ext e4) (.nil _ _)))).ext z5,(iT (z5 _ _ h4)).trans (wL (by decide))⟩ (.cons ⟨(cW (n:=3) h5 (by simp) (.cons (cR _ _ _) (.nil _ _))).ext e6,(iT (e6 _ _ h5)).trans (uP (by simp))⟩ (.cons ⟨Fn (n:=3) h6 (by simp) (.cons (cR _ _ _) (.cons (cW (n:=2) (x6 _ _ k27) (GI hbl1 (by decide)) (hts7.ext x6).up) (.nil _ _))),zX h6⟩ (.cons ⟨eX _ _ (by decide +kernel),rfl⟩ (.nil _)))))));have x0:Ext G6 (dl p7 G7):=BZ n7 e7;have F2:=F1'.ext x0;have bH:Ext B3 (dl p7 G7):=x6.trans x0;have fn:B3 p7=none:=Fo x6 n7;clear F1' x0 x4 x5 x6 z2 z3 z4 z5 e1 e2 e3 e4 e5 e6 h1 h2 h3 h4 h5 h6;walk_at"";refine aB (aj.of ((bH.trans (nJ _ _)) _ _ k17)) (v:=.int m) rfl ?_;walk_at"";refine aw λw1 W1 e1 h1 n1=>?_;walk_at"";refine aw λw2 W2 e2 h2 n2=>?_;walk_at"";refine aw λw3 W3 e3 h3 n3=>?_;walk_at"";refine aw λw4 W4 e4 h4 n4=>?_;walk_at"";refine aw λw5 W5 e5 h5 n5=>?_;have f1:=e1 _ _ h7;have f2:=e2 _ _ f1;have f3:=e3 _ _ f2;have f4:=e4 _ _ f3;have f5:=e5 _ _ f4;have q1:=jw h7 n1 h1;have q2:=jw f1 n2 h2;have q3:=jw f2 n3 h3;have q4:=jw f3 n4 h4;have q5:=jw f4 n5 h5;have d1':=iS p7 e1;have d2:=iS p7 e2;have d3:=iS p7 e3;have d4:=iS p7 e4;have d5:=iS p7 e5;have z4:=d4.trans d5;have z3:=d3.trans z4;have z2:=d2.trans z3;have z1:=d1'.trans z2;have WW:=BP (G:=dl p7 W5) (m:=m) h5 (.cons ⟨(cW (n:=1) q1 (by simp) (.cons (cR _ _ _) (.cons (eX _ _ (by decide +kernel)) (.cons (cR _ _ _) (.cons (eX _ _ (by decide +kernel)) (.nil _ _)))))).ext z2,(gX (z2 _ _ q1)).trans (qh (.inr (.inl (Br (Int.le_refl _)))))⟩ (.cons ⟨(cW (n:=1) q2 (by simp) (.cons (cR _ _ _) (.cons (eX _ _ (by decide +kernel)) (.cons (cR _ _ _) (.cons (eX _ _ (by decide +kernel)) (.nil _ _)))))).ext z3,(gX (z3 _ _ q2)).trans (qh (.inr (.inr (.inl (by decide +kernel)))))⟩ (.cons ⟨(cW (n:=1) q3 (by simp) (.cons (cR _ _ _) (.cons (eX _ _ (by decide +kernel)) (.cons (cR _ _ _) (.cons (eX _ _ (by decide +kernel)) (.nil _ _)))))).ext z4,(gX (z4 _ _ q3)).trans (qh (.inr (.inr (.inr (by decide +kernel)))))⟩ (.cons ⟨(cW (n:=1) q4 (by simp) (.cons (cR _ _ _) (.cons (eX _ _ (by decide +kernel)) (.cons (cR _ _ _) (.nil _ _))))).ext d5,(gX (d5 _ _ q4)).trans (qk (by simp))⟩ (.cons ⟨vA _ _,rfl⟩ (.nil _ _))))));have F2:=F2.ext z1;have bH:=bH.trans z1;clear q1 q2 q3 q4 n1 n2 n3 n4 n5 h1 h2 h3 h4 e1 e2 e3 e4 e5 e7 d1' d2 d3 d4 d5 z1 z2 z3 z4 f1 f2 f3 f4 h7 n7;walk_at"";refine cb (ag.of h5) ?_;refine forL (xs:=_) (λi σ H'=>Ext (dl p7 W5) H'/\∃k k1 k2 ys,σ=[some (.ref a),some (.ref hh),some (.ref pp),some (.ref pg),some (.int F),some (.int at'),some (.ref cl),some (.ref gl),some (.ref p7),k,k1,k2]/\H' p7=some (.lst ys)/\ys.length=6+i/\cL (dl p7 H') ys) ⟨nJ p7 W5,_,_,_,_,rfl,f5,rfl,F2⟩ (λi σ H' _ h=>ag.of (h.1 _ _ q5)) ?_ ?_
  ·rintro i w σ H' hw ⟨e',k,k1,k2,ys,rfl,hf',hyl2,hys⟩;have hi:=(Gj.mp hw).1;simp only[GF,List.length_nil]at hi;have k1':=(bH.trans e') _ _ k17;have k2':=(bH.trans e') _ _ k27;have eI:Ext (dl p7 W5) (dl p7 H'):=BQ e';have nxd:=(WW w (Gk hw)).ext eI;have htd:=hts7.ext (bH.trans eI);walk_at"";refine⟨bZ (ag.of hf'),?_⟩;walk_at"";refine aB (aj.of k1') (v:=.int m) rfl ?_;walk_at"";refine aB (aj.of k1') (v:=.ref r) rfl ?_;walk_at"";refine wM k2' λu0 J0 j0 v0=>?_;walk_at"";refine aw λu1 J1 j1 v1 _=>?_;walk_at"";have cl1:=yd (lo:=none) (hi:=some at') hbl1;have cl2:=yd (lo:=some at') (hi:=none) hbl1;refine xb (j1 _ _ v0) v1 (f6 (by simp only[GF,List.length_nil];omega)) λu2 J2 j2 v2=>?_;have j02:=j0.trans (j1.trans j2);walk_at"";refine aB (aj.of (j02 _ _ k1')) (v:=.ref r) rfl ?_;walk_at"";refine wM (j02 _ _ k2') λu3 J3 j3 v3=>?_;walk_at"";refine xb (j3 _ _ v2) v3 (f6 (by simp only[Gu,GF,List.length_nil];omega)) λu4 J4 j4 v4=>?_;walk_at"";refine aw λu5 J5 j5 v5 _=>?_;walk_at"";have eA:=j02.trans (j3.trans (j4.trans j5));have hfJ:=eA _ _ hf';refine bR hfJ (dz (by omega)) ?_;walk_at"";have w2:=rV hfJ (j5 _ _ v4);have w3:=rV hfJ v5;have eD:=iS p7 eA;have t3:bw (dl p7 J5) 3 (.ref u4):=cW w2 (by simp only[Gu,GF,List.length_nil];omega) (((htd.cut.up.ext eD).app (.cons (nxd.ext eD).1 (.nil _ _))).app (htd.cut.up.ext eD));have t4:di (dl p7 J5) (.ref u5):=⟨cW w3 (by simp) (.cons (cR _ _ _) (.cons t3 (.nil _ _))),(iT w3).trans (CW ((lK w2).trans (yG (GS _ (GR _ (Gm.mpr rfl))) (nxd.ext eD).2)))⟩;exact⟨BB (e'.trans eA),_,_,_,_,rfl,aO,by rw[Gu,hyl2];rfl,by rw[Er];exact(hys.ext eD).app (.cons t4 (.nil _))⟩
  rintro σ G8 ⟨ee,kq,kq1,kq2,ys,rfl,hf8,hyl,F2⟩;have bH:=bH.trans ee;have hys:cL G8 ys:=F2.ext (nJ _ _);have hv8:=hv7.ext bH;have hx8:ao G8 pp x:=bH _ _ hx7;have hy8:ao G8 pg y:=bH _ _ hy7;have tb8:=tb7.ext bH;have k18:=bH _ _ k17;have hcl8:=bH _ _ hcl7;have hgl8:=bH _ _ hgl';have hpp8:Paired (ao G8) ps xs:=iK (λ_ _ h=>bH _ _ h) hpp7;have hgg8:Paired (ao G8) gs us:=iK (λ_ _ h=>bH _ _ h) hgg;clear F2 ee bH WW q5 h5 f5 hv7 hx7 hy7 tb7 k17 k27 hts7 hcl7 hgl' hpp7 hgg fn hyl;walk_at"";refine cb (ag.of hf8) ?_;refine forL (xs:=ys) (λi σ H'=>Ext G8 H'/\∃k k1 k2,σ=[some (.ref a),some (.ref hh),some (.ref pp),some (.ref pg),some (.int F),some (.int at'),some (.ref cl),some (.ref gl),some (.ref p7),k,k1,k2]) ⟨Ext.rfl' _,_,_,_,rfl⟩ (λi σ H' _ h=>ag.of (h.1 _ _ hf8)) ?_ ?_
  ·rintro i w σ H' hw ⟨ex,k,k1,k2,rfl⟩;have hn:=hys w (Gk hw);walk_at"";refine kn (hn.ext ex) (.inr ⟨_,rfl⟩) λJ1 j1=>?_;walk_at"";refine dw ?_;refine rd_exb (aC ?_);have ex:=ex.trans j1;walk_at"";refine kn (hn.ext ex) (.inl rfl) λJ2 j2=>?_;walk_at"";refine dw ?_;refine rd_exb (aC ?_);have ex:=ex.trans j2;walk_at"";refine aG (ag.of (ex _ _ hcl8)) (v:=.ref c0) (by rw[hps];rfl) ?_;walk_at"";refine aG (ag.of (ex _ _ hgl8)) (v:=.ref g0) (by rw[hgs];rfl) ?_;walk_at"";refine kn (hn.ext ex) (.inr ⟨_,rfl⟩) λJ3 j3=>?_;walk_at"";refine dw ?_;refine rd_exb (aC ?_);have ex:=ex.trans j3;walk_at"";refine aG (ag.of (ex _ _ hgl8)) (v:=.ref g1) (by rw[hgs];rfl) ?_;walk_at"";refine kn (hn.ext ex) (.inl rfl) λJ4 j4=>?_;walk_at"";refine dw ?_;refine rd_exb (aC ?_);walk_at"";exact⟨ex.trans j4,_,_,_,rfl⟩
  rintro σ G9 ⟨bH,kq,kq1,kq2,rfl⟩;have hv9:=hv8.ext bH;have hx9:ao G9 pp x:=bH _ _ hx8;have hy9:ao G9 pg y:=bH _ _ hy8;have tb9:=tb8.ext bH;have k19:=bH _ _ k18;have hcl9:=bH _ _ hcl8;have hgl9:=bH _ _ hgl8;have hpp9:Paired (ao G9) ps xs:=iK (λ_ _ h=>bH _ _ h) hpp8;have hgg9:Paired (ao G9) gs us:=iK (λ_ _ h=>bH _ _ h) hgg8;clear hys hf8 bH hv8 hx8 hy8 tb8 k18 hcl8 hgl8 hpp8 hgg8 hps hgs;walk_at"";refine cb (ag.of hcl9) ?_;refine forL (xs:=ps.map V.ref) (λi σ H'=>(Et G9 H'/\Tbs K H')/\∃k k1 k2,σ=[some (.ref a),some (.ref hh),some (.ref pp),some (.ref pg),some (.int F),some (.int at'),some (.ref cl),some (.ref gl),some (.ref p7),k,k1,k2]) ⟨⟨(Ext.rfl' _).et,tb9⟩,_,_,_,rfl⟩ (λi σ H' _ h=>ag.of (h.1.1 _ _ hcl9 (λ_ z=>by cases z))) ?_ ?_
  ·rintro i w σ J hu ⟨⟨eJ,tJ⟩,k,k1,k2,rfl⟩;rw[Gd]at hu;obtain⟨p,hp,rfl⟩:=Gn.mp hu;obtain⟨b,hb,hpb⟩:=eZ hpp9 hp;have hbx:=hbad b (Gk hb);walk_at"";refine eo (fW (ao.et eJ hpb) (ao.et eJ hy9)) (jC qE hbx) (hv9.et eJ) ok dis tJ λJ1 j1 t1=>?_;walk_at"";refine dw ?_;refine rd_exb (aC ?_);have eJ:=eJ.trans j1;walk_at"";refine eo (fW (ao.et eJ hx9) (ao.et eJ hpb)) (jC lQ hbx) (hv9.et eJ) ok dis t1 λJ2 j2 t2=>?_;walk_at"";refine dw ?_;refine rd_exb (aC ?_);have eJ:=eJ.trans j2;walk_at"";refine eo (ml (ao.et eJ hpb)) (jC wI hbx) (hv9.et eJ) ok dis t2 λJ3 j3 t3=>?_;walk_at"";refine dw ?_;refine rd_exb (aC ?_);have eJ:=eJ.trans j3;walk_at"";refine cb (ag.of (eJ _ _ hgl9 (λ_ z=>by cases z))) ?_;refine forL (xs:=gs.map V.ref) (λi σ H'=>(Et G9 H'/\Tbs K H')/\∃k2,σ=[some (.ref a),some (.ref hh),some (.ref pp),some (.ref pg),some (.int F),some (.int at'),some (.ref cl),some (.ref gl),some (.ref p7),k,some (.ref p),k2]) ⟨⟨eJ,t3⟩,_,rfl⟩ (λi σ H' _ h=>ag.of (h.1.1 _ _ hgl9 (λ_ z=>by cases z))) ?_ ?_
   ·rintro i w σ J hu ⟨⟨eJ,tJ⟩,k2,rfl⟩;rw[Gd]at hu;obtain⟨g,hg,rfl⟩:=Gn.mp hu;obtain⟨c,hc,hpc⟩:=eZ hgg9 hg;walk_at"";refine eo (fW (ao.et eJ hpb) (ao.et eJ hpc)) (jC qE hbx) (hv9.et eJ) ok dis tJ λJ1 j1 t1=>?_;walk_at"";refine dw ?_;refine rd_exb (aC ?_);have eJ:=eJ.trans j1;walk_at"";refine eo (fW (ao.et eJ hpc) (ao.et eJ hpb)) (jC lQ hbx) (hv9.et eJ) ok dis t1 λJ2 j2 t2=>?_;walk_at"";refine dw ?_;refine rd_exb (aC ?_);walk_at"";exact⟨⟨eJ.trans j2,t2⟩,_,rfl⟩
   ·rintro σ J ⟨⟨eJ,tJ⟩,k2,rfl⟩;walk_at"";exact⟨⟨eJ,tJ⟩,_,_,_,rfl⟩
  rintro σ J ⟨⟨eJ,tJ⟩,k,k1,k2,rfl⟩;have hvA:=hv9.et eJ;have hxA:ao J pp x:=ao.et eJ hx9;have hyA:ao J pg y:=ao.et eJ hy9;have hglA:J gl=some (.lst (gs.map V.ref)):=eJ _ _ hgl9 (λ_ z=>by cases z);have hggA:Paired (ao J) gs us:=iK (λ_ _ h=>ao.et eJ h) hgg9;clear eJ hv9 hx9 hy9 hgl9 hgg9 hpp9 hcl9 hbad tb9 k19;walk_at"";refine cb (ag.of hglA) ?_;refine forL (xs:=gs.map V.ref) (λi σ H'=>(Et J H'/\Tbs K H')/\∃k2,σ=[some (.ref a),some (.ref hh),some (.ref pp),some (.ref pg),some (.int F),some (.int at'),some (.ref cl),some (.ref gl),some (.ref p7),k,k1,k2]) ⟨⟨(Ext.rfl' _).et,tJ⟩,_,rfl⟩ (λi σ H' _ h=>ag.of (h.1.1 _ _ hglA (λ_ z=>by cases z))) ?_ ?_
  ·rintro i w σ J' hu ⟨⟨eJ,tJ⟩,k2,rfl⟩;rw[Gd]at hu;obtain⟨g,hg,rfl⟩:=Gn.mp hu;obtain⟨c,hc,hpc⟩:=eZ hggA hg;have hgc:=hgt c (Gk hc);walk_at"";refine eo (fW (ao.et eJ hpc) (ao.et eJ hyA)) (oR (kx hgc.1 iy.okPl) qE hgc.2) (hvA.et eJ) ok dis tJ λJ1 j1 t1=>?_;walk_at"";refine dw ?_;refine rd_exb (aC ?_);have eJ:=eJ.trans j1;walk_at"";refine eo (fW (ao.et eJ hxA) (ao.et eJ hpc)) (oR (kx ix.okPl hgc.1) lQ hgc.2) (hvA.et eJ) ok dis t1 λJ2 j2 t2=>?_;walk_at"";refine dw ?_;refine rd_exb (aC ?_);have eJ:=eJ.trans j2;walk_at"";refine eo (ml (ao.et eJ hpc)) (oR (wY hgc.1) wI hgc.2) (hvA.et eJ) ok dis t2 λJ3 j3 t3=>?_;walk_at"";refine dw ?_;refine rd_exb (aC ?_);walk_at"";exact⟨⟨eJ.trans j3,t3⟩,_,rfl⟩
  rintro σ J' ⟨⟨eJ,tJ'⟩,k2,rfl⟩;have hvB:=hvA.et eJ;have hxB:ao J' pp x:=ao.et eJ hxA;have hyB:ao J' pg y:=ao.et eJ hyA;clear eJ hvA hxA hyA hglA hggA hgt tJ;obtain⟨_,r',hve,k1B,_⟩:=id hvB;cases hve;walk_at"";refine aB (aj.of k1B) (v:=.int m) rfl ?_;walk_at"";refine aw λq1 J1 j1 g1 _=>?_;walk_at"";refine aB (aj.of (j1 _ _ k1B)) (v:=.int m) rfl ?_;walk_at"";refine aw λq2 J2 j2 g2 _=>?_;have j12:=j1.trans j2;have ilast:bx m (m-1,1000):=⟨by show(0:Int)<=m-1;omega,by show m-1<m;omega,by show(0:Int)<=1000;decide,by show(1000:Int)<=1000;decide⟩;walk_at"";refine eo (xs:=[(m-1,1000),(m-1,1000)]) (fW (j2 _ _ g1) g2) (mI (kx ilast ilast)) (hvB.ext j12) ok dis (tJ'.ext j12) λJ3 j3 t3=>?_;walk_at"";refine dw ?_;refine rd_exb (aC ?_);have eJ:=j12.et.trans j3;walk_at"";refine eo (fW (ao.et eJ hxB) (ao.et eJ hyB)) (mI (kx ix iy)) (hvB.et eJ) ok dis t3 λJ4 j4 t4=>?_;have eJ:=eJ.trans j4;walk_at"";refine sI ?_;refine rd_exb (ay ?_);walk_at"";refine eo (ml (ao.et eJ hyB)) (mI (wY iy)) (hvB.et eJ) ok dis t4 λJ5 j5 t5=>?_;walk_at"";refine sI ?_;exact q _
abbrev Dq(K:F6)(mg:Str->Option Value)(x:Str)(st:Stmt):Prop:=∃(f:Addr) (fd:FuncData),mg x=some (.ref f)/\Fun K x x st f fd
def dq{K:F6}{h:Heap}{mg:Str->Option Value}(X:K.In h)(G:h.Ns mainGlobals mg){x:Str}{st:Stmt}{f:Addr}{od an:Option Addr}{sl:Array (Option Value)}{oc kV dc pm cd ct:Value}(a:PySem.W.nsIn K mainGlobals x=some (some (.ref f)))(l:K.lookup f=some ⟨oc,od,.func (PySem.W.fnOf x x (f7 st) (dQ st) (aJ st) .none kV dc pm an cd ct),sl⟩)(c:PySem.W.codeIn K cd x=true)(k:PySem.W.keepIn K (.ref f)=true):Dq K mg x st:=⟨f,_,PySem.W.mg_of X G a,w9 (st:=st) l c k⟩
abbrev bd(x:Str)(st:Stmt)(us:List Value)(r:List (Str×Value)):Prop:=∀(kV doc pm:Value) (an:Option Addr) (cdv ct:Value),bindArgs (PySem.W.fnOf x x (f7 st) (dQ st) (aJ st) .none kV doc pm an cdv ct) ⟨us,[]⟩=pure r
def cI{K:F6}{mg:Str->Option Value}{x:Str}{st:Stmt}(p0:Str)(d:Dq K mg x st)(h:∀u0,bd x st [u0] [(p0,u0)]):Dfn K mg x st [p0]:=let ⟨f,fd,a,F⟩:=d;⟨f,fd,a,F,F.binds (ps:=[p0]) λ_ _ _ _ _ _ us hl=>match us,hl with|[_],_=>h _ _ _ _ _ _ _⟩
def bU{K:F6}{mg:Str->Option Value}{x:Str}{st:Stmt}(p0 p1:Str)(d:Dq K mg x st)(h:∀u0 u1,bd x st [u0,u1] [(p0,u0),(p1,u1)]):Dfn K mg x st [p0,p1]:=let ⟨f,fd,a,F⟩:=d;⟨f,fd,a,F,F.binds (ps:=[p0,p1]) λ_ _ _ _ _ _ us hl=>match us,hl with|[_,_],_=>h _ _ _ _ _ _ _ _⟩
def eW{K:F6}{mg:Str->Option Value}{x:Str}{st:Stmt}(p0 p1 p2:Str)(d:Dq K mg x st)(h:∀u0 u1 u2,bd x st [u0,u1,u2] [(p0,u0),(p1,u1),(p2,u2)]):Dfn K mg x st [p0,p1,p2]:=let ⟨f,fd,a,F⟩:=d;⟨f,fd,a,F,F.binds (ps:=[p0,p1,p2]) λ_ _ _ _ _ _ us hl=>match us,hl with|[_,_,_],_=>h _ _ _ _ _ _ _ _ _⟩
def vH{K:F6}{mg:Str->Option Value}{x:Str}{st:Stmt}(p0 p1 p2 p3:Str)(d:Dq K mg x st)(h:∀u0 u1 u2 u3,bd x st [u0,u1,u2,u3] [(p0,u0),(p1,u1),(p2,u2),(p3,u3)]):Dfn K mg x st [p0,p1,p2,p3]:=let ⟨f,fd,a,F⟩:=d;⟨f,fd,a,F,F.binds (ps:=[p0,p1,p2,p3]) λ_ _ _ _ _ _ us hl=>match us,hl with|[_,_,_,_],_=>h _ _ _ _ _ _ _ _ _ _⟩
def all_mk{l:PySem.W.OpenLaw}{w:World}{K:F6}{h:Heap}{mg:Str->Option Value}{fa:Addr}(X:K.In h)(G:h.Ns mainGlobals mg)(hfa:mg "law" = some (.ref fa))
  (d0:Dq K mg "least_step" mj)
  (d1:Dq K mg "stair_of_marks" nY)
  (d2:Dq K mg "stair_of_room" lX)
  (d3:Dq K mg "next_level" nR)
  (d4:Dq K mg "reached" oJ)
  (d5:Dq K mg "told_pairs" mL)
  (d6:Dq K mg "add_arches" mS)
  (d7:Dq K mg "join_walks" qv)
  (d8:Dq K mg "ways_of_deed" nX)
  (d9:Dq K mg "beginning_table" mJ)
  (d10:Dq K mg "kept_table" pO)
  (d11:Dq K mg "is_sign" mh)
  (d12:Dq K mg "is_deed" qj)
  (d13:Dq K mg "is_whole" oE)
  (d14:Dq K mg "is_room" oO)
  (d15:Dq K mg "is_way" oa)
  (d16:Dq K mg "are_ways" mx)
  (d17:Dq K mg "is_house" m9)
  (d18:Dq K mg "refuse_no_house" mi)
  (d19:Dq K mg "kept" m8)
  (d20:Dq K mg "ways_by_room" lS)
  (d21:Dq K mg "is_open" pM)
  (d22:Dq K mg "raised_by" nM)
  (d23:Dq K mg "led_to" o6)
  (d24:Dq K mg "led_to_from" pq)
  (d25:Dq K mg "low_beside" pT)
  (d26:Dq K mg "low_levels" mU)
  (d27:Dq K mg "risen" nH)
  (d28:Dq K mg "all_levels" pN)
  (d29:Dq K mg "refuse_bad_places" nK)
  (d30:Dq K mg "forward" mn)
  (d31:Dq K mg "turned_way" ph)
  (d32:Dq K mg "turned_about" pV)
  (d33:Dq K mg "backward" pA)
  (d34:Dq K mg "walk_back" lT)
  (d35:Dq K mg "counts_by_room" my)
  (d36:Dq K mg "greatest_met" nV)
  (d37:Dq K mg "found_from" nW)
  (d38:Dq K mg "sought_walk" mw)
  (d39:Dq K mg "shortest" mr)
  (d40:Dq K mg "answer" mX)
  (d41:Dq K mg "_law_asked" ou)
  (d42:Dq K mg "_law_mixed" lU)
  (d43:Dq K mg "_law_draws" mf)
  (d44:Dq K mg "_law_cell" oA)
  (d45:Dq K mg "_law_places" nh)
  (d46:Dq K mg "_law_unlike" qb)
  (d47:Dq K mg "_law_drawn_house" mV)
  (d48:Dq K mg "_law_gate_house" m7)
  (d49:Dq K mg "_law_ring_house" m5)
  (d50:Dq K mg "_law_spare" pF)
  (d51:Dq K mg "_law_house" oh)
  {f52:Addr} {od52 an52:Option Addr} {sl52:Array (Option Value)} {oc52 kV52 dc52 pm52 cd52 ct52:Value} (a52:PySem.W.nsIn K mainGlobals "law" = some (some (.ref f52))) (l52:K.lookup f52=some ⟨oc52,od52,.func (PySem.W.fnOf "law" "law" (f7 fu) (dQ fu) (aJ fu) .none kV52 dc52 pm52 an52 cd52 ct52),sl52⟩) (c52:PySem.W.codeIn K cd52 "law" = true) (k52:PySem.W.keepIn K (.ref f52)=true)
  (z0:PySem.W.nsIn K mainGlobals "len" = some none)
  (z1:PySem.W.nsIn K mainGlobals "isinstance" = some none)
  (z2:PySem.W.nsIn K mainGlobals "tuple" = some none)
  (z3:PySem.W.nsIn K mainGlobals "list" = some none)
  (z4:PySem.W.nsIn K mainGlobals "int" = some none)
  (z5:PySem.W.nsIn K mainGlobals "bool" = some none)
  (z6:PySem.W.nsIn K mainGlobals "range" = some none)
  (z7:PySem.W.nsIn K mainGlobals "zip" = some none)
  (z8:PySem.W.nsIn K mainGlobals "max" = some none)
  (z9:PySem.W.nsIn K mainGlobals "min" = some none)
  (z10:PySem.W.nsIn K mainGlobals "abs" = some none)
  (z11:PySem.W.nsIn K mainGlobals "all" = some none)
  (z12:PySem.W.nsIn K mainGlobals "ValueError" = some none)
  (z13:PySem.W.nsIn K mainGlobals "enumerate" = some none)
  (z14:PySem.W.nsIn K mainGlobals "set" = some none)
  (z15:PySem.W.nsIn K mainGlobals "str" = some none)
  (z16:PySem.W.nsIn K mainGlobals "reversed" = some none)
  (z17:PySem.W.nsIn K mainGlobals "any" = some none)
  {t0:Tok} (v0:PySem.W.nsIn K mainGlobals "GREATEST_WAYS" = some (some (.int 100 t0)))
  {t1:Tok} (v1:PySem.W.nsIn K mainGlobals "GREATEST_MANY" = some (some (.int 12 t1)))
  {t2:Tok} (v2:PySem.W.nsIn K mainGlobals "GREATEST_NUMBER" = some (some (.int 1000 t2)))
  {e0:Addr} {q0_0 u0_0 q0_1 u0_1 q0_2 u0_2 q0_3 u0_3:Tok} {ep0:Nat} (x0:PySem.W.nsIn K mainGlobals "TURNED" = some (some (.ref e0))) (y0:K.lookup e0=some (iQ w [("up",q0_0,.str "down" u0_0),("down",q0_1,.str "up" u0_1),("stay",q0_2,.str "stay" u0_2),("zero",q0_3,.str "zero" u0_3)] ep0)) (w0:(e0 == sysModules)=false)
  {e1:Addr} {q1_0 u1_0 q1_1 u1_1 q1_2 u1_2 q1_3 u1_3:Tok} {ep1:Nat} (x1:PySem.W.nsIn K mainGlobals "RAISED" = some (some (.ref e1))) (y1:K.lookup e1=some (iQ w [("up",q1_0,.int (1) u1_0),("down",q1_1,.int (-1) u1_1),("stay",q1_2,.int (0) u1_2),("zero",q1_3,.int (0) u1_3)] ep1)) (w1:(e1 == sysModules)=false)
  (hxf:o4 K jz jA=true)
  : ∃fd:FuncData,(∀(s:Shared) (v:Value),BindsTo s fd ⟨[v],[]⟩ [("_law_script",v)])/\∀base:Heap,K.In base->base.Ns mainGlobals mg->(∀y∈(["kept","low_levels","risen"]:List Str),∃c T,Tab K mg base y c T)->FnOk l.prog w K mg base dm 13 fa fd ["_law_script"] (j7 K):=by
 have e:=hfa.symm.trans (PySem.W.mg_of X G a52);cases e;have T:Blt mg:=⟨PySem.W.mg_none_of X G z0,PySem.W.mg_none_of X G z1,PySem.W.mg_none_of X G z2,PySem.W.mg_none_of X G z3,PySem.W.mg_none_of X G z4,PySem.W.mg_none_of X G z5,PySem.W.mg_none_of X G z6,PySem.W.mg_none_of X G z7,PySem.W.mg_none_of X G z8,PySem.W.mg_none_of X G z9,PySem.W.mg_none_of X G z10,PySem.W.mg_none_of X G z11,PySem.W.mg_none_of X G z12,PySem.W.mg_none_of X G z13,PySem.W.mg_none_of X G z14,PySem.W.mg_none_of X G z15,PySem.W.mg_none_of X G z16,PySem.W.mg_none_of X G z17⟩;have D0:=cI "turn" d0 λ_ _ _ _ _ _ _=>rfl;have D1:=bU "marks" "base" d1 λ_ _ _ _ _ _ _ _=>rfl;have D2:=eW "levels" "base" "room" d2 λ_ _ _ _ _ _ _ _ _=>rfl;have D3:=bU "rises" "level" d3 λ_ _ _ _ _ _ _ _=>rfl;have D4:=bU "place" "beside" d4 λ_ _ _ _ _ _ _ _=>rfl;have D5:=bU "house" "choice" d5 λ_ _ _ _ _ _ _ _=>rfl;have D6:=eW "table" "ups" "downs" d6 λ_ _ _ _ _ _ _ _ _=>rfl;have D7:=cI "table" d7 λ_ _ _ _ _ _ _=>rfl;have D8:=bU "house" "deed" d8 λ_ _ _ _ _ _ _ _=>rfl;have D9:=cI "house" d9 λ_ _ _ _ _ _ _=>rfl;have D10:=cI "house" d10 λ_ _ _ _ _ _ _=>rfl;have D11:=cI "thing" d11 λ_ _ _ _ _ _ _=>rfl;have D12:=cI "thing" d12 λ_ _ _ _ _ _ _=>rfl;have D13:=cI "thing" d13 λ_ _ _ _ _ _ _=>rfl;have D14:=bU "thing" "many" d14 λ_ _ _ _ _ _ _ _=>rfl;have D15:=bU "thing" "many" d15 λ_ _ _ _ _ _ _ _=>rfl;have D16:=bU "thing" "many" d16 λ_ _ _ _ _ _ _ _=>rfl;have D17:=cI "thing" d17 λ_ _ _ _ _ _ _=>rfl;have D18:=cI "thing" d18 λ_ _ _ _ _ _ _=>rfl;have D19:=cI "house" d19 λ_ _ _ _ _ _ _=>rfl;have D20:=cI "house" d20 λ_ _ _ _ _ _ _=>rfl;have D21:=bU "way" "place" d21 λ_ _ _ _ _ _ _ _=>rfl;have D22:=cI "way" d22 λ_ _ _ _ _ _ _=>rfl;have D23:=bU "way" "place" d23 λ_ _ _ _ _ _ _ _=>rfl;have D24:=bU "ways" "place" d24 λ_ _ _ _ _ _ _ _=>rfl;have D25:=vH "ways" "keeps" "top" "here" d25 λ_ _ _ _ _ _ _ _ _ _=>rfl;have D26:=bU "house" "place" d26 λ_ _ _ _ _ _ _ _=>rfl;have D27:=cI "house" d27 λ_ _ _ _ _ _ _=>rfl;have D28:=bU "house" "place" d28 λ_ _ _ _ _ _ _ _=>rfl;have D29:=bU "house" "places" d29 λ_ _ _ _ _ _ _ _=>rfl;have D30:=bU "house" "place" d30 λ_ _ _ _ _ _ _ _=>rfl;have D31:=cI "way" d31 λ_ _ _ _ _ _ _=>rfl;have D32:=cI "house" d32 λ_ _ _ _ _ _ _=>rfl;have D33:=bU "house" "goal" d33 λ_ _ _ _ _ _ _ _=>rfl;have D34:=bU "found" "goal" d34 λ_ _ _ _ _ _ _ _=>rfl;have D35:=cI "house" d35 λ_ _ _ _ _ _ _=>rfl;have D36:=eW "house" "place" "goal" d36 λ_ _ _ _ _ _ _ _ _=>rfl;have D37:=eW "house" "place" "goal" d37 λ_ _ _ _ _ _ _ _ _=>rfl;have D38:=eW "house" "place" "goal" d38 λ_ _ _ _ _ _ _ _ _=>rfl;have D39:=eW "house" "place" "goal" d39 λ_ _ _ _ _ _ _ _ _=>rfl;have D40:=eW "house" "place" "goal" d40 λ_ _ _ _ _ _ _ _ _=>rfl;have D41:=eW "_law_house_here" "_law_place" "_law_goal" d41 λ_ _ _ _ _ _ _ _ _=>rfl;have D42:=eW "_law_cell_here" "_law_k" "_law_prime" d42 λ_ _ _ _ _ _ _ _ _=>rfl;have D43:=eW "_law_cell_here" "_law_widths" "_law_prime" d43 λ_ _ _ _ _ _ _ _ _=>rfl;have D44:=bU "_law_script" "_law_k" d44 λ_ _ _ _ _ _ _ _=>rfl;have D45:=vH "_law_script" "_law_house_here" "_law_k" "_law_prime" d45 λ_ _ _ _ _ _ _ _ _ _=>rfl;have D46:=cI "_law_ways" d46 λ_ _ _ _ _ _ _=>rfl;have D47:=bU "_law_cell_here" "_law_prime" d47 λ_ _ _ _ _ _ _ _=>rfl;have D48:=bU "_law_cell_here" "_law_prime" d48 λ_ _ _ _ _ _ _ _=>rfl;have D49:=bU "_law_cell_here" "_law_prime" d49 λ_ _ _ _ _ _ _ _=>rfl;have D50:=bU "_law_cell_here" "_law_width" d50 λ_ _ _ _ _ _ _ _=>rfl;have D51:=bU "_law_cell_here" "_law_prime" d51 λ_ _ _ _ _ _ _ _=>rfl;refine⟨PySem.W.fnOf "law" "law" (f7 fu) (dQ fu) (aJ fu) .none kV52 dc52 pm52 an52 cd52 ct52,λs v=>.of_eq rfl,λbase KB GB HB=>?_⟩;have XF:Xf K mg base jz jA:=Ef KB GB hxf;have C0:=@BJ l.prog w K mg base D0 T;have C1:=@Fi l.prog w K mg base D1 T C0;have C2:=@DQ l.prog w K mg base D2 T C1;have C3:=@DH l.prog w K mg base D3 T;have C4:=@BO l.prog w K mg base D4 T;have C5:=@B6 l.prog w K mg base D5 T;have C6:=@Dh l.prog w K mg base D6 T;have C7:=@AE l.prog w K mg base D7 T;have C8:=@yS l.prog w K mg base D8 T;have C9:=@FA l.prog w K mg base D9 T C8;have C10:=@Ay l.prog w K mg base D10 T C6 C7 C8 C9;have C11:=@zy l.prog w K mg base D11 T;have C12:=@CS l.prog w K mg base D12 T ⟨_,PySem.W.mg_of X G x0,xp y0 w0⟩;have C13:=@Ed l.prog w K mg base D13 T;have C14:=@Ah l.prog w K mg base D14 T C13;have C15:=@yW l.prog w K mg base D15 T C11 C12 C14;have C16:=@Ao l.prog w K mg base D16 T ⟨_,PySem.W.mg_of X G v0⟩ C15;have C17:=@Ew l.prog w K mg base D17 T ⟨_,PySem.W.mg_of X G v1⟩ C16 C13;have C18:CalX l.prog w K mg base "refuse_no_house" 6 ["thing"] (fC K):=Ai D18 T XF C17;obtain⟨c199,T199,B19⟩:=HB "kept" (by simp);have C19:Cal l.prog w K mg base "kept" 7 ["house"] (mG K):=Ct D19 T B19 C5 C10 C18.cal;have C20:=@Bq l.prog w K mg base D20 T;have C21:=@zr l.prog w K mg base D21 T;have C22:=@De l.prog w K mg base D22 T ⟨_,PySem.W.mg_of X G x1,zo y1 w1⟩;have C23:=@zw l.prog w K mg base D23 T C22;have C24:=@EJ l.prog w K mg base D24 T C21 C23;have C25:=@EN l.prog w K mg base D25 T C24;obtain⟨c269,T269,B26⟩:=HB "low_levels" (by simp);have C26:Cal l.prog w K mg base "low_levels" 8 ["house","place"] (pf K):=DA D26 T B26 C4 C19 C20 C25;obtain⟨c279,T279,B27⟩:=HB "risen" (by simp);have C27:Cal l.prog w K mg base "risen" 7 ["house"] (mK K):=zm D27 T B27 C5 C8 C10 C18.cal;have C28:=@Bf l.prog w K mg base D28 T C3 C26 C27;have C29:CalX l.prog w K mg base "refuse_bad_places" 3 ["house","places"] (lF K):=Bd D29 T ⟨_,PySem.W.mg_of X G v2⟩ XF C14;have C30:CalX l.prog w K mg base "forward" 10 ["house","place"] (lJ K):=zE D30 T C2 C28 C29 C18;have C31:=@Cm l.prog w K mg base D31 T ⟨_,PySem.W.mg_of X G x0,xp y0 w0⟩;have C32:CalX l.prog w K mg base "turned_about" 7 ["house"] (mP K):=BY D32 T C31 C18;have C33:CalX l.prog w K mg base "backward" 11 ["house","goal"] (oC K):=Fy D33 T C30 C32;have C34:=@Bj l.prog w K mg base D34 T;have C35:=@Az l.prog w K mg base D35 T;have C36:=@DY l.prog w K mg base D36 T;have C37:=@DE l.prog w K mg base D37 T C21 C23 C35 C36;have C38:=@DT l.prog w K mg base D38 T C34 C37;have C39:CalX l.prog w K mg base "shortest" 7 ["house","place","goal"] (n6 K):=Cy D39 T C38 C29 C18;have C40:CalX l.prog w K mg base "answer" 11 ["house","place","goal"] (qz K):=Cq D40 T C30 C39;have C41:=@EL l.prog w K mg base D41 T XF C33 C40;have C42:=@Fc l.prog w K mg base D42 T;have C43:=@FE l.prog w K mg base D43 T C42;have C44:=@yL l.prog w K mg base D44 T;have C45:=@BC l.prog w K mg base D45 T C43 C44;have C46:=@Dk l.prog w K mg base D46 T;have C47:=@yU l.prog w K mg base D47 T C46 C43;have C48:=@AW l.prog w K mg base D48 T C46 C43;have C49:=@EC l.prog w K mg base D49 T C43;have C50:=@CF l.prog w K mg base D50 T;have C51:=@zi l.prog w K mg base D51 T C47 C48 C49 C50 C43;exact Af (w9 (st:=fu) l52 c52 k52) T C41 C43 C44 C45 C51
def walk{l:PySem.W.OpenLaw}{q:Program}{loose:List Str}{XP:(Str->Option Value)->Heap->Prop}{YP:World->Heap->Prop}{d:DefRec}{K:Params->F6}(hn:l.most=some 63)(hdf:d.params.defaults=[])
  (hY:∀(w:World) (h:Heap),YP w h->(K w.params).In h) (hK:∀w:World,PySem.W.noTabs (K w.params)=true) (hrec:∀y∈(["kept","low_levels","risen"]:List Str),((PyProof.Rows.recsOf q).find? (λe=>e.name == y)).isSome=true) (htab:∀(w:World),∀y∈(["kept","low_levels","risen"]:List Str),(PySem.W.tabIn (K w.params) y).isSome=true) (hdis:∀w:World,dJ (K w.params))
  (F:∀(w:World) (mg:Str->Option Value) (fa:Addr) (h:Heap),(K w.params).In h->h.Ns mainGlobals mg->mg d.name=some (.ref fa) →
   ∃fd:FuncData,(∀(s:Shared) (u:Value),BindsTo s fd ⟨[u],[]⟩ [("_law_script",u)])/\∀base:Heap,(K w.params).In base->base.Ns mainGlobals mg->(∀y∈(["kept","low_levels","risen"]:List Str),∃c T,Tab (K w.params) mg base y c T)->FnOk l.prog w (K w.params) mg base dm 13 fa fd ["_law_script"] (j7 (K w.params))) :
  PySem.W.WalkO q loose XP YP l.row.toRowW d [] (λf vs=>PySem.call f vs):=
 L2.zQ (n:=63) (k:=13) (x:="_law_script") (sp:=λw=>j7 (K w.params)) ["kept","low_levels","risen"] hn (by decide) hdf ⟨rfl,by decide,by decide⟩ hY hK hrec htab F λw H a ns hl hT hS=>⟨a,ns,rfl,hS,hl,hT,hdis w,λ_=>rfl⟩
end My
end
open PySem PySem.W PyProof.Rows
set_option maxRecDepth 100000 in
set_option maxHeartbeats 0 in
theorem PySem.Challenge.cw_stairrooms_k40_refusals_of_papers_holds : PySem.Challenge.rw_stairrooms_k40_refusals_of_papers.Holds := by
 refine My.top ?_
 k_fill
 refine My.walk (l := PySem.Challenge.rw_stairrooms_k40_refusals_of_papers) rfl rfl (λw h Y => PySem.W.km_in_of Y) (λw => by kernel_rfl) ?R (λw => ?Tb) (λw => My.Ax (by kernel_rfl)) ?F
 case R => intro y hy; simp only [List.mem_cons, List.not_mem_nil, or_false] at hy; rcases hy with rfl|rfl|rfl <;> kernel_rfl
 case Tb => intro y hy; simp only [List.mem_cons, List.not_mem_nil, or_false] at hy; rcases hy with rfl|rfl|rfl <;> kernel_rfl
 case F =>
  intro w mg fa h KX G hmg;have q := @My.dq _ _ _ KX G
  refine' My.all_mk KX G hmg (q ?a0 ?l0 ?c0 ?k0) (q ?a1 ?l1 ?c1 ?k1) (q ?a2 ?l2 ?c2 ?k2) (q ?a3 ?l3 ?c3 ?k3) (q ?a4 ?l4 ?c4 ?k4) (q ?a5 ?l5 ?c5 ?k5) (q ?a6 ?l6 ?c6 ?k6) (q ?a7 ?l7 ?c7 ?k7) (q ?a8 ?l8 ?c8 ?k8) (q ?a9 ?l9 ?c9 ?k9) (q ?a10 ?l10 ?c10 ?k10) (q ?a11 ?l11 ?c11 ?k11) (q ?a12 ?l12 ?c12 ?k12) (q ?a13 ?l13 ?c13 ?k13) (q ?a14 ?l14 ?c14 ?k14) (q ?a15 ?l15 ?c15 ?k15) (q ?a16 ?l16 ?c16 ?k16) (q ?a17 ?l17 ?c17 ?k17) (q ?a18 ?l18 ?c18 ?k18) (q ?a19 ?l19 ?c19 ?k19) (q ?a20 ?l20 ?c20 ?k20) (q ?a21 ?l21 ?c21 ?k21) (q ?a22 ?l22 ?c22 ?k22) (q ?a23 ?l23 ?c23 ?k23) (q ?a24 ?l24 ?c24 ?k24) (q ?a25 ?l25 ?c25 ?k25) (q ?a26 ?l26 ?c26 ?k26) (q ?a27 ?l27 ?c27 ?k27) (q ?a28 ?l28 ?c28 ?k28) (q ?a29 ?l29 ?c29 ?k29) (q ?a30 ?l30 ?c30 ?k30) (q ?a31 ?l31 ?c31 ?k31) (q ?a32 ?l32 ?c32 ?k32) (q ?a33 ?l33 ?c33 ?k33) (q ?a34 ?l34 ?c34 ?k34) (q ?a35 ?l35 ?c35 ?k35) (q ?a36 ?l36 ?c36 ?k36) (q ?a37 ?l37 ?c37 ?k37) (q ?a38 ?l38 ?c38 ?k38) (q ?a39 ?l39 ?c39 ?k39) (q ?a40 ?l40 ?c40 ?k40) (q ?a41 ?l41 ?c41 ?k41) (q ?a42 ?l42 ?c42 ?k42) (q ?a43 ?l43 ?c43 ?k43) (q ?a44 ?l44 ?c44 ?k44) (q ?a45 ?l45 ?c45 ?k45) (q ?a46 ?l46 ?c46 ?k46) (q ?a47 ?l47 ?c47 ?k47) (q ?a48 ?l48 ?c48 ?k48) (q ?a49 ?l49 ?c49 ?k49) (q ?a50 ?l50 ?c50 ?k50) (q ?a51 ?l51 ?c51 ?k51) ?a52 ?l52 ?c52 ?k52 ?z0 ?z1 ?z2 ?z3 ?z4 ?z5 ?z6 ?z7 ?z8 ?z9 ?z10 ?z11 ?z12 ?z13 ?z14 ?z15 ?z16 ?z17 ?v0 ?v1 ?v2 ?x0 ?y0 ?w0 ?x1 ?y1 ?w1 ?hxf
  case a0|l0|c0|k0|a1|l1|c1|k1|a2|l2|c2|k2|a3|l3|c3|k3|a4|l4|c4|k4|a5|l5|c5|k5|a6|l6|c6|k6|a7|l7|c7|k7|a8|l8|c8|k8|a9|l9|c9|k9|a10|l10|c10|k10|a11|l11|c11|k11|a12|l12|c12|k12|a13|l13|c13|k13|a14|l14|c14|k14|a15|l15|c15|k15|a16|l16|c16|k16|a17|l17|c17|k17|a18|l18|c18|k18|a19|l19|c19|k19|a20|l20|c20|k20|a21|l21|c21|k21|a22|l22|c22|k22|a23|l23|c23|k23|a24|l24|c24|k24|a25|l25|c25|k25|a26|l26|c26|k26|a27|l27|c27|k27|a28|l28|c28|k28|a29|l29|c29|k29|a30|l30|c30|k30|a31|l31|c31|k31|a32|l32|c32|k32|a33|l33|c33|k33|a34|l34|c34|k34|a35|l35|c35|k35|a36|l36|c36|k36|a37|l37|c37|k37|a38|l38|c38|k38|a39|l39|c39|k39|a40|l40|c40|k40|a41|l41|c41|k41|a42|l42|c42|k42|a43|l43|c43|k43|a44|l44|c44|k44|a45|l45|c45|k45|a46|l46|c46|k46|a47|l47|c47|k47|a48|l48|c48|k48|a49|l49|c49|k49|a50|l50|c50|k50|a51|l51|c51|k51|a52|l52|c52|k52|z0|z1|z2|z3|z4|z5|z6|z7|z8|z9|z10|z11|z12|z13|z14|z15|z16|z17|v0|v1|v2=>k_is
  (case x0 => k_is); (case y0 => k_is); (case w0 => first|rfl|k_is)
  (case x1 => k_is); (case y1 => k_is); (case w1 => first|rfl|k_is)
  (case hxf => first|kernel_rfl|k_is)
