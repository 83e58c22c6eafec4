import PyProof.Rows.All
import Wide.All
import OpenK.AllK
import Wide.FinOn
import Lean
import PyProof.EqAt
import PyProof.EqKinds
import PyProof.TupleCall
import KE.KLam
import PySem.Challenge.RW_stairrooms_k32_levels_refused
set_option Elab.async false
namespace PySem.W.Fast
def tw8945154638234634055:=0
def tw657753933873648679:=0
def tw5998420735010596240:=0
def tw9639566180308895252:=0
def tw8725328319200330482:=0
def tw9478813727029378433:=0
def tw4373642396805675364:=0
def tw16536064020914346064:=0
def tw11258306804293243132:=0
def tw14757225000569427560:=0
def tw317520914050522945:=0
def tw8325147438673079581:=0
def tw16040925991244642869:=0
def tw911810538002268367:=0
def tw16550187109870087183:=0
def tw17179734013377141832:=0
def tw7258929849126983957:=0
def tw8708482821940700748:=0
def tw6492568839464336172:=0
def tw9578026534446552097:=0
def tw4221310431163856405:=0
def tw16961248507648693333:=0
def tw6460737211137875664:=0
def tw15415030129712708594:=0
def tw10166892954511498249:=0
def tw2137201621936217668:=0
def tw14702557882293241901:=0
def tw9002392303285804385:=0
def tw4918694162171632466:=0
def tw13679643304169797691:=0
def tw10787819557663234410:=0
def tw6121026886529796221:=0
def tw9779106197386186623:=0
def tw3501889831259424984:=0
def tw17723765623042550390:=0
def tw17915051066750267265:=0
def tw17029066052626920852:=0
def tw11296645311156999791:=0
def tw3015604971527890583:=0
def tw14870940994311712039:=0
def tw8388858425438247444:=0
def tw6056548384089880543:=0
def tw2122511160286549640:=0
def tw55107133691585252:=0
def tw11029396596865941829:=0
def tw2801974123689400889:=0
def tw1004593339420490729:=0
def tw621812022307901172:=0
def tw9834661911540460081:=0
def tw5168400519034163868:=0
def tw12390782021942118942:=0
def tw8770029601138628478:=0
def tw8385567426930851361:=0
def tw15945904282836308387:=0
def tw11655376856063916228:=0
def tw447717403241242290:=0
def tw17405974757215459542:=0
def tw13055914441102849027:=0
def tw12664327836493813462:=0
def tw11646379141798419536:=0
def tw16176690743668362219:=0
def tw15732654264858244716:=0
def tw1465564398378206461:=0
def tw13580389790971816817:=0
def tw11971130579796114034:=0
def tw1057306937073154610:=0
def tw4992925186480290751:=0
def tw3436359320994789115:=0
def tw2904058922640873309:=0
def tw2308842233520690658:=0
def tw14876317631354250296:=0
def tw11304072722765767021:=0
def tw4801039527111802282:=0
def tw17002439396945247550:=0
def tw15170883547044141151:=0
def tw12678953225602555564:=0
def tw1059446635175154315:=0
def tw8938549127931359579:=0
def tw6692137819554114951:=0
def tw3975676623463710300:=0
def tw17644514534155135092:=0
def tw14832175709080873599:=0
def tw14560837491469231475:=0
def tw13587954947775276195:=0
def tw11560677996495128784:=0
def tw11469663846147530161:=0
def tw7393957277229836691:=0
def tw3121732170634265723:=0
def tw3093781508513788219:=0
def tw17949153669898374660:=0
def tw10154314827766144001:=0
def tw902582806634263858:=0
def tw7539763571100840771:=0
def tw705330452703051597:=0
def tw17690871460500525271:=0
def tw15269425654929456476:=0
def tw14109453767193502313:=0
def tw13752025206567590305:=0
def tw12650994420537281789:=0
def tw11735653163353574974:=0
def tw8562296191053873827:=0
def tw439055297870408345:=0
def tw2648121624305032702:=0
def tw18066811921283522515:=0
def tw17259577006381911698:=0
def tw16622475990643145580:=0
def tw14800109303040266240:=0
def tw1304240117979556626:=0
def tw11858878876565515630:=0
def tw10150324261921262226:=0
def tw9248597171148506525:=0
def tw6780223440767404674:=0
def tw3299272117925849540:=0
def tw15963830579283735448:=0
def tw15856698116174445793:=0
def tw15414259988211055499:=0
def tw15104015179872336855:=0
def tw119775208399524090:=0
def tw11383850339681254435:=0
def tw10500720501580190231:=0
def tw931510637493425866:=0
def tw8568187914498332850:=0
def tw8186763794367992775:=0
def tw7750769465160294860:=0
def tw7627118995241731642:=0
def tw7341270039093922885:=0
def tw7134983793405793177:=0
def tw7115244209674446852:=0
def tw6393150591798677637:=0
def tw5140171473248983199:=0
def tw4337561567144917162:=0
def tw3941131271490555836:=0
def tw3866599564448483793:=0
def tw3797301031838899788:=0
def tw3104486758596841148:=0
def tw3096949930750721708:=0
def tw1901317781093569649:=0
def tw18133197322224867361:=0
def tw18032779900021213040:=0
def tw17990003072128590093:=0
def tw17729564300890611173:=0
def tw17652695096001567504:=0
def tw17628590533929976792:=0
def tw17571631200592639834:=0
def tw17438179399263098937:=0
def tw17065142239566038489:=0
def tw16964212798373946863:=0
def tw16924412733494049589:=0
def tw16477329177891185698:=0
def tw16306601271817509428:=0
def tw16283258727396688951:=0
def tw16245695487900975421:=0
def tw16221219022901355867:=0
def tw16080655234471338842:=0
def tw15729792075999087868:=0
def tw15565656631415577005:=0
def tw15186367229040268510:=0
def tw1488474676173749703:=0
def tw14836224472968703893:=0
def tw14793259975867257014:=0
def tw14775263502782431712:=0
def tw14670137783204244808:=0
def tw14221475358252599964:=0
def tw14025392896863203041:=0
def tw13135487405686255751:=0
def tw12357872333080808881:=0
def tw11787554532782738252:=0
def tw11339562753883754242:=0
def tw11137535781475439334:=0
def tw10769681086646498438:=0
def tw1069010634818593453:=0
def tw10276969695076772373:=0
def tw976709547398631384:=0
def tw974001917477778970:=0
def tw8035931760809384120:=0
def tw762384175361060421:=0
def tw7387496920539170626:=0
def tw7175792842613744815:=0
def tw684117499851941213:=0
def tw6690677384477064843:=0
def tw5425565988235752197:=0
def tw4933930183700603765:=0
def tw3773624442522805073:=0
def tw3566807236516140644:=0
def tw3008007984704827758:=0
def tw2265299691495554755:=0
def tw18127141830633905074:=0
def tw17843839365795533554:=0
def tw1682181479755940848:=0
def tw15831574140416324556:=0
def tw1564093576101422265:=0
def tw1536147683505774889:=0
def tw13298203722689827917:=0
def tw119674054762100072:=0
def tw11788803944947964044:=0
def tw9539095207651657643:=0
def tw8487562230406468105:=0
def tw6704578965310311189:=0
def tw6406724726538629663:=0
def tw6169767553621521813:=0
def tw6130821448147606368:=0
def tw404968458719316295:=0
def tw2780415966309772251:=0
def tw17939888687896264705:=0
def tw17868647176945168147:=0
def tw17258839070269863901:=0
def tw16980547499210933930:=0
def tw16821967185522334815:=0
def tw15529604674929473973:=0
def tw14882510809304047780:=0
def tw1382559312744143635:=0
def tw10118012357411222232:=0
def tw10035081181641441020:=0
def tw847593159352496057:=0
def tw6178244272827954729:=0
def tw3855638733940352994:=0
def tw1921160878016633958:=0
def tw18324572440802094995:=0
def tw14931363111589739018:=0
def tw14585778381282314952:=0
def tw14292392306617517729:=0
def tw12261729195969336472:=0
def tw11950575282948044451:=0
def tw10602856759635532317:=0
def tw9456409991113330330:=0
def tw9337504207740955038:=0
def tw8783073200307453229:=0
def tw8147721191793257292:=0
def tw8143298780573084396:=0
def tw800831887125934919:=0
def tw7980446502605500991:=0
def tw7863108119856694670:=0
def tw7693350481814642131:=0
def tw720755081136891062:=0
def tw7176572640101177836:=0
def tw7091575474642696731:=0
def tw6787905781562076304:=0
def tw6658185936689682968:=0
def tw6008010531490865865:=0
def tw5956051100702781606:=0
def tw590611807225418770:=0
def tw5442971307982108685:=0
def tw4997450903056089975:=0
def tw4977895861229493542:=0
def tw4769826392853288355:=0
def tw4746302684295054048:=0
def tw4672492687276399408:=0
def tw4532786408525356839:=0
def tw4307926830116509514:=0
def tw4264358708234735246:=0
def tw4202673366249849491:=0
def tw4169430970946328830:=0
def tw4090099033456441411:=0
def tw3823650005643028596:=0
def tw3760063030202703356:=0
def tw3711776433476670718:=0
def tw3427924564325372817:=0
def tw3415376743198261602:=0
def tw3220723017206680370:=0
def tw2773274263299585572:=0
def tw2696157109874119690:=0
def tw2313535712752964479:=0
def tw1980078614172103820:=0
def tw186238731260677993:=0
def tw18438895364323578133:=0
def tw18406689318668271181:=0
def tw17994301212061070119:=0
def tw17925923492730016652:=0
def tw1754243070517289278:=0
def tw17389396115470475288:=0
def tw17104333970416622323:=0
def tw16840622159041910090:=0
def tw16743919102785911483:=0
def tw16661212229125270991:=0
def tw16575673167688372683:=0
def tw16288524480538194225:=0
def tw15860708213811878519:=0
def tw15853727897521883275:=0
def tw15834326765199268030:=0
def tw15829181571673270705:=0
def tw15786528573266890262:=0
def tw15699315692412800413:=0
def tw15438610589593914328:=0
def tw15291515778787918541:=0
def tw15266785391687444539:=0
def tw14905269560852764671:=0
def tw14867130098325134529:=0
def tw14550693921475344484:=0
def tw14429984225472846677:=0
def tw14397947794671477899:=0
def tw14324394720252608761:=0
def tw14321144422957734134:=0
def tw13817142068744991791:=0
def tw13814131451427507189:=0
def tw13769731409856085057:=0
def tw13732165248360646341:=0
def tw13611136168108132581:=0
def tw13573848267779960677:=0
def tw13185835248587936794:=0
def tw12996499756298277263:=0
def tw12993445975515111361:=0
def tw12951820434879171755:=0
def tw12661369023874259431:=0
def tw12585790354688115527:=0
def tw12340981958623863397:=0
def tw12150866365501820893:=0
def tw11860059332995364445:=0
def tw11801650391622900179:=0
def tw11646202046503260017:=0
def tw11644868132232139897:=0
def tw11506949944486722818:=0
def tw10785498421680218836:=0
def tw10760031201136348398:=0
def tw1073818698688927204:=0
def tw10698238366409207256:=0
def tw10548826715568245312:=0
def tw10121643642846045468:=0
def tw10053539800044614232:=0
def tw10017577030591726147:=0
def tw9602979466950630956:=0
def tw9281662355237421915:=0
def tw912290570786946579:=0
def tw8863156965792605256:=0
def tw8777541643666118068:=0
def tw8722415481117505015:=0
def tw8572175281459272771:=0
def tw8444893750286939596:=0
def tw8125407811402774585:=0
def tw7956301941440062040:=0
def tw7552210041123771490:=0
def tw684210181549580303:=0
def tw6744984778823417519:=0
def tw6340304130596135008:=0
def tw6158425238486604569:=0
def tw5920227957080817638:=0
def tw5861546300858528307:=0
def tw5096499008420852698:=0
def tw477595423994022719:=0
def tw4138905410403352593:=0
def tw397431815971221653:=0
def tw3612554134655720397:=0
def tw343839832772155065:=0
def tw3410111710019587186:=0
def tw2217001567337907910:=0
def tw2093290091728733057:=0
def tw18334927389422029420:=0
def tw18159918767601648018:=0
def tw17831088686795452451:=0
def tw17795394019121955329:=0
def tw17716863462265859512:=0
def tw17694846207451314135:=0
def tw17581992280946622230:=0
def tw17423125552162021742:=0
def tw17405045028177135956:=0
def tw1703860651114587486:=0
def tw16669810761675009345:=0
def tw16503717402094505217:=0
def tw16219145617115034907:=0
def tw15659586693977764946:=0
def tw1488503510874697304:=0
def tw14849095896601040367:=0
def tw14415884991196681418:=0
def tw13921919005729749812:=0
def tw13809386149585982481:=0
def tw13746588304753895505:=0
def tw13501672401922333513:=0
def tw1218770742548784908:=0
def tw11282886037220131173:=0
def tw10143209758796899180:=0
def tw10063842601507977493:=0
def tw9936902662144560194:=0
def tw9930359092145622687:=0
def tw9802983821206752271:=0
def tw9642658117253805749:=0
def tw9591621326534694922:=0
def tw9590536906216307355:=0
def tw9119751986894142981:=0
def tw9085195453500331236:=0
def tw8755266905418455375:=0
def tw8612541938085228305:=0
def tw8604979696160575008:=0
def tw8576866337993464856:=0
def tw8420131052260663755:=0
def tw8377945894465552080:=0
def tw8340926499216404060:=0
def tw8338600121835276020:=0
def tw8089249423132065445:=0
def tw8047032804361144261:=0
def tw8039774922555296384:=0
def tw8037652997034423971:=0
def tw7904445426397662059:=0
def tw7897135418779063302:=0
def tw7875707854763748492:=0
def tw7848866751621661257:=0
def tw7259079589770855615:=0
def tw7240639191980452486:=0
def tw6942357351460751399:=0
def tw6878535200312667207:=0
def tw6743822951217308217:=0
def tw6429728187070590260:=0
def tw6181847661251503008:=0
def tw6034192224097964318:=0
def tw5994711959094706394:=0
def tw5950158449063615346:=0
def tw5824247625822886979:=0
def tw5821001088122574322:=0
def tw5819105399919881484:=0
def tw5766181095882713430:=0
def tw5717963241065829162:=0
def tw5708804837514111757:=0
def tw5581349078452510653:=0
def tw5533809914848052129:=0
def tw5430882940802126740:=0
def tw5350998768358884751:=0
def tw5295854211047901153:=0
def tw5213485622955226937:=0
def tw512557566824241540:=0
def tw5051596291613938045:=0
def tw5019332986140449700:=0
def tw5010354932100547165:=0
def tw4855646995411632120:=0
def tw4566636315000093172:=0
def tw4256779784062091372:=0
def tw3924725502804413793:=0
def tw3855077825024126993:=0
def tw3725507860900426652:=0
def tw3465091326942903629:=0
def tw3258786278723069861:=0
def tw3182821167057557991:=0
def tw3161077796674850459:=0
def tw3017139974649574989:=0
def tw2904033067149887106:=0
def tw2800321189394573348:=0
def tw2762985067018713519:=0
def tw2651210568008831048:=0
def tw2520694231678862498:=0
def tw2448602276733661166:=0
def tw2355404199824840798:=0
def tw2342838551658309370:=0
def tw2248526150547823735:=0
def tw2187499721780371684:=0
def tw2064118905727727203:=0
def tw2045930578084102194:=0
def tw1923656493189036919:=0
def tw1818218476948158209:=0
def tw18038851775406917655:=0
def tw17843169823834903998:=0
def tw17744632191838401134:=0
def tw17645572048654386869:=0
def tw1751447207448873119:=0
def tw17357414001117552268:=0
def tw17238752558760652402:=0
def tw17218974888202052536:=0
def tw16988158499489311127:=0
def tw1691102865124860179:=0
def tw16835956152608702361:=0
def tw16826725409987885975:=0
def tw16801269517542960672:=0
def tw16761591470956491853:=0
def tw16702496124019576060:=0
def tw16632375998614247822:=0
def tw16507177298177948937:=0
def tw16469943266984779137:=0
def tw16408023001231065620:=0
def tw16291882091215157828:=0
def tw16029895960380650870:=0
def tw1599608497217551579:=0
def tw156604256827902990:=0
def tw15641575440650329080:=0
def tw15641155157065175805:=0
def tw15319796435752655959:=0
def tw15003257448840769609:=0
def tw14977234088687162302:=0
def tw1492062709326496596:=0
def tw14650229311272632197:=0
def tw14322595565739780087:=0
def tw14318957944991924802:=0
def tw1428814744893504695:=0
def tw13956058649364723422:=0
def tw13841191037290658594:=0
def tw13820470126673855253:=0
def tw13788262537284159298:=0
def tw13786455662358949411:=0
def tw13385619842731796546:=0
def tw13140385074510843379:=0
def tw13021086612755893400:=0
def tw12878273097781070547:=0
def tw12679859039530741841:=0
def tw12632963454795662708:=0
def tw12441502783428931068:=0
def tw12296552071639831032:=0
def tw12170451868844119946:=0
def tw11985937269989024962:=0
def tw11892039915525360660:=0
def tw11846370373574997029:=0
def tw11701492411309977178:=0
def tw11687504721054253588:=0
def tw11665305186481523908:=0
def tw11612187849094769778:=0
def tw11605670760853518920:=0
def tw11365700717142005424:=0
def tw11364142691922409913:=0
def tw11362101791794971524:=0
def tw11166862733661299840:=0
def tw11040902395418374828:=0
def tw11030641428109492703:=0
def tw10846541316933110243:=0
def tw10424792985553544811:=0
def tw10263077061500514125:=0
def tw10095913671755900038:=0
end PySem.W.Fast
section
open PySem PySem.W PyProof.Rows
set_option maxRecDepth 100000 in
set_option maxHeartbeats 0 in
open_top My.top for PySem.Challenge.rw_stairrooms_k32_levels_refused
end
set_option linter.all false
set_option maxRecDepth 100000
set_option maxHeartbeats 4000000
open PySem renaming wpAny_bind→FA,wpAny_pure→FC,wpAny_setState_of→GA
open PySem.W renaming Frag→FD
open PySem.Heap renaming get?_push_of_some→FE,get?_push_size→FF,lt_size→FG
open List renaming length_map→FH,getElem?_eq_getElem→FI,getElem?_map→FJ,mem_cons_of_mem→FK,size_toArray→FN,mem_cons_self→FO,getElem?_eq_some_iff→FQ,mem_of_getElem?→FR,mem_singleton→FT,mem_cons→FX,map_append→FZ,length_append→F0,mem_append→F8,getElem?_append_right→F9,getElem?_append_left→Ga,getElem_mem→Gb,length_cons→Ge,take_length→Gf,not_mem_nil→Gi,all_eq_true→Gj,any_eq_true→Gk,mem_append_right→Gr,mem_append_left→Gs,replicate→Gu,getElem?_of_mem→Gx,lookup_cons→Gy,length_take→Gz,range→GC
open Array renaming length_toList→FL
open PySem.F renaming plainAttrs_list→FP,slot_list_append→F6,type_list_append→F7
open Option renaming map_eq_some_iff→FU
open Int renaming toNat_natCast→FV,toNat_of_nonneg→FW
open Bool renaming false_ne_true→FY,eq_iff_iff→Gm,and_eq_true→Gn,false_eq_true→Gv
open Nat renaming ne_of_lt→F4,le_refl→F5,lt_of_lt_of_le→Gg,le_trans→Gh,lt_or_ge→Gw
open PySem.Str renaming ofString→Gp
open Option.some renaming inj→Gq
abbrev GD:=@decide_eq_false
abbrev GF:=@decide_eq_true
abbrev GG:=@if_neg
abbrev GH:=@if_pos
noncomputable section
namespace L2
open PySem PySem.Spec PyProof.Rows
abbrev Key:=Sum Int Str
def gL:Key->Value->Bool
 | .inl k,v=>Value.isInt k v
 | .inr x,v=>Value.isStrOf x v
def Dp(w:World):Key->Int
 | .inl k=>hashInt k
 | .inr x=>hashStr w x
def ft:∀{k:Key} {v:Value},gL k v=true->(∃i t,k=Sum.inl i/\v=Value.int i t)\/(∃x t,k=Sum.inr x/\v=Value.str x t)
 | .inl i,v,h=>by obtain⟨t,e⟩:=Value.isInt_shape (k:=i) (v:=v) h;exact .inl ⟨i,t,rfl,e⟩
 | .inr x,v,h=>by obtain⟨t,e⟩:=Value.isStrOf_shape (x:=x) (v:=v) h;exact .inr ⟨x,t,rfl,e⟩
def AM(i:Int)(t:Tok):gL (.inl i) (.int i t)=true:=by simp[gL,Value.isInt]
def AN(x:Str)(t:Tok):gL (.inr x) (.str x t)=true:=by simp[gL,Value.isStrOf]
def A7(a b:Int):decide ((Sum.inl a:Key)=Sum.inl b)=(a == b):=by
 by_cases e:a=b
 ·subst e;simp
 ·have h:¬(Sum.inl a:Key)=Sum.inl b:=λq=>e (Sum.inl.inj q);rw[GD h];exact(beq_eq_false_iff_ne.mpr e).symm
def Ab(a b:Str):decide ((Sum.inr a:Key)=Sum.inr b)=decide (a=b):=by
 by_cases e:a=b
 ·subst e;simp
 ·have h:¬(Sum.inr a:Key)=Sum.inr b:=λq=>e (Sum.inr.inj q);rw[GD h,GD e]
def B4(a:Int)(b:Str):decide ((Sum.inl a:Key)=Sum.inr b)=false:=GD (λq=>nomatch q)
def yR(a:Str)(b:Int):decide ((Sum.inr a:Key)=Sum.inl b)=false:=GD (λq=>nomatch q)
def aO(prog:Program)(w:World):PySem.KeyKind prog w Key where
 is:=gL
 hash:=Dp w
 inj:=λv a b ha hb=>by
  rcases ft ha with⟨i,t,rfl,rfl⟩|⟨x,t,rfl,rfl⟩
  ·rcases ft hb with⟨j,u,rfl,e⟩|⟨y,u,rfl,e⟩
   ·injection e with e1 _;rw[e1]
   ·exact nomatch e
  ·rcases ft hb with⟨j,u,rfl,e⟩|⟨y,u,rfl,e⟩
   ·exact nomatch e
   ·injection e with e1 _;rw[e1]
 byValue:=λk v h=>by rcases ft h with⟨i,t,rfl,rfl⟩|⟨x,t,rfl,rfl⟩<;>rfl
 pyHash:=λhv h=>by
  rcases ft hv with⟨i,t,rfl,rfl⟩|⟨x,t,rfl,rfl⟩
  ·exact wpAny_pyHash_int h
  ·exact wpAny_pyHash_str h
 eqBool:=λhu hv h=>by
  rcases ft hu with⟨i,t,rfl,rfl⟩|⟨x,t,rfl,rfl⟩
  ·rcases ft hv with⟨j,u,rfl,rfl⟩|⟨y,u,rfl,rfl⟩
   ·rw[A7]at h;exact wpAny_eqBool_int h
   ·rw[B4]at h;exact SeqAt.EqAt.int_str i t y u _ _ _ _ h
  ·rcases ft hv with⟨j,u,rfl,rfl⟩|⟨y,u,rfl,rfl⟩
   ·rw[yR]at h;exact SeqAt.EqAt.str_int x t j u _ _ _ _ h
   ·rw[Ab]at h;exact wpAny_eqBool_str h
 «strs»:=λk x t v h=>by
  rcases ft h with⟨i,u,rfl,e⟩|⟨y,u,rfl,e⟩
  ·exact nomatch e
  ·injection e with e1 _
   subst e1;cases v<;>rfl
def CB(prog:Program)(w:World)(i:Int)(t:Tok):(aO prog w).is (.inl i) (.int i t)=true:=AM i t
def mz(prog:Program)(w:World)(x:Str)(t:Tok):(aO prog w).is (.inr x) (.str x t)=true:=AN x t
inductive V where
 | non|bl (b:Bool)|int (i:Int)|str (x:Str)|byt (b:Array UInt8)|flt (b:UInt64)|ref (a:Addr)|ty (n:String)
 deriving DecidableEq
def RelV:V->Value->Prop
 | .non,u=>u=Value.none
 | .bl b,u=>u=Value.bool b
 | .int i,u=>∃t,u=Value.int i t
 | .str x,u=>∃t,u=Value.str x t
 | .byt b,u=>∃t,u=Value.bytes b t
 | .flt b,u=>∃t,u=Value.float b t
 | .ref a,u=>u=Value.ref a
 | .ty n,u=>u=Value.type n
abbrev Vals:List V->List Value->Prop:=Paired RelV
def Vals.length{xs:List V}{us:List Value}(r:Vals xs us):xs.length=us.length:=Paired.length r
def Vals.get:∀{xs:List V} {us:List Value} {i:Nat} {x:V},Vals xs us->xs[i]?=some x->∃u,us[i]?=some u/\RelV x u
 | _,_,_,_,.nil,e=>by simp at e
 | _,_,0,_,.cons r _,e=>by simp at e;subst e;exact⟨_,rfl,r⟩
 | _,_,i+1,x,.cons _ t,e=>by obtain⟨u,h1,h2⟩:=Vals.get (i:=i) (x:=x) t (by simpa using e);exact⟨u,by simpa using h1,h2⟩
def Vals.set{x:V}{u:Value}(r:RelV x u):∀{xs:List V} {us:List Value} (i:Nat),Vals xs us->Vals (xs.set i x) (us.set i u)
 | _,_,_,.nil=>.nil
 | _,_,0,.cons _ t=>.cons r t
 | _,_,i+1,.cons q t=>.cons q (Vals.set r i t)
def Vals.append:∀{xs ys:List V} {us ws:List Value},Vals xs us->Vals ys ws->Vals (xs++ys) (us++ws)
 | _,_,_,_,.nil,s=>s
 | _,_,_,_,.cons r t,s=>.cons r (Vals.append t s)
def Vals.take:∀{xs:List V} {us:List Value} (n:Nat),Vals xs us->Vals (xs.take n) (us.take n)
 | _,_,0,_=>.nil
 | _,_,_+1,.nil=>.nil
 | _,_,n+1,.cons r t=>.cons r (Vals.take n t)
def Vals.drop:∀{xs:List V} {us:List Value} (n:Nat),Vals xs us->Vals (xs.drop n) (us.drop n)
 | _,_,0,r=>r
 | _,_,_+1,.nil=>.nil
 | _,_,n+1,.cons _ t=>Vals.drop n t
def fB:Option V->Option Value->Prop
 | some v,some u=>RelV v u
 | none,none=>True
 | _,_=>False
def KV{κ:Type}:List (κ×V)->List (κ×Value)->Prop:=Paired λ(p:κ×V) (q:κ×Value)=>p.1=q.1/\RelV p.2 q.2
def kV:Key->V
 | .inl i=>.int i
 | .inr x=>.str x
inductive HO where
 | lst (xs:List V)
 | tup (xs:List V)
 | dK (kvs:List (Key×V))|dT (kvs:List (List Key×V))
 | set (S:Int->Bool) (n:Nat)
 | ins (C dx:Addr) (fs:List (Str×V))
 | own (x:Addr)
 | xd (fs:List (Str×V))
 | met (f x:Addr)
 | rng (lo hi:Int)
 | frz (o:Obj) (u:HO)
 | tbl (ps:Array Value)
 | ext (φ:Heap->Prop)
abbrev Hp:=Addr->Option HO
def upd(H:Hp)(a:Addr)(o:HO):Hp:=λb=>if b=a then some o else H b
def aN{H:Hp}{a:Addr}{o:HO}:upd H a o a=some o:=by unfold upd;rw[GH rfl]
def aC{H:Hp}{a b:Addr}{o:HO}(h:b≠a):upd H a o b=H b:=by unfold upd;rw[GG h]
def fj{H:Hp}{a b:Addr}{o u:HO}(h:H a=some o)(h':H b=some u)(d:o≠u):a≠b:=by intro e;subst e;rw[h]at h';exact d (Gq h')
def cw{H:Hp}{a b:Addr}{o:HO}(h:H a=some o)(h':H b=none):a≠b:=by intro e;subst e;rw[h]at h';cases h'
section
variable (P:Program) (w:World)
def br(H:Hp)(h:Heap)(a:Addr):HO->Prop
 | .lst xs=>xs.length<=sizeLine/\∃(its:List Value) (n:Nat),Vals xs its/\h.get? a=some { cls:=.type "list",data:=.seq its.toArray n }
 | .tup xs=>xs.length<=sizeLine/\∃its:List Value,Vals xs its/\IsTup h a its.toArray
 | .dK kvs=>kvs.length<=sizeLine/\(a == sysModules)=false/\∃vs,KV kvs vs/\h.DictOf (aO P w) a vs
 | .dT kvs=>kvs.length<=sizeLine/\(a == sysModules)=false/\∃xs:List (List Key×Addr×Value),
   Paired (λ(p:List Key×V) (q:List Key×Addr×Value)=>p.1=q.1/\H q.2.1=some (.tup (p.1.map kV))/\RelV p.2 q.2.2) kvs xs ∧
   ∃o es ep,h.get? a=some o/\o.ExactDict/\o.data=.dict es ep/\es.toList=xs.map (entryOfKey (tupleKind (aO P w)))/\(xs.map (·.1)).Nodup
 | .set S n=>h.SetOf (intKind P w) a S n
 | .ins C dx fs=>H dx=some (.own a)/\fs.length<=1000/\dx≠a/\h.get? a=some (PySem.W.instObj C dx) ∧
   ∃mA,h.Ns1 dx mA/\(∀f,fB (fs.lookup f) (mA f))/\PySem.Within mA (fs.map (·.1))
 | .own _=>∃o,h.get? a=some o
 | .xd fs=>∃mA,h.Ns1 a mA/\∀f,fB (fs.lookup f) (mA f)
 | .rng lo hi=>∃t u v,h.get? a=some { cls:=.type "range",data:=.fields #[.int lo t,.int hi u,.int 1 v] }
 | .frz o u=>h.get? a=some o/\br H h a u
 | .tbl ps=>h.get? a=some { cls:=.none,data:=.fields ps }
 | .met f x=>h.get? a=some (PySem.W.methodObj (.ref f) (.ref x))
 | .ext φ=>φ h/\(∃o,h.get? a=some o)/\∀h1 h2:Heap,φ h1->(∀o,h1.get? a=some o->h2.get? a=some o)->φ h2
def bf(H:Hp)(h:Heap):Prop:=∀a o,H a=some o->br P w H h a o
end
section
variable {P:Program} {w:World} {H H':Hp} {h h':Heap} {a:Addr} {o:HO}
def br.lt(x:br P w H h a o):a<h.objs.size:=by
 cases o with
 | lst xs=>obtain⟨_,_,_,_,e⟩:=x;exact FG e
 | tup xs=>obtain⟨_,_,_,p⟩:=x;exact p.lt
 | dK kvs=>obtain⟨_,_,_,_,o,_,_,e,_⟩:=x;exact FG e
 | dT kvs=>obtain⟨_,_,_,_,o,_,_,e,_⟩:=x;exact FG e
 | set S n=>obtain⟨o,_,_,_,e,_⟩:=x;exact FG e
 | ins C dx fs=>obtain⟨_,_,_,e,_⟩:=x;exact FG e
 | own y=>obtain⟨_,e⟩:=x;exact FG e
 | xd fs=>obtain⟨_,⟨_,_,_,e,_⟩,_⟩:=x;exact FG e
 | rng lo hi=>obtain⟨_,_,_,e⟩:=x;exact FG e
 | frz ob u=>obtain⟨e,_⟩:=x;exact FG e
 | tbl ps=>exact FG (show h.get? a=some _ from x)
 | met f y=>exact FG (show h.get? a=some _ from x)
 | ext φ=>obtain⟨_,⟨_,e⟩,_⟩:=x;exact FG e
def Paired.mapP{α β:Type}{F G:α->β->Prop}:∀{l₁:List α} {l₂:List β},Paired F l₁ l₂->(∀a b,F a b->G a b)->Paired G l₁ l₂
 | _,_,.nil,_=>.nil
 | _,_,.cons r t,f=>.cons (f _ _ r) (Paired.mapP t f)
def br.stay(x:br P w H h a o)(k:∀b u,(b=a\/H b=some (.own a))->h.get? b=some u->h'.get? b=some u)
  (ho:∀b,H b=some (.own a)->H' b=some (.own a)) (ht:∀b xs,H b=some (.tup xs)->H' b=some (.tup xs)):br P w H' h' a o:=by
 induction o with
 | lst xs=>obtain⟨z,its,n,r,e⟩:=x;exact⟨z,its,n,r,k _ _ (.inl rfl) e⟩
 | tup xs=>obtain⟨z,its,r,ob,e,c⟩:=x;exact⟨z,its,r,ob,k _ _ (.inl rfl) e,c⟩
 | dK kvs=>obtain⟨z,y,vs,r,ob,es,ep,e,c⟩:=x;exact⟨z,y,vs,r,ob,es,ep,k _ _ (.inl rfl) e,c⟩
 | dT kvs=>
  obtain⟨z,y,xs,r,ob,es,ep,e,c⟩:=x;exact⟨z,y,xs,Paired.mapP r λp q z=>⟨z.1,ht _ _ z.2.1,z.2.2⟩,ob,es,ep,k _ _ (.inl rfl) e,c⟩
 | set S n=>obtain⟨ob,es,ep,t,e,c⟩:=x;exact⟨ob,es,ep,t,k _ _ (.inl rfl) e,c⟩
 | ins C dx fs=>
  obtain⟨d,z,ne,e,mA,⟨od,es,ep,e2,c⟩,r⟩:=x;exact⟨ho _ d,z,ne,k _ _ (.inl rfl) e,mA,⟨od,es,ep,k _ _ (.inr d) e2,c⟩,r⟩
 | own y=>obtain⟨ob,e⟩:=x;exact⟨ob,k _ _ (.inl rfl) e⟩
 | xd fs=>obtain⟨mA,⟨od,es,ep,e,c⟩,r⟩:=x;exact⟨mA,⟨od,es,ep,k _ _ (.inl rfl) e,c⟩,r⟩
 | rng lo hi=>obtain⟨t,u,v,e⟩:=x;exact⟨t,u,v,k _ _ (.inl rfl) e⟩
 | frz ob u ih=>obtain⟨e,q⟩:=x;exact⟨k _ _ (.inl rfl) e,ih q⟩
 | tbl ps=>
  have e:h.get? a=some { cls:=.none,data:=.fields ps }:=x;show h'.get? a=some { cls:=.none,data:=.fields ps };exact k a _ (.inl rfl) e
 | met f y=>
  have e:h.get? a=some (PySem.W.methodObj (.ref f) (.ref y)):=x;show h'.get? a=some (PySem.W.methodObj (.ref f) (.ref y));exact k a _ (.inl rfl) e
 | ext φ=>obtain⟨p,⟨o,e⟩,st⟩:=x;exact⟨st _ _ p λo q=>k _ _ (.inl rfl) q,⟨o,k _ _ (.inl rfl) e⟩,st⟩
def bf.lt(x:bf P w H h)(e:H a=some o):a<h.objs.size:=(x a o e).lt
def bf.fresh(x:bf P w H h)(e:h.objs.size<=a):H a=none:=by
 cases q:H a with
 | none=>rfl
 | some u=>exact absurd (Gg (x.lt q) e) (Nat.lt_irrefl _)
def bf.kept(x:bf P w H h)(k:∀b u,h.get? b=some u->h'.get? b=some u):bf P w H h':=λa o e=>
 (x a o e).stay (λb u _ q=>k b u q) (λ_ q=>q) λ_ _ q=>q
def bf.laid(x:bf P w H h)(k:∀b u,h.get? b=some u->h'.get? b=some u)(hp:h.objs.size<=a)(new:br P w (upd H a o) h' a o):bf P w (upd H a o) h':=λb u e=>by
 have hn:=x.fresh hp;by_cases hb:b=a
 ·subst hb;rw[aN]at e;cases e;exact new
 ·rw[aC hb]at e;exact(x b u e).stay (λc v _ q=>k c v q) (λc q=>by rw[aC (cw q hn)];exact q) λc xs q=>by rw[aC (cw q hn)];exact q
end
def Rd(H:Hp)(a:Addr)(u:HO):Prop:=H a=some u\/∃o,H a=some (.frz o u)
def Rd.ok{P:Program}{w:World}{H:Hp}{h:Heap}{a:Addr}{u:HO}(r:Rd H a u)(x:bf P w H h):br P w H h a u:=by
 rcases r with r|⟨o,r⟩
 ·exact x a u r
 ·obtain⟨_,q⟩:=x a _ r;exact q
def jP:Option HO->Prop
 | some (.lst _)=>True
 | some (.dK _)=>True
 | some (.dT _)=>True
 | some (.set _ _)=>True
 | some (.ins _ _ _)=>True
 | some (.ext _)=>True
 | _=>False
section
variable {P:Program} {w:World} {H:Hp} {h h':Heap} {x e:Addr} {o':HO}
def bf.write(ok:bf P w H h)(mu:jP (H x))(he:e=x\/H e=some (.own x))(k:∀b u,b≠e->h.get? b=some u->h'.get? b=some u)(heo:∃u,h'.get? e=some u)
  (new:br P w (upd H x o') h' x o'):bf P w (upd H x o') h':=λb u q=>by
 have nown:∀c y,H c=some (.own y)->c≠x:=λc y r z=>by subst z;rw[r]at mu;exact mu
 have ntup:∀c xs,H c=some (.tup xs)->c≠x:=λc xs r z=>by subst z;rw[r]at mu;exact mu
 by_cases hb:b=x
 ·subst hb;rw[aN]at q;cases q;exact new
 ·rw[aC hb]at q;by_cases hbe:b=e
  ·have q':H b=some (.own x):=by
    rcases he with z|z
    ·exact absurd (hbe.trans z) hb
    ·rw[hbe];exact z
   rw[q]at q';cases q';obtain⟨v,hv⟩:=heo;exact⟨v,by rw[hbe];exact hv⟩
  ·refine(ok b u q).stay (λc v hc r=>k c v ?_ r) (λc r=>by rw[aC (nown c b r)];exact r) λc xs r=>by rw[aC (ntup c xs r)];exact r
   rcases hc with rfl|hc
   ·exact hbe
   ·rintro rfl;rcases he with z|z
    ·exact nown c b hc z
    ·rw[hc]at z;cases z;exact hb rfl
end
structure Un(fs ex:List Addr)(H H':Hp)(h h':Heap):Prop where
 keep:∀b o,h.get? b=some o->H b=none->b∉fs->b∉ex->h'.get? b=some o
 slot:∀b o,h.get? b=some o->H b=none->b∈fs->b∉ex->∃sl,h'.get? b=some { o with slots:=sl }
 free:∀b o,h.get? b=some o->H b=none->b∉ex->H' b=none
 there:∀b o,h.get? b=some o->b∉ex->∃o',h'.get? b=some o'
 tups:∀b xs,H b=some (.tup xs)->H' b=some (.tup xs)
 frzs:∀b o u,H b=some (.frz o u)->H' b=some (.frz o u)
 tbls:∀b ps,H b=some (.tbl ps)->∃more,H' b=some (.tbl (ps++more))
section
variable {fs fs' ex ex':List Addr} {H H1 H2:Hp} {h h1 h2 h':Heap} {a x e:Addr} {o:HO}
def Un.any(u:Un fs ex H H1 h h1){b:Addr}{ob:Obj}(q:h.get? b=some ob)(n:H b=none)(hx:b∉ex):∃sl,h1.get? b=some { ob with slots:=sl }:=by
 by_cases hb:b∈fs
 ·exact u.slot b ob q n hb hx
 ·exact⟨ob.slots,u.keep b ob q n hb hx⟩
def Un.kept(k:∀b u,h.get? b=some u->h'.get? b=some u):Un fs ex H H h h':=
 ⟨λb ob q _ _ _=>k b ob q,λb ob q _ _ _=>⟨ob.slots,k b ob q⟩,λ_ _ _ n _=>n,λb ob q _=>⟨ob,k b ob q⟩,λ_ _ q=>q,λ_ _ _ q=>q,λ_ ps q=>⟨#[],by rw[q];simp⟩⟩
def Un.refl:Un fs ex H H h h:=Un.kept λ_ _ q=>q
def Un.laid(k:∀b u,h.get? b=some u->h'.get? b=some u)(hp:h.objs.size<=a)(hn:H a=none):Un fs ex H (upd H a o) h h' where
 keep:=λb u q _ _ _=>k b u q
 slot:=λb u q _ _ _=>⟨u.slots,k b u q⟩
 free:=λb u q n _=>by rw[aC (F4 (Gg (FG q) hp))];exact n
 there:=λb u q _=>⟨u,k b u q⟩
 tups:=λb xs q=>by rw[aC (cw q hn)];exact q
 frzs:=λb u xs q=>by rw[aC (cw q hn)];exact q
 tbls:=λb ps q=>⟨#[],by rw[aC (cw q hn),q];simp⟩
def Un.write(mu:jP (H x))(he:e=x\/H e=some (.own x))(k:∀b u,b≠e->h.get? b=some u->h'.get? b=some u)(heo:∃u,h'.get? e=some u):Un fs ex H (upd H x o) h h':=by
 have hx:∀b,H b=none->b≠x:=λb n z=>by subst z;rw[n]at mu;exact mu
 have hb:∀b,H b=none->b≠e:=λb n z=>by
  subst z;rcases he with r|r
  ·exact hx b n r
  ·rw[n]at r;cases r
 have hm:∀b u,H b=some u->¬jP (some u)->b≠x:=λb u q nm z=>by subst z;rw[q]at mu;exact nm mu
 refine⟨λb u q n _ _=>k b u (hb b n) q,λb u q n _ _=>⟨u.slots,k b u (hb b n) q⟩,λb u q n _=>by rw[aC (hx b n)];exact n,λb u q _=>?_,
  λb xs q=>by rw[aC (hm b _ q λz=>z)];exact q,λb u xs q=>by rw[aC (hm b _ q λz=>z)];exact q,λb ps q=>⟨#[],by rw[aC (hm b _ q λz=>z),q];simp⟩⟩
 by_cases hbe:b=e
 ·subst hbe;exact heo
 ·exact⟨u,k b u hbe q⟩
end
def gg(h:Heap)(H:Hp):List Addr:=(GC h.objs.size).filter λa=>(H a).isSome
def fk(h:Heap)(H:Hp):Heap:=PySem.W.hideAll h (gg h H)
def Cy(h:Heap)(H:Hp):(fk h H).objs.size=h.objs.size:=PySem.W.hideAll_size _ _
def kG{h:Heap}{H:Hp}{b:Addr}{o:Obj}(e:h.get? b=some o)(n:H b=none):(fk h H).get? b=some o:=
 PySem.W.hideAll_get _ e λhm=>by have q:(H b).isSome=true:=(List.mem_filter.mp hm).2;rw[n]at q;simp at q
def zI{h:Heap}{H:Hp}{b:Addr}{o:Obj}(e:(fk h H).get? b=some o):h.get? b=some o/\H b=none:=by
 have e':h.get? b=some o:=PySem.W.of_hideAll (gg h H) e;refine⟨e',?_⟩;cases q:H b with
 | none=>rfl
 | some x=>
  have hm:b∈gg h H:=List.mem_filter.mpr ⟨List.mem_range.mpr (FG e'),by simp[q]⟩;have z:(fk h H).get? b=none:=PySem.W.hideAll_none (gg h H) hm;rw[z]at e;cases e
structure Mod(K:FD)(mg:Str->Option Value)(base:Heap):Prop where
 kin:K.In base
 glob:base.Ns mainGlobals mg
 blt:∃mb,base.Ns builtinsNs mb/\∀x:Str,x≠"__name__"->mb x=bootBuiltins x
 nolimit:base.NoLimit
structure Cx where
 prog:Program
 w:World
 K:FD
 mg:Str->Option Value
 base:Heap
 A:Around
 N:List Str
 s₀:Shared
 H₀:Hp
 env:Env
 outer:List Env
 stack:List Env
 ex:List Addr
 fn:Str->Bool
 calm:Bool
 pn:List (Addr×Obj)
 xe:Value->Shared->Prop
def aX(l:List Env):List Addr:=l.filterMap (·.frame)
abbrev Cx.fs(X:Cx):List Addr:=aX X.outer
def lB(sc:Scope)(x:Str):Prop:=sc.names.lookup x=some .local\/sc.names.lookup x=some .cell\/sc.names.lookup x=some .free
def Loc(sc:Scope)(x:Str):Prop:=sc.names.lookup x=some .local\/sc.names.lookup x=some .cell
def Look(env:Env)(h:Heap)(m:Str->Option Value)(x:Str)(u:Value):Prop:=
 (env.kindOf x=some .local/\m x=some u)\/((env.kindOf x=some .cell\/env.kindOf x=some .free)/\∃c,env.cells.lookup x=some c/\h.IsCell c (some u))
structure Cx.Ok(X:Cx):Prop where
 mod:Mod X.K X.mg X.base
 kind:X.env.scope.kind=.function
 glob:X.env.globals=mainGlobals
 blt:X.env.builtins=builtinsNs
 above:X.s₀.heap.objs.size<=X.env.locals
 inj:∀x y c,X.env.cells.lookup x=some c->X.env.cells.lookup y=some c->x=y
 has:∀x,(X.env.kindOf x=some .cell\/X.env.kindOf x=some .free)->∃c,X.env.cells.lookup x=some c
 cab:∀x c,X.fn x=true->X.env.cells.lookup x=some c->X.s₀.heap.objs.size<=c
 hd:X.calm=true->X.A.handled=none
 frames:X.A.frames=some X.stack
 stk:X.stack=X.outer\/(X.stack=X.env::X.outer/\X.env.frame=some X.env.locals)
 exf:∀b∈X.ex,b≠X.env.locals/\∀x c,X.env.cells.lookup x=some c->c≠b
 bs:∀b o,X.base.get? b=some o->X.s₀.heap.get? b=some o/\X.H₀ b=none
 bsz:X.base.objs.size<=X.s₀.heap.objs.size
 noex:∀b o,X.base.get? b=some o->b∉X.ex
 exfs:∀b∈X.ex,b∉X.fs
 funs:X.s₀.heap.FunFrames X.base X.outer
 frf:∀b∈X.fs,X.H₀ b=none
structure Inv(X:Cx)(pins:List (Addr×Obj))(σ:List (Option V))(H:Hp)(s:Shared):Prop where
 ok:X.Ok
 os:s.os=X.s₀.os
 bare:AllBare s.gens
 base:Un X.fs X.ex X.H₀ H X.s₀.heap s.heap
 loc:∃m,s.heap.Ns X.env.locals m/\∀(i:Nat) (x:Str) (v:V),X.N[i]?=some x->σ[i]?=some (some v)->lB X.env.scope x->∃u,RelV v u/\Look X.env s.heap m x u
 cell:∀x c,X.env.cells.lookup x=some c->∃v,s.heap.IsCell c v
 free:H X.env.locals=none
 freeC:∀x c,X.env.cells.lookup x=some c->H c=none
 pin:∀p∈X.pn++pins,s.heap.get? p.1=some p.2/\H p.1=none/\p.1≠X.env.locals/\p.1∉X.fs/\∀v,p.2.data≠.cell v
 hok:bf X.prog X.w H s.heap
 len:σ.length=X.N.length
section
variable {X:Cx} {pins:List (Addr×Obj)} {σ:List (Option V)} {H H':Hp} {s:Shared} {h':Heap}
def Cx.Ok.nofr(ok:X.Ok){b:Addr}{o:Obj}(e:X.base.get? b=some o):b∉X.fs:=λhb=>by have:=(ok.funs.mem hb).1;rw[e]at this;cases this
def Inv.bs(I:Inv X pins σ H s):∀b o,X.base.get? b=some o->s.heap.get? b=some o/\H b=none:=λb o e=>
 ⟨I.base.keep b o (I.ok.bs b o e).1 (I.ok.bs b o e).2 (I.ok.nofr e) (I.ok.noex b o e),I.base.free b o (I.ok.bs b o e).1 (I.ok.bs b o e).2 (I.ok.noex b o e)⟩
def Inv.bk(I:Inv X pins σ H s):∀b o,X.base.get? b=some o->s.heap.get? b=some o:=λb o e=>(I.bs b o e).1
def Inv.mod(I:Inv X pins σ H s):Mod X.K X.mg X.base:=I.ok.mod
def Inv.kIn(I:Inv X pins σ H s):X.K.In s.heap:=I.ok.mod.kin.keeps I.bk
def Inv.lt(I:Inv X pins σ H s):X.env.locals<s.heap.objs.size:=let ⟨_,hn,_⟩:=I.loc;hn.lt
def Inv.sz(I:Inv X pins σ H s):X.s₀.heap.objs.size<=s.heap.objs.size:=Gh I.ok.above (Nat.le_of_lt I.lt)
def Inv.nofs(I:Inv X pins σ H s){a:Addr}(h:s.heap.objs.size<=a):a∉X.fs:=λhb=>by obtain⟨_,o,ho,_⟩:=I.ok.funs.mem hb;exact absurd (Gg (FG ho) (Gh I.sz h)) (Nat.lt_irrefl _)
def Inv.cne(I:Inv X pins σ H s):∀x c,X.env.cells.lookup x=some c->c≠X.env.locals:=λx c e z=>by obtain⟨v,o,ho,hd⟩:=I.cell x c e;obtain⟨m,⟨o',es,ep,ho',hd',_⟩,_⟩:=I.loc;rw[z,ho']at ho;cases ho;rw[hd']at hd;cases hd
def Inv.funs(I:Inv X pins σ H s):s.heap.FunFrames X.base X.outer:=by
 have all:∀(l:List Env),(∀b∈aX l,b∈X.fs)->X.s₀.heap.FunFrames X.base l->s.heap.FunFrames X.base l:=by
  intro l;induction l with
  | nil=>intro _ _;trivial
  | cons env r ih=>
   intro hs hl;obtain⟨hk,⟨L,o,hf,hn,ho,hd⟩,hr⟩:=hl;have hL:L∈X.fs:=hs L (by unfold aX;rw[List.filterMap_cons,hf];exact FO);obtain⟨sl,e⟩:=I.base.slot L o ho (I.ok.frf L hL) hL λz=>I.ok.exfs L z hL;exact⟨hk,⟨L,_,hf,hn,e,hd⟩,ih (λb hb=>hs b (by unfold aX;rw[List.filterMap_cons,hf];exact FK _ hb)) hr⟩
 exact all X.outer (λ_ hb=>hb) I.ok.funs
def Inv.stack(I:Inv X pins σ H s):s.heap.FunFrames X.base X.stack:=by
 rcases I.ok.stk with e|⟨e,hf⟩
 ·rw[e];exact I.funs
 ·rw[e];obtain⟨m,hn,_⟩:=I.loc;refine .cons (by rw[I.ok.kind];decide) hf hn ?_ I.funs;exact Heap.get?_none_of_le (Gh I.ok.bsz I.ok.above)
def Inv.stkSub(I:Inv X pins σ H s):∀b∈aX X.stack,b∈X.env.locals::X.fs:=λb hb=>by
 rcases I.ok.stk with e|⟨e,hf⟩
 ·rw[e]at hb;exact FK _ hb
 ·rw[e]at hb;unfold aX at hb;rw[List.filterMap_cons,hf]at hb;exact hb
def Inv.stkFree(I:Inv X pins σ H s):∀b∈aX X.stack,H b=none:=λb hb=>by
 rcases FX.mp (I.stkSub b hb)with e|hb
 ·rw[e];exact I.free
 ·obtain⟨_,o,ho,_⟩:=I.ok.funs.mem hb;exact I.base.free b o ho (I.ok.frf b hb) λz=>I.ok.exfs b z hb
def Inv.step{g':Array GenState}{t':Nat}{d':Drawn}{ch:List Addr}(I:Inv X pins σ H s)
  (hch:∀b∈ch,(b∈X.ex\/X.s₀.heap.objs.size<=b)/\b≠X.env.locals/\(∀x c,X.env.cells.lookup x=some c->c≠b)/\∀p∈X.pn++pins,p.1≠b)
  (keep:∀b o,b≠X.env.locals->b∉X.fs->b∉ch->s.heap.get? b=some o->H b=none->h'.get? b=some o)
  (slot:∀b o,b≠X.env.locals->b∈X.fs->b∉ch->s.heap.get? b=some o->H b=none->∃sl,h'.get? b=some { o with slots:=sl }) (free:∀b o,b∉ch->s.heap.get? b=some o->H b=none->H' b=none)
  (there:∀b o,b∉ch->s.heap.get? b=some o->∃o',h'.get? b=some o')
  (tups:∀b xs,H b=some (.tup xs)->H' b=some (.tup xs)) (frzs:∀b o u,H b=some (.frz o u)->H' b=some (.frz o u)) (tbls:∀b ps,H b=some (.tbl ps)->∃more,H' b=some (.tbl (ps++more)))
  (ns:∀m,s.heap.Ns X.env.locals m->h'.Ns X.env.locals m) (hok:bf X.prog X.w H' h') (hg:AllBare g') :
  Inv X pins σ H' { s with heap:=h',gens:=g',drawn:=d',toks:=t' }:=by
 have neL:∀b o,X.s₀.heap.get? b=some o->b≠X.env.locals:=λb o e=>F4 (Gg (FG e) I.ok.above);have neC:∀b o,X.s₀.heap.get? b=some o->b∉X.ex->b∉ch:=λb o e hx hb=>by
  rcases(hch b hb).1 with z|z
  ·exact hx z
  ·exact absurd (Gg (FG e) z) (Nat.lt_irrefl _)
 have cellK:∀x c,X.env.cells.lookup x=some c->∀v,s.heap.IsCell c v->h'.IsCell c v:=λx c e v ⟨o,ho,hd⟩=>by
  have nch:c∉ch:=λz=>(hch c z).2.2.1 x c e rfl;by_cases hc:c∈X.fs
  ·obtain⟨sl,q⟩:=slot c o (I.cne x c e) hc nch ho (I.freeC x c e);exact⟨_,q,hd⟩
  ·exact⟨o,keep c o (I.cne x c e) hc nch ho (I.freeC x c e),hd⟩
 refine⟨I.ok,I.os,hg,⟨λb o e n hb hx=>?_,λb o e n hb hx=>?_,λb o e n hx=>?_,λb o e hx=>?_,λb xs e=>tups b xs (I.base.tups b xs e),λb o xs e=>frzs b o xs (I.base.frzs b o xs e),λb ps e=>?_⟩,?_,λx c e=>?_,?_,λx c e=>?_,λp hp=>?_,hok,I.len⟩
 ·exact keep b o (neL b o e) hb (neC b o e hx) (I.base.keep b o e n hb hx) (I.base.free b o e n hx)
 ·obtain⟨sl,e1⟩:=I.base.slot b o e n hb hx;obtain⟨sl',e2⟩:=slot b _ (neL b o e) hb (neC b o e hx) e1 (I.base.free b o e n hx);exact⟨sl',e2⟩
 ·obtain⟨o',e1⟩:=I.base.there b o e hx;exact free b o' (neC b o e hx) e1 (I.base.free b o e n hx)
 ·obtain⟨o',e1⟩:=I.base.there b o e hx;exact there b o' (neC b o e hx) e1
 ·obtain⟨m1,e1⟩:=I.base.tbls b ps e;obtain⟨m2,e2⟩:=tbls b _ e1;exact⟨m1++m2,by rw[e2,Array.append_assoc]⟩
 ·obtain⟨m,hn,hl⟩:=I.loc;refine⟨m,ns m hn,λi x v e1 e2 e3=>?_⟩;obtain⟨u,r,l⟩:=hl i x v e1 e2 e3;refine⟨u,r,?_⟩;rcases l with l|⟨k,c,e,z⟩
  ·exact .inl l
  ·exact .inr ⟨k,c,e,cellK x c e _ z⟩
 ·obtain⟨v,z⟩:=I.cell x c e;exact⟨v,cellK x c e v z⟩
 ·obtain⟨m,⟨o,_,_,ho,_⟩,_⟩:=I.loc;exact free _ o (λz=>(hch _ z).2.1 rfl) ho I.free
 ·obtain⟨v,o,ho,hd⟩:=I.cell x c e;exact free c o (λz=>(hch c z).2.2.1 x c e rfl) ho (I.freeC x c e)
 ·obtain⟨e,n,ne,nf,d⟩:=I.pin p hp;have nch:p.1∉ch:=λz=>(hch p.1 z).2.2.2 p hp rfl;exact⟨keep p.1 p.2 ne nf nch e n,free p.1 p.2 nch e n,ne,nf,d⟩
def Inv.un{t':Nat}(I:Inv X pins σ H s)(u:Un X.fs [] H H' s.heap h')(hok:bf X.prog X.w H' h'):Inv X pins σ H' { s with heap:=h',toks:=t' }:=by
 obtain⟨m,⟨o,es,ep,ho,r⟩,_⟩:=id I.loc;obtain⟨sl,hL⟩:=u.any ho I.free (by simp);exact I.step (g':=s.gens) (d':=s.drawn) (ch:=[]) (λ_ z=>nomatch z) (λb o _ hb _ e n=>u.keep b o e n hb (by simp)) (λb o _ hb _ e n=>u.slot b o e n hb (by simp)) (λb o _ e n=>u.free b o e n (by simp)) (λb o _ e=>u.there b o e (by simp)) u.tups u.frzs u.tbls (λm' hm=>by obtain⟨o',es',ep',ho',r'⟩:=hm;rw[ho]at ho';cases ho';exact⟨_,es',ep',hL,r'⟩) hok I.bare
def Inv.call{g':Array GenState}{t':Nat}{d':Drawn}{ch:List Addr}(I:Inv X pins σ H s)(u:Un (aX X.stack) ch H H' s.heap h')(hok:bf X.prog X.w H' h')(hg:AllBare g')
  (hch:∀b∈ch,(b∈X.ex\/X.s₀.heap.objs.size<=b)/\b≠X.env.locals/\(∀x c,X.env.cells.lookup x=some c->c≠b)/\∀p∈X.pn++pins,p.1≠b) :
  Inv X pins σ H' { s with heap:=h',gens:=g',drawn:=d',toks:=t' }:=by
 obtain⟨m,⟨o,es,ep,ho,r⟩,_⟩:=id I.loc;obtain⟨sl,hL⟩:=u.any ho I.free λz=>(hch _ z).2.1 rfl;exact I.step (ch:=ch) hch (λb o hL hb hc e n=>u.keep b o e n (λz=>(FX.mp (I.stkSub b z)).elim hL hb) hc) (λb o _ _ hc e n=>u.any e n hc) (λb o hc e n=>u.free b o e n hc) (λb o hc e=>u.there b o e hc) u.tups u.frzs u.tbls (λm' hm=>by obtain⟨o',es',ep',ho',r'⟩:=hm;rw[ho]at ho';cases ho';exact⟨_,es',ep',hL,r'⟩) hok hg
def Inv.turned{t':Nat}{it:Addr}(I:Inv X pins σ H s)(k:∀b o,b≠it->s.heap.get? b=some o->h'.get? b=some o)(hn:H it=none)(hL:it≠X.env.locals)
  (h1:it∈X.ex\/X.s₀.heap.objs.size<=it) (h2:∀x c,X.env.cells.lookup x=some c->c≠it) (h3:∀p∈X.pn++pins,p.1≠it):Inv X pins σ H { s with heap:=h',toks:=t' }:=by
 have nit:∀b u,H b=some u->b≠it:=λb u e z=>by rw[z,hn]at e;cases e
 refine I.step (g':=s.gens) (d':=s.drawn) (ch:=[it]) (λb hb=>?_) (λb o _ _ hc e _=>k b o (λz=>hc (by simp[z])) e) (λb o _ _ hc e _=>⟨o.slots,k b o (λz=>hc (by simp[z])) e⟩) (λ_ _ _ _ n=>n)
  (λb o hc e=>⟨o,k b o (λz=>hc (by simp[z])) e⟩) (λ_ _ e=>e) (λ_ _ _ e=>e) (λb ps e=>⟨#[],by rw[e];simp⟩) (λm hm=>?_) (λb u e=>?_) I.bare
 ·have e:b=it:=by simpa using hb
  subst e;exact⟨h1,hL,h2,h3⟩
 ·obtain⟨o,es,ep,ho,r⟩:=hm;exact⟨o,es,ep,k _ o (Ne.symm hL) ho,r⟩
 ·refine(I.hok b u e).stay (λc v hc q=>k c v ?_ q) (λ_ q=>q) λ_ _ q=>q;rcases hc with z|z
  ·rw[z];exact nit b u e
  ·exact nit c _ z
def Inv.tok(I:Inv X pins σ H s)(t:Nat):Inv X pins σ H { s with toks:=t }:=I.un (h':=s.heap) (t':=t) Un.refl I.hok
def Inv.kept{t':Nat}(I:Inv X pins σ H s)(k:∀b u,s.heap.get? b=some u->h'.get? b=some u):Inv X pins σ H { s with heap:=h',toks:=t' }:=I.un (Un.kept k) (I.hok.kept k)
def Inv.laid{a:Addr}{o:HO}{t':Nat}(I:Inv X pins σ H s)(k:∀b u,s.heap.get? b=some u->h'.get? b=some u)(hp:s.heap.objs.size<=a)(new:br X.prog X.w (upd H a o) h' a o):
  Inv X pins σ (upd H a o) { s with heap:=h',toks:=t' }:=I.un (Un.laid k hp (I.hok.fresh hp)) (I.hok.laid k hp new)
def Inv.write{x e:Addr}{o:HO}{t':Nat}(I:Inv X pins σ H s)(mu:jP (H x))(he:e=x\/H e=some (.own x))(k:∀b u,b≠e->s.heap.get? b=some u->h'.get? b=some u)(heo:∃u,h'.get? e=some u)
  (new:br X.prog X.w (upd H x o) h' x o):Inv X pins σ (upd H x o) { s with heap:=h',toks:=t' }:=I.un (Un.write mu he k heo) (I.hok.write mu he k heo new)
def Inv.pins_of{pins':List (Addr×Obj)}(I:Inv X pins σ H s)(h:∀p∈pins',s.heap.get? p.1=some p.2/\H p.1=none/\p.1≠X.env.locals/\p.1∉X.fs/\∀v,p.2.data≠.cell v):Inv X pins' σ H s:=
 ⟨I.ok,I.os,I.bare,I.base,I.loc,I.cell,I.free,I.freeC,λp hp=>(F8.mp hp).elim (λz=>I.pin p (Gs _ z)) (h p),I.hok,I.len⟩
def oj{N:List Str}(hN:N.Nodup){i j:Nat}{x:Str}(a:N[i]?=some x)(b:N[j]?=some x):i=j:=by obtain⟨h1,e1⟩:=FQ.mp a;obtain⟨h2,e2⟩:=FQ.mp b;exact(List.getElem_inj hN).mp (e1.trans e2.symm)
def wY{M:Model}{A:Around}{E:Value->Shared->Prop}{i:Nat}{x:Str}{v:V}{u:Value}{Q:Unit->Shared->Prop}(I:Inv X pins σ H s)(hN:X.N.Nodup)(hi:X.N[i]?=some x)(hx:Loc X.env.scope x)(r:RelV v u)
  (h:∀s',Inv X pins (σ.set i (some v)) H s'->(∃a,Heap.SameBut a s.heap s'.heap/\(a=X.env.locals\/X.env.cells.lookup x=some a))->Q () s') (hf:X.fn x=true\/X.env.scope.names.lookup x=some .local:=by first|exact .inl rfl|exact .inr rfl|assumption):wpAny M A (storeName X.env x u) Q E s:=by
 obtain⟨m,hn,hl⟩:=id I.loc;have hcls:(X.env.scope.kind == .class || (X.env.scope.kind == .module && X.env.locals != X.env.globals))=false:=by rw[I.ok.kind];rfl
 have hiσ:i<σ.length:=by rw[I.len];exact(FQ.mp hi).1
 have cne:=I.cne;have tracked:∀{a:Addr} {h':Heap},(∃o,s.heap.get? a=some o/\H a=none)->Heap.SameBut a s.heap h'->bf X.prog X.w H h':=λ{a h'} ha hs b ob e=>by
  obtain⟨_,_,hfree⟩:=ha;refine(I.hok b ob e).stay (λc w' hc q=>(hs.2 c ?_).trans q) (λ_ q=>q) λ_ _ q=>q;rintro rfl;rcases hc with rfl|hc
  ·rw[hfree]at e;cases e
  ·rw[hfree]at hc;cases hc
 rcases hx with hk|hk
 ·refine wpAny_storeName_local hk hn (λh' hn' hs=>?_) hcls;obtain⟨oL,_,_,hoL,_⟩:=id hn;refine h _ ⟨I.ok,I.os,I.bare,⟨λb o e n hb hx=>?_,λb o e n hb hx=>?_,I.base.free,λb o e hx=>?_,I.base.tups,I.base.frzs,I.base.tbls⟩,⟨_,hn',λj y v' e1 e2 e3=>?_⟩,λy c e=>?_,I.free,I.freeC,λp hp=>?_,tracked ⟨oL,hoL,I.free⟩ hs,by simpa using I.len⟩ ⟨_,hs,.inl rfl⟩
  ·exact(hs.2 b (F4 (Gg (FG e) I.ok.above))).trans (I.base.keep b o e n hb hx)
  ·obtain⟨sl,e1⟩:=I.base.slot b o e n hb hx;exact⟨sl,(hs.2 b (F4 (Gg (FG e) I.ok.above))).trans e1⟩
  ·obtain⟨o',e1⟩:=I.base.there b o e hx;exact⟨o',(hs.2 b (F4 (Gg (FG e) I.ok.above))).trans e1⟩
  ·by_cases hj:j=i
   ·subst hj;rw[hi]at e1;cases e1;rw[List.getElem?_set_self hiσ]at e2;cases e2;exact⟨u,r,.inl ⟨hk,by simp⟩⟩
   ·rw[List.getElem?_set_ne (Ne.symm hj)]at e2;obtain⟨u',r',q⟩:=hl j y v' e1 e2 e3;refine⟨u',r',?_⟩;rcases q with⟨k,e⟩|⟨k,c,e,z⟩
    ·refine .inl ⟨k,?_⟩;have:y≠x:=λe=>hj (oj hN e1 (e ▸ hi));simp[this,e]
    ·exact .inr ⟨k,c,e,z.sameBut hs (cne y c e)⟩
  ·obtain⟨w',z⟩:=I.cell y c e;exact⟨w',z.sameBut hs (cne y c e)⟩
  ·obtain⟨e,n,ne,nf,d⟩:=I.pin p hp;exact⟨(hs.2 p.1 ne).trans e,n,ne,nf,d⟩
 ·have hfn:X.fn x=true:=by
   rcases hf with z|z
   ·exact z
   ·rw[z]at hk;cases hk
  obtain⟨c,hc⟩:=I.ok.has x (.inl hk);obtain⟨w',z⟩:=I.cell x c hc;refine wpAny_storeName_cell I.ok.kind hk hc z (λh' hc' hs=>?_);obtain⟨oc,hoc,hocd⟩:=id z;refine h { s with heap:=h' } ⟨I.ok,I.os,I.bare,⟨λb o e n hb hx=>?_,λb o e n hb hx=>?_,I.base.free,λb o e hx=>?_,I.base.tups,I.base.frzs,I.base.tbls⟩,⟨m,hn.sameBut hs (Ne.symm (cne x c hc)),λj y v' e1 e2 e3=>?_⟩,λy c' e=>?_,I.free,I.freeC,λp hp=>?_,tracked ⟨oc,hoc,I.freeC x c hc⟩ hs,by simpa using I.len⟩ ⟨c,hs,.inr hc⟩
  ·exact(hs.2 b (F4 (Gg (FG e) (I.ok.cab x c hfn hc)))).trans (I.base.keep b o e n hb hx)
  ·obtain⟨sl,e1⟩:=I.base.slot b o e n hb hx;exact⟨sl,(hs.2 b (F4 (Gg (FG e) (I.ok.cab x c hfn hc)))).trans e1⟩
  ·obtain⟨o',e1⟩:=I.base.there b o e hx;exact⟨o',(hs.2 b (F4 (Gg (FG e) (I.ok.cab x c hfn hc)))).trans e1⟩
  ·by_cases hj:j=i
   ·subst hj;rw[hi]at e1;cases e1;rw[List.getElem?_set_self hiσ]at e2;cases e2;exact⟨u,r,.inr ⟨.inl hk,c,hc,hc'⟩⟩
   ·rw[List.getElem?_set_ne (Ne.symm hj)]at e2;obtain⟨u',r',q⟩:=hl j y v' e1 e2 e3;refine⟨u',r',?_⟩;rcases q with q|⟨k,c',e,z'⟩
    ·exact .inl q
    ·refine .inr ⟨k,c',e,z'.sameBut hs ?_⟩;rintro rfl;exact hj (oj hN e1 (I.ok.inj _ _ _ e hc ▸ hi))
  ·by_cases hcc:c'=c
   ·subst hcc;exact⟨_,hc'⟩
   ·obtain⟨w2,z2⟩:=I.cell y c' e;exact⟨w2,z2.sameBut hs hcc⟩
  ·obtain⟨e,n,ne,nf,d⟩:=I.pin p hp;refine⟨(hs.2 p.1 ?_).trans e,n,ne,nf,d⟩;intro q;rw[q,hoc]at e;have q':oc=p.2:=Gq e;exact d w' (by rw[←q'];exact hocd)
def iC{M:Model}{A:Around}{E:Value->Shared->Prop}{i:Nat}{x:Str}{v:V}{u:Value}{Q:Unit->Shared->Prop}(I:Inv X pins σ H s)(hN:X.N.Nodup)(hi:X.N[i]?=some x)(hx:Loc X.env.scope x)(r:RelV v u)
  (h:∀s',Inv X pins (σ.set i (some v)) H s'->Q () s') (hf:X.fn x=true\/X.env.scope.names.lookup x=some .local:=by first|exact .inl rfl|exact .inr rfl|assumption):wpAny M A (storeName X.env x u) Q E s:=
 wY I hN hi hx r (λs' I' _=>h s' I') hf
def Inv.call'{s':Shared}{ch:List Addr}(I:Inv X pins σ H s)(ho:s'.os=s.os)(u:Un (aX X.stack) ch H H' s.heap s'.heap)(hok:bf X.prog X.w H' s'.heap)(hg:AllBare s'.gens)
  (hch:∀b∈ch,(b∈X.ex\/X.s₀.heap.objs.size<=b)/\b≠X.env.locals/\(∀x c,X.env.cells.lookup x=some c->c≠b)/\∀p∈X.pn++pins,p.1≠b):Inv X pins σ H' s':=by
 obtain⟨h',g',d',t',o'⟩:=s';have e:o'=s.os:=ho;subst e;exact I.call (g':=g') (t':=t') (d':=d') u hok hg hch
end
abbrev XK:=Value->Option Addr->Hp->Prop
abbrev St:=List (Option V)
abbrev VK:=V->Hp->Prop
abbrev TE:=St->Hp->VK->Prop
abbrev TT:=St->Hp->(Bool->Hp->Prop)->Prop
abbrev TA:=St->Hp->(List V->Hp->Prop)->Prop
structure Ends where
 nx:St->Hp->Prop
 rt:VK
 bk:St->Hp->Prop:=λ_ _=>False
 ct:St->Hp->Prop:=λ_ _=>False
abbrev TS:=Ends->St->Hp->Prop
def EP(X:Cx)(pins:List (Addr×Obj))(σ:St)(Q:VK)(u:Value)(s':Shared):Prop:=∃v H',Inv X pins σ H' s'/\RelV v u/\Q v H'
def TP(X:Cx)(pins:List (Addr×Obj))(σ:St)(Q:Bool->Hp->Prop)(b:Bool)(s':Shared):Prop:=∃H',Inv X pins σ H' s'/\Q b H'
def AP(X:Cx)(pins:List (Addr×Obj))(σ:St)(Q:List V->Hp->Prop)(us:List Value)(s':Shared):Prop:=∃vs H',Inv X pins σ H' s'/\Vals vs us/\Q vs H'
def SP(X:Cx)(pins:List (Addr×Obj))(D:Ends)(f:Flow)(s':Shared):Prop:=
 match f with
 | .next=>∃σ' H',Inv X pins σ' H' s'/\D.nx σ' H'
 | .brk=>∃σ' H',Inv X pins σ' H' s'/\D.bk σ' H'
 | .cont=>∃σ' H',Inv X pins σ' H' s'/\D.ct σ' H'
 | .ret u=>∃v σ' H',Inv X pins σ' H' s'/\RelV v u/\D.rt v H'
def PE(X:Cx)(e:Expr)(t:TE):Prop:=
 ∀(pins:List (Addr×Obj)) (s:Shared) (σ:St) (H:Hp) (Q:VK),Inv X pins σ H s->t σ H Q->wpAny (model X.prog X.w) X.A (eval e X.env) (EP X pins σ Q) X.xe s
def PT(X:Cx)(e:Expr)(t:TT):Prop:=
 ∀(pins:List (Addr×Obj)) (s:Shared) (σ:St) (H:Hp) (Q:Bool->Hp->Prop),Inv X pins σ H s->t σ H Q->wpAny (model X.prog X.w) X.A (isTrue e X.env (eval e X.env)) (TP X pins σ Q) X.xe s
def PW(X:Cx)(e:Expr)(t:TT):Prop:=
 ∀(whole:Sem Value) (pins:List (Addr×Obj)) (s:Shared) (σ:St) (H:Hp) (Q:Bool->Hp->Prop),Inv X pins σ H s->t σ H Q->wpAny (model X.prog X.w) X.A (isTrue e X.env whole) (TP X pins σ Q) X.xe s
def PW.pt{X:Cx}{e:Expr}{t:TT}(h:PW X e t):PT X e t:=h _
def PA(X:Cx)(es:List Expr)(t:TA):Prop:=
 ∀(pos:Pos) (pins:List (Addr×Obj)) (s:Shared) (σ:St) (H:Hp) (Q:List V->Hp->Prop),Inv X pins σ H s->t σ H Q->wpAny (model X.prog X.w) X.A (spliced (backTo pos (starEach es X.env))) (AP X pins σ Q) X.xe s
def PS(X:Cx)(st:Stmt)(t:TS):Prop:=
 ∀(pins:List (Addr×Obj)) (s:Shared) (σ:St) (H:Hp) (D:Ends),Inv X pins σ H s->t D σ H->wpAny (model X.prog X.w) X.A (exec st X.env) (SP X pins D) X.xe s
def b6(X:Cx)(st:List Stmt)(t:TS):Prop:=
 ∀(pins:List (Addr×Obj)) (s:Shared) (σ:St) (H:Hp) (D:Ends),Inv X pins σ H s->t D σ H->wpAny (model X.prog X.w) X.A (execs st X.env) (SP X pins D) X.xe s
def ay{α:Type}{t:Sem α}{Q Q':α->Shared->Prop}{M:Model}{A:Around}{E:Value->Shared->Prop}{s:Shared}(h:wpAny M A t Q E s)(hQ:∀a s,Q a s->Q' a s):wpAny M A t Q' E s:=wpAny_mono h hQ λ_ _ x=>x
section
variable {X:Cx}
def bin{a b:Expr}{ta tb:TE}(ha:PE X a ta)(hb:PE X b tb){pins:List (Addr×Obj)}{s:Shared}{σ:St}{H:Hp}{R:V->V->Hp->Prop}(I:Inv X pins σ H s)(h:ta σ H λx H1=>tb σ H1 λy H2=>R x y H2)
  {α:Type} {Q:α->Shared->Prop} {f:Value->Value->Sem α}
  (hf:∀v u s2 x y H2,Inv X pins σ H2 s2->RelV x v->RelV y u->R x y H2->wpAny (model X.prog X.w) X.A (f v u) Q X.xe s2) :
  wpAny (model X.prog X.w) X.A (eval a X.env) (λv s₁=>wpAny (model X.prog X.w) X.A (eval b X.env) (λu s₂=>wpAny (model X.prog X.w) X.A (f v u) Q X.xe s₂) X.xe s₁) X.xe s:=by
 refine ay (ha pins s σ H _ I h) λv s1 ⟨x,H1,I1,r1,q1⟩=>?_;refine ay (hb pins s1 σ H1 _ I1 q1) λu s2 ⟨y,H2,I2,r2,q2⟩=>?_;exact hf v u s2 x y H2 I2 r1 r2 q2
def mS(i:Nat):TE:=λσ H Q=>∃v,σ[i]?=some (some v)/\Q v H
def tC(v:V):TE:=λ_ H Q=>Q v H
def zQ{i:Nat}{x:Str}{pos:Pos}(hN:X.N[i]?=some x)(hv:lB X.env.scope x)(hd:(x == ("__debug__":Str))=false:=by decide)(hcd:(x == ("__classdict__":Str))=false:=by decide):PE X (.Name x pos) (mS i):=by
 intro pins s σ H Q I h;obtain⟨v,e,h⟩:=h;obtain⟨m,hn,hl⟩:=I.loc;obtain⟨u,r,l⟩:=hl i x v hN e hv;have fin:EP X pins σ Q u s:=⟨v,H,I,r,h⟩;rcases l with⟨hk,hm⟩|⟨hk,c,hc,hcell⟩
 ·exact wpAny_Name (wpAny_loadName_local I.ok.kind hk hn hm fin) hd
 ·rcases hk with hk|hk
  ·exact wpAny_Name (wpAny_loadName_cell I.ok.kind hk hc hcell fin) hd
  ·exact wpAny_Name (wpAny_loadName_free I.ok.kind hk hc hcell fin hcd) hd
def af{i j pos}:PE X (.Constant (.int i) j pos) (tC (.int i)):=λ_ _ _ H _ I h=>wpAny_Constant_int ⟨.int i,H,I.tok _,⟨_,rfl⟩,h⟩
def bN{b j pos}:PE X (.Constant (.bool b) j pos) (tC (.bl b)):=λ_ _ _ H _ I h=>Constant_bool ⟨.bl b,H,I,rfl,h⟩
def jU{j pos}:PE X (.Constant .none j pos) (tC .non):=λ_ _ _ H _ I h=>Constant_none ⟨.non,H,I,rfl,h⟩
def az{x j pos}:PE X (.Constant (.str x) j pos) (tC (.str x)):=λ_ _ _ H _ I h=>Calls.Constant_str ⟨.str x,H,I.tok _,⟨_,rfl⟩,h⟩
def Gl(X:Cx)(x:Str):Prop:=X.env.kindOf x=some .globalImplicit
def f7{E:Value->Shared->Prop}{pins:List (Addr×Obj)}{s:Shared}{σ:St}{H:Hp}{x:Str}{u:Value}{pos:Pos}{Q:Value->Shared->Prop}(I:Inv X pins σ H s)(hg:Gl X x)(hm:X.mg x=some u)(h:Q u s)
  (hd:(x == ("__debug__":Str))=false:=by decide):wpAny (model X.prog X.w) X.A (eval (.Name x pos) X.env) Q E s:=
 Calls.Name_function_global I.ok.kind hg (Calls.loadGlobal_global (by rw[I.ok.glob];exact I.mod.glob.keeps I.bk) hm h) hd
def iq{E:Value->Shared->Prop}{pins:List (Addr×Obj)}{s:Shared}{σ:St}{H:Hp}{x:Str}{u:Value}{pos:Pos}{Q:Value->Shared->Prop}(I:Inv X pins σ H s)(hg:Gl X x)(hm:X.mg x=none)(hv:bootBuiltins x=some u)(h:Q u s)
  (hn:x≠"__name__":=by decide) (hd:(x == ("__debug__":Str))=false:=by decide):wpAny (model X.prog X.w) X.A (eval (.Name x pos) X.env) Q E s:=by
 obtain⟨mb,h1,h2⟩:=I.mod.blt;exact Calls.Name_function_global I.ok.kind hg (Calls.loadGlobal_builtin (by rw[I.ok.glob];exact I.mod.glob.keeps I.bk) hm (by rw[I.ok.blt];exact h1.keeps I.bk) ((h2 x hn).trans hv) h) hd
def cx{x:Str}{v:V}{u:Value}{pos:Pos}(hg:Gl X x)(hm:X.mg x=some u)(r:RelV v u)(hd:(x == ("__debug__":Str))=false:=by decide):PE X (.Name x pos) (tC v):=
 λ_ _ _ H _ I h=>f7 I hg hm ⟨v,H,I,r,h⟩ hd
def fu{x:Str}{v:V}{u:Value}{pos:Pos}(hg:Gl X x)(hm:X.mg x=none)(hv:bootBuiltins x=some u)(r:RelV v u)(hn:x≠"__name__":=by decide)(hd:(x == ("__debug__":Str))=false:=by decide):PE X (.Name x pos) (tC v):=
 λ_ _ _ H _ I h=>iq I hg hm hv ⟨v,H,I,r,h⟩ hn hd
variable {a b:Expr} {ta tb:TE} {pos:Pos}
def PC(X:Cx)(op:CmpOp)(a b:Expr)(t:TE):Prop:=
 ∀(pins:List (Addr×Obj)) (s:Shared) (σ:St) (H:Hp) (Q:VK),Inv X pins σ H s->t σ H Q →
  wpAny (model X.prog X.w) X.A (eval a X.env) (λv s₁=>wpAny (model X.prog X.w) X.A (eval b X.env) (λu s₂=>wpAny (model X.prog X.w) X.A (compareOp op v u) (EP X pins σ Q) X.xe s₂) X.xe s₁) X.xe s
def tB(t:TE):TT:=λσ H Q=>t σ H λx H1=>∃c,x=.bl c/\Q c H1
def Fh{op:CmpOp}{t:TE}(h:PC X op a b t)(h1:behindInMarks op b=false:=by first|exact nobehind _ (by decide) (by decide)|rfl):PE X (.Compare a [op] [b] pos) t:=λpins s σ H Q I hw=>wpAny_Compare1 (h pins s σ H Q I hw) h1
def zX{op:CmpOp}{t:TE}(h:PC X op a b t)(h1:behindInMarks op b=false:=by first|exact nobehind _ (by decide) (by decide)|rfl):PT X (.Compare a [op] [b] pos) (tB t):=by intro pins s σ H Q I hw;refine wpAny_isTrue_Compare1 (ay (h pins s σ H _ I hw) λv s1 h1=>ay h1 λu s2 h2=>ay h2 λc s3 ⟨x,H1,I1,r1,q1⟩=>?_) h1;obtain⟨d,rfl,q⟩:=q1;cases r1;exact wpAny_truthy_bool ⟨H1,I1,q⟩
def bE{e:Expr}{t:TE}(h:PE X e t)(he:∀whole,isTrue e X.env whole=(do let v ←whole;standAt e.pos;holding [v] (truthy v)):=by intro _;rfl):PT X e (tB t):=by intro pins s σ H Q I hw;refine isTrue_plain (ay (h pins s σ H _ I hw) λv s1 ⟨x,H1,I1,r1,q1⟩=>?_) (he _);obtain⟨d,rfl,q⟩:=q1;cases r1;exact wpAny_truthy_bool ⟨H1,I1,q⟩
variable {tA tB':TT} {rest:List Expr}
def rM(t u:TT):TT:=λσ H Q=>t σ H λc H1=>if c=true then u σ H1 Q else Q false H1
def rR(t u:TT):TT:=λσ H Q=>t σ H λc H1=>if c=true then Q true H1 else u σ H1 Q
def xQ(t:TT):TT:=λσ H Q=>t σ H λc H1=>Q (!c) H1
def yC(ha:PT X a tA):PW X (.BoolOp .And [a] pos) tA:=by
 intro wh pins s σ H Q I h;refine isTrue_and (ay (ha pins s σ H Q I h) λc s1 e=>?_);cases c with
 | true=>exact isTrue_and_nil e
 | false=>exact e
def eo(ha:PT X a tA):PW X (.BoolOp .Or [a] pos) tA:=by
 intro wh pins s σ H Q I h;refine isTrue_or (ay (ha pins s σ H Q I h) λc s1 e=>?_);cases c with
 | false=>exact isTrue_or_nil e
 | true=>exact e
def wc(ha:PT X a tA)(hb:PW X (.BoolOp .And (b::rest) pos) tB'):PW X (.BoolOp .And (a::b::rest) pos) (rM tA tB'):=by
 intro wh pins s σ H Q I h;refine isTrue_and (ay (ha pins s σ H _ I h) λc s1 ⟨H1,I1,q1⟩=>?_);cases c with
 | true=>exact hb wh pins s1 σ H1 Q I1 q1
 | false=>exact⟨H1,I1,q1⟩
def dn(ha:PT X a tA)(hb:PW X (.BoolOp .Or (b::rest) pos) tB'):PW X (.BoolOp .Or (a::b::rest) pos) (rR tA tB'):=by
 intro wh pins s σ H Q I h;refine isTrue_or (ay (ha pins s σ H _ I h) λc s1 ⟨H1,I1,q1⟩=>?_);cases c with
 | true=>exact⟨H1,I1,q1⟩
 | false=>exact hb wh pins s1 σ H1 Q I1 q1
def dh(ha:PT X a tA):PT X (.UnaryOp .Not a pos) (xQ tA):=by intro pins s σ H Q I h;exact isTrue_not (ha pins s σ H (λc H1=>Q (!c) H1) I h)
def tI(ta tb:TE):TE:=λσ H Q=>ta σ H λx H1=>∃c,x=.bl c/\if c=true then tb σ H1 Q else Q (.bl false) H1
def wZ(ta tb:TE):TE:=λσ H Q=>ta σ H λx H1=>∃c,x=.bl c/\if c=true then Q (.bl true) H1 else tb σ H1 Q
def sH(ta:TE):TE:=λσ H Q=>ta σ H λx H1=>∃c,x=.bl c/\Q (.bl (!c)) H1
def eY{op}{t:TE}(h:PE X a t):PE X (.BoolOp op [a] pos) t:=λpins s σ H Q I hw=>BoolOp_one (h pins s σ H Q I hw)
def eQ(ha:PE X a ta)(hb:PE X (.BoolOp .And (b::rest) pos) tb):PE X (.BoolOp .And (a::b::rest) pos) (tI ta tb):=by
 intro pins s σ H Q I h;refine BoolOp_and (ay (ha pins s σ H _ I h) λv s1 ⟨x,H1,I1,r1,q1⟩=>?_);obtain⟨c,rfl,q1⟩:=q1;cases r1;refine wpAny_truthy_bool ?_;cases c with
 | true=>exact hb pins s1 σ H1 Q I1 q1
 | false=>exact⟨.bl false,H1,I1,rfl,q1⟩
def vB(ha:PE X a ta)(hb:PE X (.BoolOp .Or (b::rest) pos) tb):PE X (.BoolOp .Or (a::b::rest) pos) (wZ ta tb):=by
 intro pins s σ H Q I h;refine BoolOp_or (ay (ha pins s σ H _ I h) λv s1 ⟨x,H1,I1,r1,q1⟩=>?_);obtain⟨c,rfl,q1⟩:=q1;cases r1;refine wpAny_truthy_bool ?_;cases c with
 | false=>exact hb pins s1 σ H1 Q I1 q1
 | true=>exact⟨.bl true,H1,I1,rfl,q1⟩
def zm(ha:PE X a ta):PE X (.UnaryOp .Not a pos) (sH ta):=by intro pins s σ H Q I h;refine UnaryOp_ (ay (ha pins s σ H _ I h) λv s1 ⟨x,H1,I1,r1,q1⟩=>?_);obtain⟨c,rfl,q1⟩:=q1;cases r1;exact not_of (wpAny_truthy_bool ⟨.bl (!c),H1,I1,rfl,q1⟩)
end
def ag(K:FD)(H:Hp)(a:Addr)(xs:List V):Prop:=
 Rd H a (.lst xs) ∨
  ∃(o:Obj) (its:Array Value) (n:Nat),K.lookup a=some o/\o.cls=.type "list"/\o.dict=none/\o.data=.seq its n/\its.size<=sizeLine/\Vals xs its.toList
def ao(K:FD)(H:Hp)(a:Addr)(xs:List V):Prop:=
 Rd H a (.tup xs) ∨
  ∃(o:Obj) (its:Array Value) (n:Nat),K.lookup a=some o/\o.cls=.type "tuple"/\o.data=.seq its n/\its.size<=sizeLine/\Vals xs its.toList
def Ew:Value->Option V
 | .none=>some .non
 | .bool b=>some (.bl b)
 | .int i _=>some (.int i)
 | .str x _=>some (.str x)
 | .bytes b _=>some (.byt b)
 | .float b _=>some (.flt b)
 | .ref a=>some (.ref a)
 | .type n=>some (.ty n)
 | _=>none
def RelV.abs{x:V}{u:Value}(r:RelV x u):Ew u=some x:=by
 cases x with
 | non=>cases r;rfl
 | bl _=>cases r;rfl
 | int _=>obtain⟨t,rfl⟩:=r;rfl
 | str _=>obtain⟨t,rfl⟩:=r;rfl
 | byt _=>obtain⟨t,rfl⟩:=r;rfl
 | flt _=>obtain⟨t,rfl⟩:=r;rfl
 | ref _=>cases r;rfl
 | ty _=>cases r;rfl
def RelV.inj{x y:V}{u:Value}(r:RelV x u)(q:RelV y u):x=y:=Gq (r.abs.symm.trans q.abs)
def Vals.inj:∀{xs ys:List V} {us:List Value},Vals xs us->Vals ys us->xs=ys
 | _,_,_,.nil,.nil=>rfl
 | _,_,_,.cons r t,.cons r' t'=>by rw[r.inj r',Vals.inj t t']
section
variable {X:Cx} {pins:List (Addr×Obj)} {σ:St} {H:Hp} {s:Shared} {a:Addr} {xs ys:List V}
def ag.of{K:FD}(h:H a=some (.lst xs)):ag K H a xs:=.inl (.inl h)
def ao.of{K:FD}(h:H a=some (.tup xs)):ao K H a xs:=.inl (.inl h)
def Inv.list(I:Inv X pins σ H s)(h:ag X.K H a xs):∃its:List Value,Vals xs its/\PlainL s.heap a its.toArray/\xs.length<=sizeLine:=by
 rcases h with h|⟨o,its,n,hk,hc,hd,hs,hz,r⟩
 ·obtain⟨z,its,n,r,e⟩:=h.ok I.hok;exact⟨its,r,⟨_,n,e,rfl,rfl,rfl⟩,z⟩
 ·refine⟨its.toList,r,⟨o,n,I.kIn a o hk,hc,hd,by simpa using hs⟩,?_⟩;have e:=r.length;simp only[FL]at e;omega
def Inv.tuple(I:Inv X pins σ H s)(h:ao X.K H a xs):∃its:List Value,Vals xs its/\IsTup s.heap a its.toArray/\xs.length<=sizeLine:=by
 rcases h with h|⟨o,its,n,hk,hc,hs,hz,r⟩
 ·obtain⟨z,its,r,p⟩:=h.ok I.hok;exact⟨its,r,p,z⟩
 ·refine⟨its.toList,r,⟨o,I.kIn a o hk,hc,n,by simpa using hs⟩,?_⟩;have e:=r.length;simp only[FL]at e;omega
def Inv.list_inj(I:Inv X pins σ H s)(h:ag X.K H a xs)(h':ag X.K H a ys):xs=ys:=by
 obtain⟨its,r,⟨o,n,e,_,_,d⟩,_⟩:=I.list h;obtain⟨its',r',⟨o',n',e',_,_,d'⟩,_⟩:=I.list h';rw[e]at e';cases e';rw[d]at d';injection d' with d1 _;have:its=its':=by simpa using congrArg Array.toList d1
 subst this;exact r.inj r'
def Inv.tuple_inj(I:Inv X pins σ H s)(h:ao X.K H a xs)(h':ao X.K H a ys):xs=ys:=by
 obtain⟨its,r,⟨o,e,_,n,d⟩,_⟩:=I.tuple h;obtain⟨its',r',⟨o',e',_,n',d'⟩,_⟩:=I.tuple h';rw[e]at e';cases e';rw[d]at d';injection d' with d1 _;have:its=its':=by simpa using congrArg Array.toList d1
 subst this;exact r.inj r'
end
abbrev Cx.wish(X:Cx)(E:Value->Shared->Prop):Cx:={ X with xe:=E }
abbrev Cx.nox(X:Cx):Cx:=X.wish λ_ _=>False
def Cx.Ok.wish{X:Cx}(ok:X.Ok)(E:Value->Shared->Prop):(X.wish E).Ok:=
 ⟨ok.mod,ok.kind,ok.glob,ok.blt,ok.above,ok.inj,ok.has,ok.cab,ok.hd,ok.frames,ok.stk,ok.exf,ok.bs,ok.bsz,ok.noex,ok.exfs,ok.funs,ok.frf⟩
def Cx.Ok.unwish{X:Cx}{E:Value->Shared->Prop}(ok:(X.wish E).Ok):X.Ok:=
 ⟨ok.mod,ok.kind,ok.glob,ok.blt,ok.above,ok.inj,ok.has,ok.cab,ok.hd,ok.frames,ok.stk,ok.exf,ok.bs,ok.bsz,ok.noex,ok.exfs,ok.funs,ok.frf⟩
section
variable {X:Cx} {pins:List (Addr×Obj)} {σ:St} {H:Hp} {s:Shared} {E:Value->Shared->Prop}
def Inv.wish(I:Inv X pins σ H s)(E:Value->Shared->Prop):Inv (X.wish E) pins σ H s:=⟨I.ok.wish E,I.os,I.bare,I.base,I.loc,I.cell,I.free,I.freeC,I.pin,I.hok,I.len⟩
def Inv.unwish(I:Inv (X.wish E) pins σ H s):Inv X pins σ H s:=⟨I.ok.unwish,I.os,I.bare,I.base,I.loc,I.cell,I.free,I.freeC,I.pin,I.hok,I.len⟩
def SP.unwish{D:Ends}{f:Flow}{s':Shared}(h:SP (X.wish E) pins D f s'):SP X pins D f s':=by
 cases f with
 | next=>obtain⟨σ',H',I,q⟩:=h;exact⟨σ',H',I.unwish,q⟩
 | brk=>obtain⟨σ',H',I,q⟩:=h;exact⟨σ',H',I.unwish,q⟩
 | cont=>obtain⟨σ',H',I,q⟩:=h;exact⟨σ',H',I.unwish,q⟩
 | ret u=>obtain⟨v,σ',H',I,r,q⟩:=h;exact⟨v,σ',H',I.unwish,r,q⟩
def b6.nox{st:List Stmt}{t:TS}(h:b6 X.nox st t):b6 X st t:=λpins s σ H D I hw=>
 wpAny_mono (h pins s σ H D (I.wish _) hw) (λ_ _ q=>q.unwish) λ_ _ z=>False.elim z
end
section
variable {X:Cx} {st:Stmt} {rest:List Stmt} {t u:TS} {e:Expr} {te:TE} {pos:Pos}
def sV:TS:=λD σ H=>D.nx σ H
def xt(t u:TS):TS:=λD σ H=>t { D with nx:=u D } σ H
def aU:b6 X [] sV:=λ_ _ σ H _ I h=>wpAny_execs_nil ⟨σ,H,I,h⟩
def ai(h1:PS X st t)(h2:b6 X rest u):b6 X (st::rest) (xt t u):=by
 intro pins s σ H D I h;refine wpAny_execs_cons (ay (h1 pins s σ H { D with nx:=u D } I h) λf s1 q=>?_);cases f with
 | next=>
  obtain⟨σ',H',I',q⟩:=q;exact h2 pins s1 σ' H' D I' q
 | ret v=>exact q
 | brk=>exact q
 | cont=>exact q
def aj(h1:PS X st t):b6 X [st] t:=by
 intro pins s σ H D I h;refine wpAny_execs_cons (ay (h1 pins s σ H D I h) λf s1 q=>?_);cases f with
 | next=>exact wpAny_execs_nil q
 | ret v=>exact q
 | brk=>exact q
 | cont=>exact q
def Inv.quiet{pins:List (Addr×Obj)}{σ:St}{H:Hp}{s:Shared}(I:Inv X pins σ H s):interactive X.env=false:=by simp[interactive,I.ok.kind]
def vC(te:TE):TS:=λD σ H=>te σ H λ_ H1=>D.nx σ H1
def aZ(he:PE X e te)(hs:swapsWith e none pos.line X.env=pure false:=by rfl):PS X (.Expr e pos) (vC te):=by intro pins s σ H D I h;exact wpAny_Expr_any (ay (he pins s σ H _ I h) λv s1 ⟨x,H1,I1,r1,q1⟩=>⟨σ,H1,I1,q1⟩) I.quiet hs
def u5(te:TE):TS:=λD σ H=>te σ H D.rt
def aG(he:PE X e te):PS X (.Return (some e) pos) (u5 te):=by intro pins s σ H D I h;exact wpAny_Return_some (ay (he pins s σ H _ I h) λv s1 ⟨x,H1,I1,r1,q1⟩=>⟨x,σ,H1,I1,r1,q1⟩)
def wy(c:TT)(t u:TS):TS:=λD σ H=>c σ H λb H1=>if b=true then t D σ H1 else u D σ H1
def bD{c:Expr}{a b:List Stmt}{tc:TT}(hc:PT X c tc)(ha:b6 X a t)(hb:b6 X b u):PS X (.If c a b pos) (wy tc t u):=by
 intro pins s σ H D I h;refine wpAny_If (ay (hc pins s σ H _ I h) λd s1 ⟨H1,I1,q1⟩=>?_);cases d with
 | true=>exact ha pins s1 σ H1 D I1 q1
 | false=>exact hb pins s1 σ H1 D I1 q1
def BD:TS:=λ_ _ _=>False
def o8:PS X st BD:=λ_ _ _ _ _ _ h=>h.elim
end
abbrev TG:=V->St->Hp->(St->Hp->Prop)->Prop
abbrev dM:=List V->St->Hp->(St->Hp->Prop)->Prop
def PG(X:Cx)(target:Expr)(t:TG):Prop:=
 ∀(pins:List (Addr×Obj)) (s:Shared) (σ:St) (H:Hp) (v:V) (u:Value) (Q:St->Hp->Prop),Inv X pins σ H s->RelV v u->t v σ H Q →
  wpAny (model X.prog X.w) X.A (assign target X.env u) (λ_ s'=>∃σ' H',Inv X pins σ' H' s'/\Q σ' H') X.xe s
def iz(X:Cx)(ts:List Expr)(t:dM):Prop:=
 ∀(pins:List (Addr×Obj)) (s:Shared) (σ:St) (H:Hp) (vs:List V) (us:List Value) (Q:St->Hp->Prop),Inv X pins σ H s->Vals vs us->t vs σ H Q →
  wpAny (model X.prog X.w) X.A (assignInOrder ((assignEach ts X.env).map (·.2)) us) (λ_ s'=>∃σ' H',Inv X pins σ' H' s'/\Q σ' H') X.xe s
abbrev lO:=V->V->V->Hp->(Hp->Prop)->Prop
def yD(X:Cx)(t:lO):Prop:=
 ∀(pins:List (Addr×Obj)) (s:Shared) (σ:St) (H:Hp) (o i v:V) (ov iv u:Value) (Q:Hp->Prop),Inv X pins σ H s->RelV o ov->RelV i iv->RelV v u->t o i v H Q →
  wpAny (model X.prog X.w) X.A (setItem ov iv u) (λ_ s'=>∃H',Inv X pins σ H' s'/\Q H') X.xe s
abbrev jk:=V->V->Hp->VK->Prop
def nQ(X:Cx)(op:Operator)(t:jk):Prop:=
 ∀(pins:List (Addr×Obj)) (s:Shared) (σ:St) (H:Hp) (x y:V) (v u:Value) (Q:VK),Inv X pins σ H s->RelV x v->RelV y u->t x y H Q →
  wpAny (model X.prog X.w) X.A (inplaceOp op v u) (EP X pins σ Q) X.xe s
section
variable {X:Cx} {pos:Pos}
def jJ(i:Nat):TG:=λv σ H Q=>Q (σ.set i (some v)) H
def aS{i:Nat}{x:Str}(hN:X.N.Nodup)(hi:X.N[i]?=some x)(hx:Loc X.env.scope x)(hf:X.fn x=true\/X.env.scope.names.lookup x=some .local:=by first|exact .inl rfl|exact .inr rfl|assumption):PG X (.Name x pos) (jJ i):=by intro pins s σ H v u Q I r h;exact wpAny_assign_Name (iC I hN hi hx r (λs' I'=>⟨_,H,I',h⟩) hf)
def sM:dM:=λvs σ H Q=>vs=[]/\Q σ H
def xh(t:TG)(u:dM):dM:=λvs σ H Q=>∃v r,vs=v::r/\t v σ H λσ' H'=>u r σ' H' Q
def iI:iz X [] sM:=by intro pins s σ H vs us Q I r h;obtain⟨e,h⟩:=h;subst e;cases r;exact assignInOrder_nil ⟨σ,H,I,h⟩
def dF{e:Expr}{es:List Expr}{t:TG}{u:dM}(h1:PG X e t)(h2:iz X es u)
  (hs:(assignEach (e::es) X.env).map (·.2)=assign e X.env::(assignEach es X.env).map (·.2):=by rfl):iz X (e::es) (xh t u):=by
 intro pins s σ H vs us Q I r h;obtain⟨v,vr,e1,h⟩:=h;subst e1;cases r with
 | cons r rr=>
  rw[hs];refine assignInOrder_cons (ay (h1 pins s σ H _ _ _ I r h) λ_ s1 ⟨σ1,H1,I1,q1⟩=>?_);exact h2 pins s1 σ1 H1 _ _ Q I1 rr q1
def mH(K:FD)(n:Nat)(t:dM):TG:=λv σ H Q=>∃a xs,v=.ref a/\ao K H a xs/\xs.length=n/\t xs σ H Q
def CQ{es:List Expr}{k:Nat}{t:dM}{n:Nat}(hc:X.calm=true)(h:iz X es t)
  (hn:(assignEach es X.env).length=n:=by rfl) (hst:(assignEach es X.env).findIdx? (·.1)=none:=by rfl):PG X (.Tuple es k pos) (mH X.K n t):=by
 intro pins s σ H v u Q I r hw;obtain⟨a,xs,e1,hq,hl,hw⟩:=hw;subst e1;cases r;obtain⟨its,rv,ht,hz⟩:=I.tuple hq;refine assign_Tuple_tuple (I.ok.hd hc) ht (by simp[hn,←hl,rv.length]) hst λh' hx=>?_;have I1:Inv X pins σ H { s with heap:=h' }:=I.kept (t':=s.toks) λb o e=>hx b o (F4 (FG e)) e;exact h pins _ σ H xs _ Q I1 (by simpa using rv) hw
def wB(to ti:TE)(t:lO):TG:=λv σ H Q=>to σ H λo H1=>ti σ H1 λi H2=>t o i v H2 λH3=>Q σ H3
def ji{o i:Expr}{to ti:TE}{t:lO}(ho:PE X o to)(hi:PE X i ti)(hs:yD X t)
  (ha:∀v,assign (.Subscript o i pos) X.env v=(do
   let ov ←holding [v] (eval o X.env);let iv ←holding [v,ov] (eval i X.env)
   standAt pos
   holding [v,ov,iv] (setItem ov iv v)
   release [v,ov,iv] []):=by intro _;rfl):PG X (.Subscript o i pos) (wB to ti t):=by
 intro pins s σ H v u Q I r h;rw[ha];refine FA (wpAny_holding (ay (ho pins s σ H _ I h) λov s1 ⟨x,H1,I1,r1,q1⟩=>?_));refine FA (wpAny_holding (ay (hi pins s1 σ H1 _ I1 q1) λiv s2 ⟨y,H2,I2,r2,q2⟩=>?_));refine FA (wpAny_standAt (FA (wpAny_holding (ay (hs pins s2 σ H2 x y v ov iv u _ I2 r1 r2 r q2) λ_ s3 ⟨H3,I3,q3⟩=>?_))));exact wpAny_release ⟨σ,H3,I3,q3⟩
def lF(te:TE)(g:TG):TS:=λD σ H=>te σ H λx H1=>g x σ H1 D.nx
def gY{tg e:Expr}{te:TE}{g:TG}(he:PE X e te)(hg:PG X tg g)(hs:swapsWithSole [tg] e pos.line X.env=pure false:=by rfl)(hw:swappedStores [tg] e X.env=pure none:=by rfl)
  (h1:(assignEach [tg] X.env).map (·.2)=[assign tg X.env]:=by rfl):PS X (.Assign [tg] e pos) (lF te g):=by
 intro pins s σ H D I h;refine wpAny_Assign_stores (ay (he pins s σ H _ I h) λv s1 ⟨x,H1,I1,r1,q1⟩=>?_) hs hw;rw[h1];exact ay (hg pins s1 σ H1 x v _ I1 r1 q1) λ_ s2 q=>q
def aM{i:Nat}{x:Str}{e:Expr}{te:TE}{pos':Pos}(hN:X.N.Nodup)(hi:X.N[i]?=some x)(hx:Loc X.env.scope x)(he:PE X e te)(hs:swapsWith e (some (.Name x pos')) pos.line X.env=pure false:=by rfl)(hf:X.fn x=true\/X.env.scope.names.lookup x=some .local:=by first|exact .inl rfl|exact .inr rfl|assumption):
  PS X (.Assign [.Name x pos'] e pos) (lF te (jJ i)):=by
 intro pins s σ H D I h;refine wpAny_Assign_Name (ay (he pins s σ H _ I h) λv s1 ⟨y,H1,I1,r1,q1⟩=>?_) hs;exact iC I1 hN hi hx r1 (λs2 I2=>⟨_,H1,I2,q1⟩) hf
def wO(i j:Nat)(ta:TA):TS:=λD σ H=>ta σ H λvs H1=>∃v w,vs=[v,w]/\D.nx ((σ.set i (some v)).set j (some w)) H1
def xR{i j:Nat}{x y:Str}{a b:Expr}{ta:TA}{px py pt:Pos}{kt k2 pt2}(hc:X.calm=true)(hN:X.N.Nodup)(hi:X.N[i]?=some x)(hj:X.N[j]?=some y)(hij:i≠j)
  (hx:X.env.scope.names.lookup x=some .local) (hy:X.env.scope.names.lookup y=some .local) (ha:PA X [a,b] ta)
  (hw:swappedStores [.Tuple [.Name x px,.Name y py] kt pt] (.Tuple [a,b] k2 pt2) X.env=pure (some [x,y]))
  (hs:swapsWithSole [.Tuple [.Name x px,.Name y py] kt pt] (.Tuple [a,b] k2 pt2) pos.line X.env=pure false:=by rfl) :
  PS X (.Assign [.Tuple [.Name x px,.Name y py] kt pt] (.Tuple [a,b] k2 pt2) pos) (wO i j ta):=by
 intro pins s σ H D I h;rw[exec_Assign_arm];refine FA (wpAny_standAt ?_);rw[hs];refine FA (FC ?_);rw[GG (by decide)];refine FA (Tuple_ (ay (ha _ pins s σ H _ I h) λus s1 ⟨vs,H1,I1,r1,q1⟩=>?_));obtain⟨v,w,e1,q1⟩:=q1;subst e1;obtain⟨u1,u2,rfl,rv,rw'⟩:∃u1 u2,us=[u1,u2]/\RelV v u1/\RelV w u2:=by
  cases r1 with
  | cons p q=>
   cases q with
   | cons p' q'=>
    cases q';exact⟨_,_,rfl,p,p'⟩
 refine wpAny_newObj_type ?_ (by show 2<=sizeLine;decide);have I2:Inv X pins σ H1 { s1 with heap:=s1.heap.push { cls:=.type "tuple",data:=.seq [u1,u2].toArray } }:=I1.kept (t':=s1.toks) λb o e=>FE _ e;rw[hw];refine FA (FC ?_);show wpAny (model X.prog X.w) X.A (do rule "assign.swapped-stores";let items ←unpackItems (.ref s1.heap.objs.size) 2 none;assignInOrder [λv=>bindName X.env y v,λv=>bindName X.env x v] items.reverse;pure Flow.next) _ _ _;refine FA (wpAny_rule (FA (unpackItems_tuple (items:=#[u1,u2]) (I.ok.hd hc) (IsTup.new s1.heap _) λh' hx'=>?_)));have I3:=I2.kept (h':=h') (t':=s1.toks) λb o e=>hx' b o (F4 (FG e)) e;show wpAny _ _ (assignInOrder [λv=>bindName X.env y v,λv=>bindName X.env x v] [u2,u1] >>= λ_=>pure Flow.next) _ _ _;refine FA (assignInOrder_cons (wpAny_bindName (iC I3 hN hj (.inl hy) rw' (λs2 I4=>?_) (.inr hy))));refine assignInOrder_cons (wpAny_bindName (iC I4 hN hi (.inl hx) rv (λs3 I5=>assignInOrder_nil (FC ?_)) (.inr hx)));rw[List.set_comm _ _ (Ne.symm hij)]at I5;exact⟨_,H1,I5,q1⟩
def sy(i:Nat)(te:TE)(ti:jk):TS:=λD σ H=>∃x,σ[i]?=some (some x)/\te σ H λy H1=>ti x y H1 λz H2=>D.nx (σ.set i (some z)) H2
def pY{i:Nat}{x:Str}{e:Expr}{te:TE}{op:Operator}{ti:jk}{pos':Pos}(hN:X.N.Nodup)(hi:X.N[i]?=some x)(hx:Loc X.env.scope x)(he:PE X e te)(ho:nQ X op ti)(hf:X.fn x=true\/X.env.scope.names.lookup x=some .local:=by first|exact .inl rfl|exact .inr rfl|assumption):
  PS X (.AugAssign (.Name x pos') op e pos) (sy i te ti):=by
 intro pins s σ H D I h;obtain⟨v,e1,h⟩:=h;obtain⟨m,hn,hl⟩:=I.loc;have vis:lB X.env.scope x:=by rcases hx with k|k;exact .inl k;exact .inr (.inl k)
 obtain⟨u,r,l⟩:=hl i x v hi e1 vis;refine wpAny_AugAssign_Name ?_;have go:wpAny (model X.prog X.w) X.A (eval e X.env) (λw s₂=>wpAny (model X.prog X.w) X.A (inplaceOp op u w) (λr s₃=>wpAny (model X.prog X.w) X.A (storeName X.env x r) (λ_=>SP X pins D .next) X.xe s₃) X.xe s₂) X.xe s:=by refine ay (he pins s σ H _ I h) λw s1 ⟨y,H1,I1,r1,q1⟩=>?_;refine ay (ho pins s1 σ H1 v y u w _ I1 r r1 q1) λz s2 ⟨zv,H2,I2,r2,q2⟩=>?_;exact iC I2 hN hi hx r2 (λs3 I3=>⟨_,H2,I3,q2⟩) hf
 rcases l with⟨hk,hm⟩|⟨hk,c,hc,hcell⟩
 ·exact wpAny_loadName_local I.ok.kind hk hn hm go
 ·rcases hk with hk|hk
  ·exact wpAny_loadName_cell I.ok.kind hk hc hcell go
  ·rcases hx with k|k
   ·have:X.env.scope.names.lookup x=some .free:=hk;rw[k]at this;cases this
   ·have:X.env.scope.names.lookup x=some .free:=hk;rw[k]at this;cases this
def oH(f:Int->Int->Int):jk:=λx y H Q=>∃i j,x=.int i/\y=.int j/\Q (.int (f i j)) H
def ug:nQ X .Add (oH λi j=>i+j):=by intro pins s σ H x y v u Q I r1 r2 h;obtain⟨i,j,e1,e2,q⟩:=h;subst e1;subst e2;obtain⟨t,rfl⟩:=r1;obtain⟨t',rfl⟩:=r2;exact iadd_int ⟨.int _,H,I.tok _,⟨_,rfl⟩,q⟩
def CT:nQ X .Sub (oH λi j=>i-j):=by intro pins s σ H x y v u Q I r1 r2 h;obtain⟨i,j,e1,e2,q⟩:=h;subst e1;subst e2;obtain⟨t,rfl⟩:=r1;obtain⟨t',rfl⟩:=r2;exact isub_int ⟨.int _,H,I.tok _,⟨_,rfl⟩,q⟩
def By(c:TT)(tb:TS):TS:=λD σ H=>∃W:Nat->St->Hp->Prop,(∃m,W m σ H)/\∀m σ H,W m σ H →
 c σ H λb H1=>if b=true then ∃N:St->Hp->Prop,(∀σ' H',N σ' H'->∃m',m'<m/\W m' σ' H')/\tb { D with nx:=N,ct:=N,bk:=D.nx } σ H1 else D.nx σ H1
def BF{c:Expr}{body:List Stmt}{tc:TT}{tb:TS}(hp:PassesOwn (model X.prog X.w) X.A X.env X.xe)(hc:PT X c tc)(hb:b6 X body tb):PS X (.While c body [] pos) (By tc tb):=by
 intro pins s σ H D I h;obtain⟨W,⟨m0,w0⟩,turn⟩:=h;refine wpAny_While (codeAny_whileLoop (λn s'=>∃σ' H',Inv X pins σ' H' s'/\W n σ' H') ?_ m0 ⟨σ,H,I,w0⟩);rintro n s1 ⟨σ1,H1,I1,w1⟩;refine wpAny_passesOwn hp (ay (hc pins s1 σ1 H1 _ I1 (turn n σ1 H1 w1)) λb s2 ⟨H2,I2,q2⟩=>?_);cases b with
 | true=>
  obtain⟨N,hN,q2⟩:=q2;rw[GH rfl];refine wpAny_passesOwn hp (ay (hb pins s2 σ1 H2 _ I2 q2) λf s3 q3=>?_);cases f with
  | next=>
   obtain⟨σ3,H3,I3,n3⟩:=q3;obtain⟨m',hm,w3⟩:=hN σ3 H3 n3;exact⟨m',hm,σ3,H3,I3,w3⟩
  | cont=>
   obtain⟨σ3,H3,I3,n3⟩:=q3;obtain⟨m',hm,w3⟩:=hN σ3 H3 n3;exact⟨m',hm,σ3,H3,I3,w3⟩
  | brk=>exact q3
  | ret v=>exact q3
 | false=>
  rw[GG FY];exact wpAny_execs_nil ⟨σ1,H2,I2,q2⟩
end
structure It where
 go:Nat->Hp->Prop
 yld:Nat->Hp->V->Hp->Prop
 stop:Nat->Hp->Prop
def di(X:Cx)(pins:List (Addr×Obj))(H:Hp)(b:Addr):Prop:=
 H b=none/\b≠X.env.locals/\b∉X.fs/\(b∈X.ex\/X.s₀.heap.objs.size<=b)/\(∀x c,X.env.cells.lookup x=some c->c≠b)/\∀p∈X.pn++pins,p.1≠b
def Inv.fpOk{X:Cx}{pins:List (Addr×Obj)}{σ:St}{H H':Hp}{s:Shared}{b:Addr}(I:Inv X pins σ H s)(hb:s.heap.objs.size<=b)(hn:H' b=none):di X pins H' b:=by
 refine⟨hn,Nat.ne_of_gt (Gg I.lt hb),I.nofs hb,.inr (Gh I.sz hb),λx c e z=>?_,λp hp z=>?_⟩
 ·obtain⟨v,q⟩:=I.cell x c e;exact absurd (Gg q.lt (by rw[z];exact hb)) (Nat.lt_irrefl _)
 ·exact absurd (Gg (FG (I.pin p hp).1) (by rw[z];exact hb)) (Nat.lt_irrefl _)
structure Turn(P:Program)(w:World)(K:FD)(tg:Expr)(J:It)(fp:List Addr)(it:Addr)(tn:Nat->Heap->Prop):Prop where
 mem:it∈fp
 obj:∀i h,tn i h->∀b∈fp,∃o,h.get? b=some o/\∀v,o.data≠.cell v
 keep:∀i h h',tn i h->(∀b∈fp,∀o,h.get? b=some o->h'.get? b=some o)->tn i h'
 item:∀(X:Cx),X.prog=P->X.w=w->X.K=K->X.calm=true->∀(i:Nat) (pins:List (Addr×Obj)) (s:Shared) (σ:St) (H:Hp) (E:Value->Shared->Prop),Inv X pins σ H s->(∀b∈fp,di X pins H b)->tn i s.heap->J.go i H →
  wpAny (model P w) X.A (pyNext (.ref it)) (λr s1=>∃u,r=some u ∧
   wpAny (model P w) X.A (letOwnedTupleGo tg (.ref it) u) (λ_ s2=>∃x H',Inv X pins σ H' s2/\RelV x u/\J.yld i H x H'/\tn (i+1) s2.heap/\∀b∈fp,H' b=none) E s1) E s
 done:∀(X:Cx),X.prog=P->X.w=w->X.K=K->X.calm=true->∀(i:Nat) (pins:List (Addr×Obj)) (s:Shared) (σ:St) (H:Hp) (E:Value->Shared->Prop),Inv X pins σ H s->(∀b∈fp,di X pins H b)->tn i s.heap->J.stop i H →
  wpAny (model P w) X.A (pyNext (.ref it)) (λr s1=>r=none/\Inv X pins σ H s1) E s
 self:∀(A:Around) (i:Nat) (s:Shared) (Q:Value->Shared->Prop) (E:Value->Shared->Prop),tn i s.heap->Q (.ref it) s->wpAny (model P w) A (pyIter (.ref it)) Q E s
abbrev TI:=St->Hp->(It->Hp->Prop)->Prop
def rj(X:Cx)(pins:List (Addr×Obj))(σ:St)(tg:Expr)(R:It->Hp->Prop)(itv:Value)(s2:Shared):Prop:=
 ∃(it:Addr) (fp:List Addr) (tn:Nat->Heap->Prop) (J:It) (H':Hp),itv=.ref it/\Inv X pins σ H' s2/\Turn X.prog X.w X.K tg J fp it tn/\tn 0 s2.heap/\(∀b∈fp,di X pins H' b)/\R J H'
def PI(X:Cx)(tg iter:Expr)(wi:TI):Prop:=
 ∀(pins:List (Addr×Obj)) (s:Shared) (σ:St) (H:Hp) (R:It->Hp->Prop),Inv X pins σ H s->wi σ H R →
  wpAny (model X.prog X.w) X.A (eval iter X.env) (λv s1=>wpAny (model X.prog X.w) X.A (pyIter v) (rj X pins σ tg R) X.xe s1) X.xe s
def qj {M : Model} {A : Around} {E : Value → Shared → Prop} {s : Shared} {tg : Expr} {it : Addr} {u : Value} {o : Obj} {n : String} {vs : Array Value} {Q : Unit → Shared → Prop} (ho : s.heap.get? it = some o) (hc : o.cls = .type n) (hd : o.data = .fields vs)
    (hn : ["enumerate", "zip", "dict_itemiterator", "dict_reverseitemiterator", "odict_iterator", "itertools.zip_longest", "itertools.pairwise"].contains n = false) (hQ : Q () s) : wpAny M A (letOwnedTupleGo tg (.ref it) u) Q E s := by
  unfold letOwnedTupleGo;cases tg <;> first
    | exact FC hQ
    | (cases u <;> first
        | exact FC hQ
        | (refine FA (wpAny_load ho ?_)
           rw [hc, hd];show wpAny M A (if (["enumerate", "zip", "dict_itemiterator", "dict_reverseitemiterator", "odict_iterator", "itertools.zip_longest", "itertools.pairwise"].contains n && vs[0]? == some (rawInt _)) = true then _ else _) Q E s;rw [GG (by intro h; rw [hn, Bool.false_and] at h; cases h)];exact FC hQ))
def dO(K:FD)(a:Addr):It:=
 ⟨λi H=>∃xs x,ag K H a xs/\xs[i]?=some x,λi H x H'=>H'=H/\∀xs,ag K H a xs->xs[i]?=some x,λi H=>∃xs,ag K H a xs/\xs.length<=i⟩
def fM(K:FD)(a:Addr):It:=
 ⟨λi H=>∃xs x,ao K H a xs/\xs[i]?=some x,λi H x H'=>H'=H/\∀xs,ao K H a xs->xs[i]?=some x,λi H=>∃xs,ao K H a xs/\xs.length<=i⟩
def dN(lo:Int)(n:Nat):It:=⟨λi _=>i<n,λi H x H'=>H'=H/\x=.int (lo+i),λi _=>n<=i⟩
def yT{P:Program}{w:World}{K:FD}{tg:Expr}(a it:Addr):Turn P w K tg (dO K a) [it] it (λi h=>h.IsListIter it a i) where
 mem:=by simp
 obj:=λi h st b hb=>by
  have e:b=it:=by simpa using hb
  subst e;obtain⟨o,e,c,d⟩:=st;exact⟨o,e,λv z=>by rw[d]at z;cases z⟩
 keep:=λi h h' st k=>st.at λo e=>k it (by simp) o e
 item:=by intro X hP hw hK hc i pins s σ H E I hf st hg;subst hP hw hK;obtain⟨xs,x,hq,hx⟩:=hg;obtain⟨its,rv,p,hz⟩:=I.list hq;obtain⟨u,hu,ru⟩:=rv.get hx;obtain⟨f0,f1,f2,f3,f4,f5⟩:=hf it (by simp);refine wpAny_pyNext_list_item st p.isList (x:=u) (by simpa using hu) λh' st' sb=>?_;have I1:Inv X pins σ H { s with heap:=h' }:=I.turned (t':=s.toks) (λb o hb e=>(sb.2 b hb).trans e) f0 f1 f3 f4 f5;obtain⟨o,e,c,d⟩:=id st';exact⟨u,rfl,qj (s:={ s with heap:=h' }) e c d (by decide) ⟨x,H,I1,ru,⟨rfl,λys hy=>by rw[I.list_inj hy hq];exact hx⟩,st',λb hb=>(hf b hb).1⟩⟩
 done:=by intro X hP hw hK hc i pins s σ H E I hf st hg;subst hP hw hK;obtain⟨xs,hq,hx⟩:=hg;obtain⟨its,rv,p,hz⟩:=I.list hq;obtain⟨f0,f1,f2,f3,f4,f5⟩:=hf it (by simp);have hl:=rv.length;exact wpAny_pyNext_list_end (I.ok.hd hc) st p.isList (by simp;omega) λh' eb=>⟨rfl,I.turned (t':=s.toks) (λb o hb e=>eb b o hb e) f0 f1 f3 f4 f5⟩
 self:=λ_ _ _ _ _ st h=>wpAny_pyIter_listiter st h
def Di{P:Program}{w:World}{K:FD}{tg:Expr}(a it:Addr):Turn P w K tg (fM K a) [it] it (λi h=>h.IsTupleIter it a i) where
 mem:=by simp
 obj:=λi h st b hb=>by
  have e:b=it:=by simpa using hb
  subst e;obtain⟨o,e,c,d⟩:=st;exact⟨o,e,λv z=>by rw[d]at z;cases z⟩
 keep:=λi h h' st k=>st.at λo e=>k it (by simp) o e
 item:=by intro X hP hw hK hc i pins s σ H E I hf st hg;subst hP hw hK;obtain⟨xs,x,hq,hx⟩:=hg;obtain⟨its,rv,p,hz⟩:=I.tuple hq;obtain⟨u,hu,ru⟩:=rv.get hx;obtain⟨f0,f1,f2,f3,f4,f5⟩:=hf it (by simp);refine wpAny_pyNext_tuple_item st (show s.heap.IsTuple a its.toArray from p) (x:=u) (by simpa using hu) λh' st' sb=>?_;have I1:Inv X pins σ H { s with heap:=h' }:=I.turned (t':=s.toks) (λb o hb e=>(sb.2 b hb).trans e) f0 f1 f3 f4 f5;obtain⟨o,e,c,d⟩:=id st';exact⟨u,rfl,qj (s:={ s with heap:=h' }) e c d (by decide) ⟨x,H,I1,ru,⟨rfl,λys hy=>by rw[I.tuple_inj hy hq];exact hx⟩,st',λb hb=>(hf b hb).1⟩⟩
 done:=by intro X hP hw hK hc i pins s σ H E I hf st hg;subst hP hw hK;obtain⟨xs,hq,hx⟩:=hg;obtain⟨its,rv,p,hz⟩:=I.tuple hq;obtain⟨f0,f1,f2,f3,f4,f5⟩:=hf it (by simp);have hl:=rv.length;exact wpAny_pyNext_tuple_end (I.ok.hd hc) st (show s.heap.IsTuple a its.toArray from p) (by simp;omega) λh' eb=>⟨rfl,I.turned (t':=s.toks) (λb o hb e=>eb b o hb e) f0 f1 f3 f4 f5⟩
 self:=λ_ _ _ _ _ st h=>wpAny_pyIter_tupleiter st h
def Cn{P:Program}{w:World}{K:FD}{tg:Expr}(it:Addr)(lo:Int)(n:Nat):Turn P w K tg (dN lo n) [it] it (λi h=>IsRangeIter h it (lo+(i:Nat)*1) ((n:Int)-(i:Nat)) 1) where
 mem:=by simp
 obj:=λi h st b hb=>by
  have e:b=it:=by simpa using hb
  subst e;exact⟨_,st,λv z=>by have z':Data.fields _=Data.cell v:=z;cases z'⟩
 keep:=λi h h' st k=>k it (by simp) _ st
 item:=by intro X hP hw hK hc i pins s σ H E I hf st hg;subst hP hw hK;obtain⟨f0,f1,f2,f3,f4,f5⟩:=hf it (by simp);have W:=Walks.range (prog:=X.prog) (w:=X.w) (I.ok.hd hc) it lo 1 n;refine W.item i s _ _ hg st λv h' tk hv st' kk=>?_;obtain⟨t,rfl⟩:=hv;have I1:Inv X pins σ H { s with heap:=h',toks:=tk }:=I.turned (λb o hb e=>kk b o (by simpa using hb) e) f0 f1 f3 f4 f5;refine⟨_,rfl,qj (s:={ s with heap:=h',toks:=tk }) (n:="range_iterator") st' rfl rfl (by decide) ⟨.int (lo+i),H,I1,⟨t,?_⟩,⟨rfl,rfl⟩,st',λb hb=>(hf b hb).1⟩⟩;rw[Int.mul_one]
 done:=by intro X hP hw hK hc i pins s σ H E I hf st hg;subst hP hw hK;obtain⟨f0,f1,f2,f3,f4,f5⟩:=hf it (by simp);exact wpAny_pyNext_range_end (I.ok.hd hc) st (by have:n<=i:=hg;omega) λh' eb=>⟨rfl,I.turned (t':=s.toks) (λb o hb e=>eb b o hb e) f0 f1 f3 f4 f5⟩
 self:=λ_ _ _ _ _ st h=>wpAny_pyIter_rangeiter st h
section
variable {X:Cx} {tg:Expr}
def pW(K:FD)(tl:TE):TI:=λσ H R=>tl σ H λx H1=>∃a,x=.ref a/\(∃xs,ag K H1 a xs)/\R (dO K a) H1
def pA(K:FD)(tl:TE):TI:=λσ H R=>tl σ H λx H1=>∃a,x=.ref a/\(∃xs,ao K H1 a xs)/\R (fM K a) H1
def Cf{l:Expr}{tl:TE}(hl:PE X l tl):PI X tg l (pW X.K tl):=by
 intro pins s σ H R I h;refine ay (hl pins s σ H _ I h) λv s1 ⟨x,H1,I1,r1,q1⟩=>?_;obtain⟨a,e,⟨xs,hq⟩,q⟩:=q1;subst e;cases r1;obtain⟨its,rv,p,hz⟩:=I1.list hq;refine wpAny_pyIter_list p.isList ?_;refine⟨s1.heap.objs.size,[s1.heap.objs.size],_,_,H1,rfl,I1.kept (t':=s1.toks) λb o e=>FE _ e,yT a _,⟨_,FF _ rfl,rfl,rfl⟩,λb hb=>?_,q⟩;have e:b=s1.heap.objs.size:=by simpa using hb
 subst e;exact I1.fpOk (F5 _) (I1.hok.fresh (F5 _))
def Er{l:Expr}{tl:TE}(hl:PE X l tl):PI X tg l (pA X.K tl):=by
 intro pins s σ H R I h;refine ay (hl pins s σ H _ I h) λv s1 ⟨x,H1,I1,r1,q1⟩=>?_;obtain⟨a,e,⟨xs,hq⟩,q⟩:=q1;subst e;cases r1;obtain⟨its,rv,p,hz⟩:=I1.tuple hq;refine wpAny_pyIter_tuple (show s1.heap.IsTuple a its.toArray from p) ?_;refine⟨s1.heap.objs.size,[s1.heap.objs.size],_,_,H1,rfl,I1.kept (t':=s1.toks) λb o e=>FE _ e,Di a _,⟨_,FF _ rfl,rfl,rfl⟩,λb hb=>?_,q⟩;have e:b=s1.heap.objs.size:=by simpa using hb
 subst e;exact I1.fpOk (F5 _) (I1.hok.fresh (F5 _))
def uO{pins:List (Addr×Obj)}{σ:St}{H:Hp}{s:Shared}{R:It->Hp->Prop}{E:Value->Shared->Prop}{lo hi:Int}{t u v:Tok}{tk:Nat}(I:Inv X pins σ H s)(h1:-(2 ^ 62)<=lo)(h2:lo<2 ^ 62)(h3:-(2 ^ 62)<=hi)(h4:hi<2 ^ 62)
  (q:R (dN lo (hi-lo).toNat) H):wpAny (model X.prog X.w) X.A (pyIter (.ref s.heap.objs.size)) (rj X pins σ tg R) E { s with heap:=s.heap.push { cls:=.type "range",data:=.fields #[.int lo t,.int hi u,.int 1 v] },toks:=tk }:=by
 refine wpAny_pyIter_range (IsRange.new ..) (small_one h1 h2 h3 h4) ?_;have I1:Inv X pins σ H { s with heap:=s.heap.push { cls:=.type "range",data:=.fields #[.int lo t,.int hi u,.int 1 v] },toks:=tk }:=I.kept λb o e=>FE _ e;refine⟨(s.heap.push { cls:=.type "range",data:=.fields #[.int lo t,.int hi u,.int 1 v] }).objs.size,[(s.heap.push { cls:=.type "range",data:=.fields #[.int lo t,.int hi u,.int 1 v] }).objs.size],_,_,H,rfl,
  I1.kept (t':=tk) λb o e=>FE _ e,Cn _ lo (hi-lo).toNat,?_,λb hb=>?_,q⟩
 ·have e1:lo+((0:Nat):Int)*1=lo:=by simp
  have e2:(((hi-lo).toNat:Nat):Int)-((0:Nat):Int)=Builtin.Range.rangeSize lo hi 1:=by rw[rangeSize_one];split<;>omega
  show IsRangeIter _ _ (lo+((0:Nat):Int)*1) ((((hi-lo).toNat:Nat):Int)-((0:Nat):Int)) 1;rw[e1,e2];exact FF _ rfl
 ·have e:b=(s.heap.push { cls:=.type "range",data:=.fields #[.int lo t,.int hi u,.int 1 v] }).objs.size:=by simpa using hb
  subst e;exact I1.fpOk (F5 _) (I1.hok.fresh (F5 _))
def xn(ta:TA):TI:=λσ H R=>ta σ H λvs H1=>∃j:Int,vs=[.int j]/\-(2 ^ 62)<=j/\j<2 ^ 62/\R (dN 0 j.toNat) H1
def rB(ta:TA):TI:=λσ H R=>ta σ H λvs H1=>∃i j:Int,vs=[.int i,.int j]/\(-(2 ^ 62)<=i/\i<2 ^ 62/\-(2 ^ 62)<=j/\j<2 ^ 62)/\R (dN i (j-i).toNat) H1
def cB{a:Expr}{ta:TA}{p pos:Pos}(hg:Gl X "range")(hm:X.mg "range" = none)(ha:PA X [a] ta)(hs:starEach [a] X.env=[(false,eval a X.env)]:=by rfl):PI X tg (.Call (.Name "range" p) [a] [] pos) (xn ta):=by
 intro pins s σ H R I h;refine Call_ (iq I hg hm boot_range (PyProof.Rows.callWith_type1 (ay (ha pos pins s σ H _ I h) λus s1 ⟨vs,H1,I1,r1,q1⟩=>?_) hs rfl));obtain⟨j,e,q1,q2,q⟩:=q1;subst e;cases r1 with
 | cons r rr=>
  cases rr;obtain⟨t,rfl⟩:=r;exact call_range_1 (uO I1 (by omega) (by omega) q1 q2 (by simpa using q))
def Fm{a b:Expr}{ta:TA}{p pos:Pos}(hg:Gl X "range")(hm:X.mg "range" = none)(ha:PA X [a,b] ta)(hs:starEach [a,b] X.env=[(false,eval a X.env),(false,eval b X.env)]:=by rfl)(hs2:starEach [b] X.env=[(false,eval b X.env)]:=by rfl):
  PI X tg (.Call (.Name "range" p) [a,b] [] pos) (rB ta):=by
 intro pins s σ H R I h;refine Call_ (iq I hg hm boot_range (PyProof.Rows.callWith_type1 (ay (ha pos pins s σ H _ I h) λus s1 ⟨vs,H1,I1,r1,q1⟩=>?_) (by rw[hs,hs2]) (by rw[hs2];rfl)));obtain⟨i,j,e,⟨q1,q2,q3,q4⟩,q⟩:=q1;subst e;cases r1 with
 | cons r rr=>
  cases rr with
  | cons r' rr=>
   cases rr;obtain⟨t,rfl⟩:=r;obtain⟨t',rfl⟩:=r';exact call_range_2 (uO I1 q1 q2 q3 q4 q)
def vG(wi:TI)(g:TG)(tb:TS):TS:=λD σ H=>wi σ H λJ H1=>∃W:Nat->Nat->St->Hp->Prop,(∃m,W 0 m σ H1)/\∀i m σ H,W i m σ H →
 (J.stop i H/\D.nx σ H)\/(J.go i H/\∃N:St->Hp->Prop,(∀σ' H',N σ' H'->∃m',m'<m/\W (i+1) m' σ' H')/\∀x H',J.yld i H x H'->g x σ H' λσ2 H2=>tb { D with nx:=N,ct:=N,bk:=D.nx } σ2 H2)
def gA(fp:List Addr)(h:Heap):List (Addr×Obj):=fp.filterMap λb=>(h.get? b).map λo=>(b,o)
def m6{fp:List Addr}{h:Heap}{b:Addr}{o:Obj}(hb:b∈fp)(e:h.get? b=some o):(b,o)∈gA fp h:=List.mem_filterMap.mpr ⟨b,hb,by rw[e];rfl⟩
def rm{fp:List Addr}{h:Heap}{p:Addr×Obj}(hp:p∈gA fp h):p.1∈fp/\h.get? p.1=some p.2:=by
 obtain⟨b,hb,e⟩:=List.mem_filterMap.mp hp;cases q:h.get? b with
 | none=>rw[q]at e;cases e
 | some o=>
  rw[q]at e;have e':(b,o)=p:=Gq e;subst e';exact⟨hb,q⟩
def Inv.pinned{pins:List (Addr×Obj)}{σ:St}{H:Hp}{s:Shared}{fp:List Addr}(I:Inv X pins σ H s)(hf:∀b∈fp,di X pins H b)(ho:∀b∈fp,∃o,s.heap.get? b=some o/\∀v,o.data≠.cell v):Inv X (pins++gA fp s.heap) σ H s:=
 I.pins_of λp hp=>(F8.mp hp).elim (λz=>I.pin p (Gr _ z)) λz=>by obtain⟨hb,e⟩:=rm z;obtain⟨f0,f1,f2,_⟩:=hf p.1 hb;obtain⟨o,e',d⟩:=ho p.1 hb;rw[e]at e';cases e';exact⟨e,f0,f1,f2,d⟩
def Inv.unpinned{pins pl:List (Addr×Obj)}{σ:St}{H:Hp}{s:Shared}(I:Inv X (pins++pl) σ H s):Inv X pins σ H s:=I.pins_of λp hp=>I.pin p (Gr _ (Gs _ hp))
def bV{iter:Expr}{body:List Stmt}{wi:TI}{g:TG}{tb:TS}{pos:Pos}(hp:PassesOwn (model X.prog X.w) X.A X.env X.xe)(hc:X.calm=true)(hi:PI X tg iter wi)(hg:PG X tg g)(hb:b6 X body tb)
  (hs:∀x,foldedSetIterable iter X.env x=pure x:=by intro _;rfl):PS X (.For tg iter body [] pos) (vG wi g tb):=by
 intro pins s σ H D I h;refine wpAny_For (ay (hi pins s σ H _ I h) λv s1 h1=>ay h1 λitv s2 h2=>?_) hs;obtain⟨it,fp,tn,J,H2,e,I2,T,st2,f2,W,⟨m0,w0⟩,turn⟩:=h2;subst e;have stat:∀{H':Hp},(∀b∈fp,H' b=none)->∀b∈fp,di X pins H' b:=λhn b hb=>⟨hn b hb,(f2 b hb).2⟩;refine codeAny_forLoop_any (λn s'=>∃i σ' H',Inv X pins σ' H' s'/\tn i s'.heap/\(∀b∈fp,H' b=none)/\W i n σ' H') ?_ m0 ⟨0,σ,H2,I2,st2,λb hb=>(f2 b hb).1,w0⟩;rintro n s3 ⟨i,σ3,H3,I3,st3,fr3,w3⟩;rcases turn i n σ3 H3 w3 with⟨stop,qn⟩|⟨go,N,hN,step⟩
 ·refine wpAny_passesOwn hp (ay (T.done X rfl rfl rfl hc i pins s3 σ3 H3 X.xe I3 (stat fr3) st3 stop) λr s4 ⟨hr,I4⟩=>?_);subst hr;exact wpAny_execs_nil ⟨σ3,H3,I4,qn⟩
 ·refine wpAny_passesOwn hp (ay (T.item X rfl rfl rfl hc i pins s3 σ3 H3 X.xe I3 (stat fr3) st3 go) λr s4 ⟨u,hr,h4⟩=>?_);subst hr;refine wpAny_passesOwn hp (ay h4 λ_ s5 ⟨x,H5,I5,r5,y5,st5,fr5⟩=>?_);have I5':=I5.pinned (stat fr5) (T.obj _ _ st5);refine wpAny_passesOwn hp (ay (hg _ s5 σ3 H5 x u _ I5' r5 (step x H5 y5)) λ_ s6 ⟨σ6,H6,I6,q6⟩=>?_);refine wpAny_passesOwn hp (ay (hb _ s6 σ6 H6 _ I6 q6) λf s7 q7=>?_);have again:∀{σ7:St} {H7:Hp},Inv X (pins++gA fp s5.heap) σ7 H7 s7->N σ7 H7->∃m,m<n/\∃i σ' H',Inv X pins σ' H' s7/\tn i s7.heap/\(∀b∈fp,H' b=none)/\W i m σ' H':=λ{σ7 H7} I7 n7=>by obtain⟨m',hm,w7⟩:=hN σ7 H7 n7;refine⟨m',hm,i+1,σ7,H7,I7.unpinned,T.keep _ _ _ st5 λb hb o e=>(I7.pin (b,o) (Gr _ (Gr _ (m6 hb e)))).1,λb hb=>?_,w7⟩;obtain⟨o,e,d⟩:=T.obj _ _ st5 b hb;exact(I7.pin (b,o) (Gr _ (Gr _ (m6 hb e)))).2.1
  cases f with
  | next=>obtain⟨σ7,H7,I7,n7⟩:=q7;exact again I7 n7
  | cont=>obtain⟨σ7,H7,I7,n7⟩:=q7;exact again I7 n7
  | brk=>obtain⟨σ7,H7,I7,q7⟩:=q7;exact⟨σ7,H7,I7.unpinned,q7⟩
  | ret v=>obtain⟨x7,σ7,H7,I7,r7,q7⟩:=q7;exact⟨x7,σ7,H7,I7.unpinned,r7,q7⟩
end
def Cz{K:FD}{a:Addr}{xs:List V}{g:TG}{tb:TS}{D:Ends}{σ:St}{H:Hp}(Pv:Nat->St->Hp->Prop)(h0:Pv 0 σ H)(hl:∀i σ H,i<=xs.length->Pv i σ H->ag K H a xs)
  (hs:∀i x σ H,xs[i]?=some x->Pv i σ H->g x σ H λσ2 H2=>tb { D with nx:=Pv (i+1),ct:=Pv (i+1),bk:=D.nx } σ2 H2) (hd:∀σ H,Pv xs.length σ H->D.nx σ H) :
  ∃W:Nat->Nat->St->Hp->Prop,(∃m,W 0 m σ H)/\∀i m σ H,W i m σ H →
   ((dO K a).stop i H/\D.nx σ H)\/((dO K a).go i H/\∃N:St->Hp->Prop,(∀σ' H',N σ' H'->∃m',m'<m/\W (i+1) m' σ' H')/\∀x H',(dO K a).yld i H x H'->g x σ H' λσ2 H2=>tb { D with nx:=N,ct:=N,bk:=D.nx } σ2 H2):=by
 refine⟨λi m σ H=>m=xs.length-i/\i<=xs.length/\Pv i σ H,⟨xs.length,by simp,Nat.zero_le _,h0⟩,?_⟩;rintro i m σ H ⟨rfl,hi,p⟩;have q:=hl i σ H hi p;by_cases hlt:i<xs.length
 ·refine .inr ⟨⟨xs,xs[i],q,by simp[hlt]⟩,Pv (i+1),λσ' H' p'=>⟨xs.length-(i+1),by omega,rfl,hlt,p'⟩,λx H' y=>?_⟩;obtain⟨e,y⟩:=y;subst e;exact hs i x σ _ (y xs q) p
 ·have e:i=xs.length:=by omega
  subst e;exact .inl ⟨⟨xs,q,F5 _⟩,hd σ H p⟩
def DY{K:FD}{a:Addr}{xs:List V}{g:TG}{tb:TS}{D:Ends}{σ:St}{H:Hp}(Pv:Nat->St->Hp->Prop)(h0:Pv 0 σ H)(hl:∀i σ H,i<=xs.length->Pv i σ H->ao K H a xs)
  (hs:∀i x σ H,xs[i]?=some x->Pv i σ H->g x σ H λσ2 H2=>tb { D with nx:=Pv (i+1),ct:=Pv (i+1),bk:=D.nx } σ2 H2) (hd:∀σ H,Pv xs.length σ H->D.nx σ H) :
  ∃W:Nat->Nat->St->Hp->Prop,(∃m,W 0 m σ H)/\∀i m σ H,W i m σ H →
   ((fM K a).stop i H/\D.nx σ H)\/((fM K a).go i H/\∃N:St->Hp->Prop,(∀σ' H',N σ' H'->∃m',m'<m/\W (i+1) m' σ' H')/\∀x H',(fM K a).yld i H x H'->g x σ H' λσ2 H2=>tb { D with nx:=N,ct:=N,bk:=D.nx } σ2 H2):=by
 refine⟨λi m σ H=>m=xs.length-i/\i<=xs.length/\Pv i σ H,⟨xs.length,by simp,Nat.zero_le _,h0⟩,?_⟩;rintro i m σ H ⟨rfl,hi,p⟩;have q:=hl i σ H hi p;by_cases hlt:i<xs.length
 ·refine .inr ⟨⟨xs,xs[i],q,by simp[hlt]⟩,Pv (i+1),λσ' H' p'=>⟨xs.length-(i+1),by omega,rfl,hlt,p'⟩,λx H' y=>?_⟩;obtain⟨e,y⟩:=y;subst e;exact hs i x σ _ (y xs q) p
 ·have e:i=xs.length:=by omega
  subst e;exact .inl ⟨⟨xs,q,F5 _⟩,hd σ H p⟩
def CV{lo:Int}{n:Nat}{g:TG}{tb:TS}{D:Ends}{σ:St}{H:Hp}(Pv:Nat->St->Hp->Prop)(h0:Pv 0 σ H)
  (hs:∀i σ H,i<n->Pv i σ H->g (.int (lo+i)) σ H λσ2 H2=>tb { D with nx:=Pv (i+1),ct:=Pv (i+1),bk:=D.nx } σ2 H2) (hd:∀σ H,Pv n σ H->D.nx σ H) :
  ∃W:Nat->Nat->St->Hp->Prop,(∃m,W 0 m σ H)/\∀i m σ H,W i m σ H →
   ((dN lo n).stop i H/\D.nx σ H)\/((dN lo n).go i H/\∃N:St->Hp->Prop,(∀σ' H',N σ' H'->∃m',m'<m/\W (i+1) m' σ' H')/\∀x H',(dN lo n).yld i H x H'->g x σ H' λσ2 H2=>tb { D with nx:=N,ct:=N,bk:=D.nx } σ2 H2):=by
 refine⟨λi m σ H=>m=n-i/\i<=n/\Pv i σ H,⟨n,by simp,Nat.zero_le _,h0⟩,?_⟩;rintro i m σ H ⟨rfl,hi,p⟩;by_cases hlt:i<n
 ·refine .inr ⟨hlt,Pv (i+1),λσ' H' p'=>⟨n-(i+1),by omega,rfl,hlt,p'⟩,λx H' y=>?_⟩;obtain⟨e,y⟩:=y;subst e y;exact hs i σ _ hlt p
 ·have e:i=n:=by omega
  subst e;exact .inl ⟨F5 _,hd σ H p⟩
abbrev R2:=V->V->Hp->VK->Prop
def bG(X:Cx)(f:Value->Value->Sem Value)(r:R2):Prop:=
 ∀(pins:List (Addr×Obj)) (s:Shared) (σ:St) (H:Hp) (x y:V) (v u:Value) (Q:VK),Inv X pins σ H s->RelV x v->RelV y u->r x y H Q →
  wpAny (model X.prog X.w) X.A (f v u) (EP X pins σ Q) X.xe s
def mj(X:Cx)(f:Value->Sem Value)(r:V->Hp->VK->Prop):Prop:=
 ∀(pins:List (Addr×Obj)) (s:Shared) (σ:St) (H:Hp) (x:V) (v:Value) (Q:VK),Inv X pins σ H s->RelV x v->r x H Q →
  wpAny (model X.prog X.w) X.A (f v) (EP X pins σ Q) X.xe s
def cJ(X:Cx)(f:Value)(r:List V->Hp->VK->Prop):Prop:=
 ∀(pins:List (Addr×Obj)) (s:Shared) (σ:St) (H:Hp) (xs:List V) (us:List Value) (Q:VK),Inv X pins σ H s->Vals xs us->r xs H Q →
  wpAny (model X.prog X.w) X.A (call f us) (EP X pins σ Q) X.xe s
def iF(r:R2)(ta tb:TE):TE:=λσ H Q=>ta σ H λx H1=>tb σ H1 λy H2=>r x y H2 Q
def we(r:V->Hp->VK->Prop)(ta:TE):TE:=λσ H Q=>ta σ H λx H1=>r x H1 Q
def rI(C:Int->Int->Prop)(g:Int->Int->V):R2:=λx y H Q=>∃i j,x=.int i/\y=.int j/\C i j/\Q (g i j) H
def fL(g:Int->Int->V):R2:=λx y H Q=>∃i j,x=.int i/\y=.int j/\Q (g i j) H
def rU(g:Int->V):V->Hp->VK->Prop:=λx H Q=>∃i,x=.int i/\Q (g i) H
section
variable {X:Cx} {a b c:Expr} {ta tb tc:TE} {pos:Pos}
def qO(ha:PE X a ta)(hb:PE X b tb){pins:List (Addr×Obj)}{s:Shared}{σ:St}{H:Hp}{R:V->V->Hp->Prop}(I:Inv X pins σ H s)
  (h:ta σ H λx H1=>tb σ H1 λy H2=>R x y H2) {Q:Value->Shared->Prop} {f:Value->Value->Sem Value}
  (hf:∀v u s2 x y H2,Inv X pins σ H2 s2->RelV x v->RelV y u->R x y H2->wpAny (model X.prog X.w) X.A (f v u) Q X.xe s2) :
  wpAny (model X.prog X.w) X.A (eval a X.env) (λv s₁=>wpAny (model X.prog X.w) X.A (eval b X.env) (λu s₂=>wpAny (model X.prog X.w) X.A (f v u) Q X.xe s₂) X.xe s₁) X.xe s:=by
 refine ay (ha pins s σ H _ I h) λv s1 ⟨x,H1,I1,r1,q1⟩=>?_;refine ay (hb pins s1 σ H1 _ I1 q1) λu s2 ⟨y,H2,I2,r2,q2⟩=>?_;exact hf v u s2 x y H2 I2 r1 r2 q2
def av{op:Operator}{r:R2}(ho:bG X (binaryOp op) r)(ha:PE X a ta)(hb:PE X b tb):PE X (.BinOp a op b pos) (iF r ta tb):=by intro pins s σ H Q I h;exact wpAny_BinOp (qO ha hb I h λv u s2 x y H2 I2 rx ry q=>ho pins s2 σ H2 x y v u Q I2 rx ry q)
def eM{op:UnaryOp}{r:V->Hp->VK->Prop}(ho:mj X (unaryOp op) r)(ha:PE X a ta):PE X (.UnaryOp op a pos) (we r ta):=by intro pins s σ H Q I h;exact UnaryOp_ (ay (ha pins s σ H _ I h) λv s1 ⟨x,H1,I1,r1,q1⟩=>ho pins s1 σ H1 x v Q I1 r1 q1)
def kS{f:Value->Value->Sem Value}{C:Int->Int->Prop}{g:Int->Int->Int}
  (rule:∀(i j:Int) (t u:Tok) (s:Shared) (Q:Value->Shared->Prop) (E:Value->Shared->Prop),C i j->Q (.int (g i j) s.toks) { s with toks:=s.toks+1 }->wpAny (model X.prog X.w) X.A (f (.int i t) (.int j u)) Q E s) :
  bG X f (rI C λi j=>.int (g i j)):=by
 intro pins s σ H x y v u Q I rx ry h;obtain⟨i,j,rfl,rfl,hc,q⟩:=h;obtain⟨t,rfl⟩:=rx;obtain⟨t',rfl⟩:=ry;exact rule i j t t' s _ _ hc ⟨.int (g i j),H,I.tok _,⟨_,rfl⟩,q⟩
def vv{f:Value->Value->Sem Value}{g:Int->Int->Int}
  (rule:∀(i j:Int) (t u:Tok) (s:Shared) (Q:Value->Shared->Prop) (E:Value->Shared->Prop),Q (.int (g i j) s.toks) { s with toks:=s.toks+1 }->wpAny (model X.prog X.w) X.A (f (.int i t) (.int j u)) Q E s) :
  bG X f (fL λi j=>.int (g i j)):=by
 intro pins s σ H x y v u Q I rx ry h;obtain⟨i,j,rfl,rfl,q⟩:=h;obtain⟨t,rfl⟩:=rx;obtain⟨t',rfl⟩:=ry;exact rule i j t t' s _ _ ⟨.int (g i j),H,I.tok _,⟨_,rfl⟩,q⟩
def la{f:Value->Value->Sem Value}{g:Int->Int->Bool}
  (rule:∀(i j:Int) (t u:Tok) (s:Shared) (Q:Value->Shared->Prop) (E:Value->Shared->Prop),Q (.bool (g i j)) s->wpAny (model X.prog X.w) X.A (f (.int i t) (.int j u)) Q E s) :
  bG X f (fL λi j=>.bl (g i j)):=by
 intro pins s σ H x y v u Q I rx ry h;obtain⟨i,j,rfl,rfl,q⟩:=h;obtain⟨t,rfl⟩:=rx;obtain⟨t',rfl⟩:=ry;exact rule i j t t' s _ _ ⟨.bl (g i j),H,I,rfl,q⟩
def vS(i j:Int):Prop:=0<=j/\j<=1000000/\i.natAbs<2 ^ 64
def kB(i j:Int):Prop:=(-(2 ^ 64)<i/\i<2 ^ 64)\/(-(2 ^ 64)<j/\j<2 ^ 64)
def kB.ok{i j:Int}(h:kB i j):IntMulOk i j:=by
 rcases h with⟨h1,h2⟩|⟨h1,h2⟩
 ·exact .of_left (intBits_le_64 h1 h2)
 ·exact .of_right (intBits_le_64 h1 h2)
def aY:bG X (binaryOp .Add) (fL λi j=>.int (i+j)):=vv λ_ _ _ _ _ _ _ q=>add_int q
def cU:bG X (binaryOp .Sub) (fL λi j=>.int (i-j)):=vv λ_ _ _ _ _ _ _ q=>sub_int q
def ef:bG X (binaryOp .Mult) (rI kB λi j=>.int (i*j)):=kS λ_ _ _ _ _ _ _ hc q=>mul_int q hc.ok
def cj:bG X (binaryOp .Mod) (rI (λ_ j=>0<j) λi j=>.int (i % j)):=kS λi j _ _ _ _ _ hc q=>by have h1:(0:Int)<j:=hc;exact mod_int' (by omega) (by rw[Int.fmod_eq_emod_of_nonneg i (by omega)];exact q)
def fQ:bG X (binaryOp .Pow) (rI vS λi j=>.int (i ^ j.toNat)):=kS λ_ _ _ _ _ _ _ hc q=>pow_int_small hc.1 hc.2.1 hc.2.2 q
def Bg{f:Value->Sem Value}{g:Int->Int}
  (rule:∀(i:Int) (t:Tok) (s:Shared) (Q:Value->Shared->Prop) (E:Value->Shared->Prop),Q (.int (g i) s.toks) { s with toks:=s.toks+1 }->wpAny (model X.prog X.w) X.A (f (.int i t)) Q E s) :
  mj X f (rU λi=>.int (g i)):=by
 intro pins s σ H x v Q I rx h;obtain⟨i,rfl,q⟩:=h;obtain⟨t,rfl⟩:=rx;exact rule i t s _ _ ⟨.int (g i),H,I.tok _,⟨_,rfl⟩,q⟩
def eE:mj X (unaryOp .USub) (rU λi=>.int (-i)):=Bg λ_ _ _ _ _ q=>neg_int q
end
def wL:V->V->Bool
 | .non,.non=>true|.non,.int _=>true|.int _,.non=>true|.non,.bl _=>true|.bl _,.non=>true|.non,.str _=>true|.str _,.non=>true
 | .int _,.int _=>true|.bl _,.bl _=>true|.str _,.str _=>true|.byt _,.byt _=>true
 | .int _,.str _=>true|.str _,.int _=>true|.bl _,.str _=>true|.str _,.bl _=>true
 | _,_=>false
def jc:R2:=λx y H Q=>wL x y=true/\Q (.bl (decide (x=y))) H
def j7:R2:=λx y H Q=>wL x y=true/\Q (.bl (!decide (x=y))) H
def wd{i j:Int}:decide (V.int i=V.int j)=(i == j):=by rw[Gm];simp
def nX{i j:Bool}:decide (V.bl i=V.bl j)=(i == j):=by rw[Gm];simp
def jt{i j:Str}:decide (V.str i=V.str j)=(i == j):=by rw[Gm];simp
def wJ{i j:Array UInt8}:decide (V.byt i=V.byt j)=(i.toList == j.toList):=by rw[Gm];cases i;cases j;simp
section
variable {X:Cx} {a b c:Expr} {ta tb tc:TE} {pos:Pos}
def bK{pins:List (Addr×Obj)}{σ:St}{H:Hp}{s:Shared}{Q:VK}{k k':Bool}(I:Inv X pins σ H s)(q:Q (.bl k) H)(e:k=k'):EP X pins σ Q (.bool k') s:=by subst e;exact⟨.bl k,H,I,rfl,q⟩
def bX:bG X (compareOp .Eq) jc:=by
 intro pins s σ H x y v u Q I rx ry h;obtain⟨hs,q⟩:=h;cases x with
 | non=>
  cases rx;cases y with
  | non=>cases ry;exact PySem.EqNone.eq_none_none (bK I q (by simp))
  | bl j=>cases ry;exact PySem.EqNone.eq_none_bool (bK I q (by simp))
  | int j=>obtain⟨t',rfl⟩:=ry;exact PySem.EqNone.eq_none_int (bK I q (by simp))
  | str j=>obtain⟨t',rfl⟩:=ry;exact PySem.EqNone.eq_none_str (bK I q (by simp))
  | _=>exact absurd (show false=true from hs) FY
 | bl i=>
  cases rx;cases y with
  | non=>cases ry;exact PySem.EqNone.eq_bool_none (bK I q (by simp))
  | bl j=>cases ry;exact eq_bool (bK I q nX)
  | str j=>obtain⟨t',rfl⟩:=ry;exact PySem.EqMixed.eq_bool_str (bK I q (by simp))
  | _=>exact absurd (show false=true from hs) FY
 | int i=>
  obtain⟨t,rfl⟩:=rx;cases y with
  | non=>cases ry;exact PySem.EqNone.eq_int_none (bK I q (by simp))
  | int j=>obtain⟨t',rfl⟩:=ry;exact eq_int (bK I q wd)
  | str j=>obtain⟨t',rfl⟩:=ry;exact PySem.EqMixed.eq_int_str (bK I q (by simp))
  | _=>exact absurd (show false=true from hs) FY
 | str i=>
  obtain⟨t,rfl⟩:=rx;cases y with
  | non=>cases ry;exact PySem.EqNone.eq_str_none (bK I q (by simp))
  | bl j=>cases ry;exact PySem.EqMixed.eq_str_bool (bK I q (by simp))
  | int j=>obtain⟨t',rfl⟩:=ry;exact PySem.EqMixed.eq_str_int (bK I q (by simp))
  | str j=>obtain⟨t',rfl⟩:=ry;exact eq_str (bK I q jt)
  | _=>exact absurd (show false=true from hs) FY
 | byt i=>
  obtain⟨t,rfl⟩:=rx;cases y with
  | byt j=>obtain⟨t',rfl⟩:=ry;exact PySem.W.eq_bytes (bK I q wJ)
  | _=>exact absurd (show false=true from hs) FY
 | _=>cases y<;>exact absurd (show false=true from hs) FY
def dG:bG X (compareOp .NotEq) j7:=by
 intro pins s σ H x y v u Q I rx ry h;obtain⟨hs,q⟩:=h;cases x with
 | non=>
  cases rx;cases y with
  | non=>cases ry;exact PySem.EqNone.ne_none_none (bK I q (by simp))
  | bl j=>cases ry;exact PySem.EqNone.ne_none_bool (bK I q (by simp))
  | int j=>obtain⟨t',rfl⟩:=ry;exact PySem.EqNone.ne_none_int (bK I q (by simp))
  | str j=>obtain⟨t',rfl⟩:=ry;exact PySem.EqNone.ne_none_str (bK I q (by simp))
  | _=>exact absurd (show false=true from hs) FY
 | bl i=>
  cases rx;cases y with
  | non=>cases ry;exact PySem.EqNone.ne_bool_none (bK I q (by simp))
  | bl j=>cases ry;exact ne_bool (bK I q (congrArg not nX))
  | str j=>obtain⟨t',rfl⟩:=ry;exact PySem.EqMixed.ne_bool_str (bK I q (by simp))
  | _=>exact absurd (show false=true from hs) FY
 | int i=>
  obtain⟨t,rfl⟩:=rx;cases y with
  | non=>cases ry;exact PySem.EqNone.ne_int_none (bK I q (by simp))
  | int j=>obtain⟨t',rfl⟩:=ry;exact ne_int (bK I q (congrArg not wd))
  | str j=>obtain⟨t',rfl⟩:=ry;exact PySem.EqMixed.ne_int_str (bK I q (by simp))
  | _=>exact absurd (show false=true from hs) FY
 | str i=>
  obtain⟨t,rfl⟩:=rx;cases y with
  | non=>cases ry;exact PySem.EqNone.ne_str_none (bK I q (by simp))
  | bl j=>cases ry;exact PySem.EqMixed.ne_str_bool (bK I q (by simp))
  | int j=>obtain⟨t',rfl⟩:=ry;exact PySem.EqMixed.ne_str_int (bK I q (by simp))
  | str j=>obtain⟨t',rfl⟩:=ry;exact ne_str (bK I q (congrArg not jt))
  | _=>exact absurd (show false=true from hs) FY
 | byt i=>
  obtain⟨t,rfl⟩:=rx;cases y with
  | byt j=>obtain⟨t',rfl⟩:=ry;exact PySem.W.ne_bytes (bK I q (congrArg not wJ))
  | _=>exact absurd (show false=true from hs) FY
 | _=>cases y<;>exact absurd (show false=true from hs) FY
def f6:bG X (compareOp .Lt) (fL λi j=>.bl (decide (i<j))):=la λ_ _ _ _ _ _ _ q=>lt_int q
def jW:bG X (compareOp .LtE) (fL λi j=>.bl (decide (i<=j))):=la λ_ _ _ _ _ _ _ q=>le_int q
def fK:bG X (compareOp .Gt) (fL λi j=>.bl (decide (j<i))):=la λ_ _ _ _ _ _ _ q=>gt_int q
def og:bG X (compareOp .GtE) (fL λi j=>.bl (decide (j<=i))):=la λ_ _ _ _ _ _ _ q=>ge_int q
def aP(b:Expr){op:CmpOp}(h:op≠.In:=by decide)(h2:op≠.NotIn:=by decide):behindInMarks op b=false:=by
 have e1:(op == CmpOp.In)=false:=by cases op<;>first|rfl|exact absurd rfl h
 have e2:(op == CmpOp.NotIn)=false:=by cases op<;>first|rfl|exact absurd rfl h2
 cases b<;>simp[behindInMarks,e1,e2]
def eG{op:CmpOp}{r:R2}(ho:bG X (compareOp op) r)(ha:PE X a ta)(hb:PE X b tb)(hm:behindInMarks op b=false):PE X (.Compare a [op] [b] pos) (iF r ta tb):=by intro pins s σ H Q I h;exact wpAny_Compare1 (qO ha hb I h λv u s2 x y H2 I2 rx ry q=>ho pins s2 σ H2 x y v u Q I2 rx ry q) hm
def sA(t:TE):TT:=λσ H Q=>t σ H λx H'=>∃k,x=.bl k/\Q k H'
def aT{op:CmpOp}{r:R2}(ho:bG X (compareOp op) r)(ha:PE X a ta)(hb:PE X b tb)(hm:behindInMarks op b=false):PT X (.Compare a [op] [b] pos) (sA (iF r ta tb)):=by
 intro pins s σ H Q I h;refine wpAny_isTrue_Compare1 (ay (ha pins s σ H _ I h) λv s1 ⟨x,H1,I1,r1,q1⟩=>ay (hb pins s1 σ H1 _ I1 q1) λu s2 ⟨y,H2,I2,r2,q2⟩=>
  ay (ho pins s2 σ H2 x y v u _ I2 r1 r2 q2) λc s3 ⟨z,H3,I3,r3,k,e,q3⟩=>?_) hm
 subst e;cases r3;exact wpAny_truthy_bool ⟨H3,I3,q3⟩
def rF(r r':R2)(ta tb tc:TE):TE:=λσ H Q=>ta σ H λx H1=>tb σ H1 λy H2=>r x y H2 λz H3=>∃k,z=.bl k ∧
 (if k=true then tc σ H3 λw' H4=>r' y w' H4 Q else Q (.bl false) H3)
def pf{op op':CmpOp}{r r':R2}(ho:bG X (compareOp op) r)(ho':bG X (compareOp op') r')(ha:PE X a ta)(hb:PE X b tb)(hc:PE X c tc)
  (hm:lastMarks [op,op'] [b,c]=false:=by with_unfolding_all rfl):PE X (.Compare a [op,op'] [b,c] pos) (rF r r' ta tb tc):=by
 intro pins s σ H Q I h;refine Compare_chain (ay (ha pins s σ H _ I h) λv s1 ⟨x,H1,I1,r1,q1⟩=>chain_link (ay (hb pins s1 σ H1 _ I1 q1) λu s2 ⟨y,H2,I2,r2,q2⟩=>
  ay (ho pins s2 σ H2 x y v u _ I2 r1 r2 q2) λd s3 ⟨z,H3,I3,r3,k,e,q3⟩=>?_)) hm
 subst e;cases r3;refine wpAny_truthy_bool ?_;cases k with
 | false=>exact ite_ff ⟨.bl false,H3,I3,rfl,q3⟩
 | true=>exact ite_tt (chain_last (ay (hc pins s3 σ H3 _ I3 q3) λw' s4 ⟨z',H4,I4,r4,q4⟩=>ho' pins s4 σ H4 y z' u w' Q I4 r2 r4 q4))
def iT:(sizeLine:Nat)<2 ^ 63:=by rw[sizeLine_eq];decide
def vals1{x:V}{us:List Value}(r:Vals [x] us):∃u,us=[u]/\RelV x u:=by
 cases r with
 | cons r1 r2=>cases r2;exact⟨_,rfl,r1⟩
def vals2{x y:V}{us:List Value}(r:Vals [x,y] us):∃u w',us=[u,w']/\RelV x u/\RelV y w':=by
 cases r with
 | cons r1 r2=>
  cases r2 with
  | cons r3 r4=>cases r4;exact⟨_,_,rfl,r1,r3⟩
end
structure ObjM(h:Heap)(x dx C:Addr)(mA:Str->Option Value):Prop where
 obj:h.get? x=some (PySem.W.instObj C dx)
 ns:h.Ns1 dx mA
 ne:dx≠x
def E3{h:Heap}{dx:Addr}{mA:Str->Option Value}(n:h.Ns1 dx mA):∃od,h.get? dx=some od/\∀name,PySem.W.lookIn name od=some (mA name):=by
 obtain⟨o,es,ep,ho,hd,hk,_,hm⟩:=n;refine⟨o,ho,λname=>?_⟩;have e:=hm name;unfold nsFind findBy at e;rw[←Array.find?_toList]at e;unfold PySem.W.lookIn;rw[hd];dsimp only;split
 ·rename_i y q;rw[q]at e;exact congrArg some e
 ·rename_i q;rw[q]at e;have a:es.toList.any (·.refKey)=false:=by rw[List.any_eq_false];intro y hy;obtain⟨z,t,hkey⟩:=hk y (Array.mem_toList_iff.mp hy);simp[DictEntry.refKey,hkey]
  have a':¬es.toList.any (·.refKey)=true:=by rw[a];exact FY
  rw[GG a'];exact congrArg some e
def ObjM.look{h:Heap}{x dx C:Addr}{mA:Str->Option Value}(I:ObjM h x dx C mA):∃od,PySem.W.InstAt h x (PySem.W.instObj C dx) C (some od)/\∀name,PySem.W.lookIn name od=some (mA name):=
 let ⟨od,ho,hl⟩:=E3 I.ns
 ⟨od,⟨I.obj,rfl,rfl,ho⟩,hl⟩
section
variable {prog:Program} {w:World} {A:Around} {E:Value->Shared->Prop} {s:Shared} {K:FD} {x dx C f:Addr} {mA:Str->Option Value} {name:Str} {v:Value}
end
def fB.some_of{v:V}{o:Option Value}(r:fB (some v) o):∃u,o=some u/\RelV v u:=by
 cases o with
 | none=>exact(show False from r).elim
 | some u=>exact⟨u,rfl,r⟩
section
variable {P:Program} {w:World} {H H':Hp} {h h':Heap} {a C dx:Addr} {fs fs':List (Str×V)}
def zk(hok:bf P w H h)(e:H a=some (.ins C dx fs)):∃mA,ObjM h a dx C mA/\(∀f,fB (fs.lookup f) (mA f))/\PySem.Within mA (fs.map (·.1))/\fs.length<=1000/\H dx=some (.own a):=by obtain⟨d,z,ne,ob,mA,n,r,q⟩:=(show br P w H h a (.ins C dx fs)from hok a _ e);exact⟨mA,⟨ob,n,ne⟩,r,q,z,d⟩
end
structure Cls(K:FD)(C:Addr):Prop where
 pg:PySem.W.plainGet K C Str.empty=true
 hd:PySem.W.hasDictIn K C=true
 po:PySem.W.plainOver K C=true
 sa:PySem.W.findIn K (.ref C) "__setattr__" = some (some (.builtin "object.__setattr__"))
def Cls.get{K:FD}{C:Addr}(c:Cls K C)(f:Str):PySem.W.plainGet K C f=true:=c.pg
section
variable {X:Cx} {pins:List (Addr×Obj)} {σ:St} {H:Hp} {s:Shared} {a C dx:Addr} {fs:List (Str×V)} {f:Str} {v:V} {A:Around} {E:Value->Shared->Prop}
end
section
variable {X:Cx} {o e value:Expr} {f:Str} {pos pos' tpos:Pos} {ta tv:TE}
end
section
variable {X:Cx} {pins:List (Addr×Obj)} {σ:St} {H:Hp} {s:Shared} {A:Around} {E:Value->Shared->Prop} {Q:Value->Shared->Prop} {c:Value} {b:Bool}
inductive TyOf(K:FD)(H:Hp):V->Value->Prop where
 | non:TyOf K H .non (.type "NoneType")
 | bl (x:Bool):TyOf K H (.bl x) (.type "bool")
 | int (i:Int):TyOf K H (.int i) (.type "int")
 | str (x:Str):TyOf K H (.str x) (.type "str")
 | flt (x:UInt64):TyOf K H (.flt x) (.type "float")
 | lst {a:Addr} {xs:List V} (e:H a=some (.lst xs)):TyOf K H (.ref a) (.type "list")
 | frz {a:Addr} {o:Obj} {xs:List V} (e:H a=some (.frz o (.lst xs))):TyOf K H (.ref a) (.type "list")
 | tup {a:Addr} {xs:List V} (e:H a=some (.tup xs)):TyOf K H (.ref a) (.type "tuple")
 | dK {a:Addr} {kvs:List (Key×V)} (e:H a=some (.dK kvs)):TyOf K H (.ref a) (.type "dict")
 | dT {a:Addr} {kvs:List (List Key×V)} (e:H a=some (.dT kvs)):TyOf K H (.ref a) (.type "dict")
 | ins {a C dx:Addr} {fs:List (Str×V)} (e:H a=some (.ins C dx fs)) (cl:Cls K C) (ha:PySem.W.findIn K (.ref C) "__class__" = some (some (.builtin "object.__class__")))
   (hn:PySem.W.specialIn K (.builtin "object.__class__") "__get__" = some (some (.builtin "getset_descriptor.__get__"))) (htk:PySem.W.takesIn K (.builtin "object.__class__")=some true)
   (hm:PySem.W.mroIn K C (.type "object")=some true):TyOf K H (.ref a) (.ref C)
def zo{x:V}{u t:Value}(I:Inv X pins σ H s)(rx:RelV x u)(ty:TyOf X.K H x t)(e:PySem.W.kitOne X.K t c=some b)(h:∀tk,Q (.bool b) { s with toks:=tk }):
  wpAny (model X.prog X.w) A (call (.builtin "isinstance") [u,c]) Q E s:=by
 cases ty with
 | non=>cases(show u=Value.none from rx);exact PySem.W.kia_one PySem.W.kitx_none I.kIn True.intro e (λz=>nomatch z) h
 | bl y=>cases(show u=Value.bool y from rx);exact PySem.W.kia_one PySem.W.kitx_bool I.kIn True.intro e (λz=>nomatch z) h
 | int i=>obtain⟨t,q⟩:=(show ∃t,u=Value.int i t from rx);cases q;exact PySem.W.kia_one PySem.W.kitx_int I.kIn True.intro e (λz=>nomatch z) h
 | str y=>obtain⟨t,q⟩:=(show ∃t,u=Value.str y t from rx);cases q;exact PySem.W.kia_one PySem.W.kitx_str I.kIn True.intro e (λz=>nomatch z) h
 | flt y=>obtain⟨t,q⟩:=(show ∃t,u=Value.float y t from rx);cases q;exact PySem.W.kia_one PySem.W.kitx_float I.kIn True.intro e (λz=>nomatch z) h
 | @lst a xs ea=>
  cases(show u=Value.ref a from rx);obtain⟨_,_,n,_,h1⟩:=(show br X.prog X.w H s.heap a (.lst xs)from I.hok a _ ea);exact PySem.W.kia_one PySem.W.kitx_list I.kIn ⟨_,h1,rfl⟩ e (λz=>nomatch z) h
 | @frz a ob xs ea=>
  cases(show u=Value.ref a from rx);obtain⟨_,_,_,n,_,h1⟩:=(show br X.prog X.w H s.heap a (.frz ob (.lst xs))from I.hok a _ ea);exact PySem.W.kia_one PySem.W.kitx_list I.kIn ⟨_,h1,rfl⟩ e (λz=>nomatch z) h
 | @tup a xs ea=>
  cases(show u=Value.ref a from rx);obtain⟨_,_,_,p⟩:=(show br X.prog X.w H s.heap a (.tup xs)from I.hok a _ ea);obtain⟨o,h1,h2,_⟩:=p;exact PySem.W.kia_one PySem.W.kitx_tuple I.kIn ⟨o,h1,h2⟩ e (λz=>nomatch z) h
 | @dK a kvs ea=>
  cases(show u=Value.ref a from rx);obtain⟨_,_,vs,_,p⟩:=(show br X.prog X.w H s.heap a (.dK kvs)from I.hok a _ ea);obtain⟨o,es,ep,h1,h2,_⟩:=p;exact PySem.W.kia_one PySem.W.kitx_dict I.kIn ⟨o,h1,h2.1⟩ e (λz=>nomatch z) h
 | @dT a kvs ea=>
  cases(show u=Value.ref a from rx);obtain⟨_,_,xs,_,o,es,ep,h1,h2,_⟩:=(show br X.prog X.w H s.heap a (.dT kvs)from I.hok a _ ea);exact PySem.W.kia_one PySem.W.kitx_dict I.kIn ⟨o,h1,h2.1⟩ e (λz=>nomatch z) h
 | @ins a C dx fs ea cl ha hn htk hm=>
  cases(show u=Value.ref a from rx);obtain⟨mA,O,_⟩:=zk I.hok ea;obtain⟨od,J,_⟩:=O.look;exact PySem.W.kia_one (PySem.W.kitx_own (cl.get _) cl.hd ha hn htk hm) I.kIn J e (λz=>nomatch z) h
end
structure Room(k:Nat)(A:Around):Prop where
 hd:A.handled=none
 dp:A.depth+3*k+5<recursionLimit
 un:A.units+16*k+200<cLine
def Room.mono{j k:Nat}{A:Around}(r:Room k A)(h:j<=k):Room j A:=⟨r.hd,by have:=r.dp;omega,by have:=r.un;omega⟩
def Room.deeper{k:Nat}{A:Around}(r:Room (k+1) A)(env:Env):Room k (A.deeper env):=
 ⟨r.hd,by have:=r.dp;show A.depth+1+3*k+5<_;omega,by have:=r.un;show A.units+3+16*k+200<_;omega⟩
def Room.depth{k:Nat}{A:Around}(r:Room k A):A.depth<recursionLimit:=by have:=r.dp;omega
def Room.units{k:Nat}{A:Around}(r:Room k A):A.units+64<cLine:=by have:=r.un;omega
def oO:TA:=λ_ H Q=>Q [] H
def lW(ta:TE)(tr:TA):TA:=λσ H Q=>ta σ H λx H1=>tr σ H1 λxs H2=>Q (x::xs) H2
section
variable {X:Cx} {e:Expr} {es:List Expr} {te:TE} {t:TA} {pos:Pos}
def ae:PA X [] oO:=λ_ _ _ _ H Q I h=>Calls.spliced_nil ⟨[],H,I,.nil,h⟩
def aa(ha:PE X e te)(hr:PA X es t)(hs:starEach (e::es) X.env=(false,eval e X.env)::starEach es X.env:=by rfl):PA X (e::es) (lW te t):=by intro pos pins s σ H Q I h;rw[hs];show wpAny _ _ (spliced ((false,eval e X.env)::backTo pos (starEach es X.env))) _ _ s;refine Calls.spliced_cons (ay (ha pins s σ H _ I h) λu s1 ⟨x,H1,I1,r1,q1⟩=>?_);exact ay (hr pos pins s1 σ H1 _ I1 q1) λus s2 ⟨xs,H2,I2,r2,q2⟩=>⟨x::xs,H2,I2,.cons r1 r2,q2⟩
def oa(t:TA):TE:=λσ H Q=>t σ H λxs H1=>xs.length<=sizeLine/\∀p,H1 p=none->Q (.ref p) (upd H1 p (.tup xs))
def uK(t:TA):TE:=λσ H Q=>t σ H λxs H1=>xs.length<=sizeLine/\∀p,H1 p=none->Q (.ref p) (upd H1 p (.lst xs))
def aR{x1}(h:PA X es t):PE X (.Tuple es x1 pos) (oa t):=by intro pins s σ H Q I hq;refine wpAny_Tuple_spliced (ay (h pos pins s σ H _ I hq) λus s1 ⟨xs,H1,I1,r,z,q⟩=>⟨by rw[←r.length];exact z,?_⟩);have hf:H1 s1.heap.objs.size=none:=I1.hok.fresh (F5 _);refine⟨.ref s1.heap.objs.size,upd H1 s1.heap.objs.size (.tup xs),I1.laid (t':=s1.toks) (λb u e=>FE _ e) (F5 _) ?_,rfl,q _ hf⟩;exact⟨z,us,r,⟨_,FF _ rfl,rfl,_,rfl⟩⟩
def bo(h:PA X es t):PE X (.List es pos) (uK t):=by intro pins s σ H Q I hq;refine wpAny_List_spliced (ay (h pos pins s σ H _ I hq) λus s1 ⟨xs,H1,I1,r,z,q⟩=>⟨by rw[←r.length];exact z,?_⟩);have hf:H1 s1.heap.objs.size=none:=I1.hok.fresh (F5 _);refine⟨.ref s1.heap.objs.size,upd H1 s1.heap.objs.size (.lst xs),I1.laid (t':=s1.toks) (λb u e=>FE _ e) (F5 _) ?_,rfl,q _ hf⟩;exact⟨z,us,0,r,FF _ rfl⟩
end
abbrev Sp:=List V->Hp->VK->XK->Prop
abbrev fA:=List Env->Hp->Shared->XK->Value->Shared->Prop
structure Env0(P:Program)(w:World)(K:FD)(mg:Str->Option Value)(base:Heap)(A:Around)(outer:List Env)(s:Shared)(H:Hp):Prop where
 frames:A.frames=some outer
 mod:Mod K mg base
 bs:∀b o,base.get? b=some o->s.heap.get? b=some o/\H b=none
 bsz:base.objs.size<=s.heap.objs.size
 funs:s.heap.FunFrames base outer
 frf:∀b∈aX outer,H b=none
 hok:bf P w H s.heap
 bare:AllBare s.gens
def CE(outer:List Env)(P:Program)(w:World)(H:Hp)(s:Shared)(Q:VK)(u:Value)(s':Shared):Prop:=
 ∃v H',s'.os=s.os/\AllBare s'.gens/\Un (aX outer) [] H H' s.heap s'.heap/\bf P w H' s'.heap/\RelV v u/\Q v H'
def CR(CX:fA)(outer:List Env)(P:Program)(w:World)(H:Hp)(s:Shared)(Q:VK)(E:XK)(r:Result)(s':Shared):Prop:=
 match r with
 | .ok (.ret u)=>CE outer P w H s Q u s'
 | .ok _=>False
 | .error e=>CX outer H s E e s'
structure FnOk(P:Program)(w:World)(K:FD)(mg:Str->Option Value)(base:Heap)(CX:fA)(k:Nat)(f:Addr)(fd:FuncData)(ps:List Str)(sp:Sp):Prop where
 len:∀vs H Q E,sp vs H Q E->vs.length=ps.length
 run:∀(A:Around) (outer:List Env) (s:Shared) (H:Hp) (args:Args) (us:List Value) (vs:List V) (Q:VK) (E:XK),Room k A->Env0 P w K mg base A outer s H->BindsTo s fd args (ps.zip us)->Vals vs us->sp vs H Q E →
  codeAny (model P w) A (.call (.ref f) args) (CR CX outer P w H s Q E) s
section
variable {X:Cx} {pins:List (Addr×Obj)} {σ:St} {H:Hp} {s s':Shared}
def Inv.env0(I:Inv X pins σ H s):Env0 X.prog X.w X.K X.mg X.base X.A X.stack s H:=
 ⟨I.ok.frames,I.ok.mod,I.bs,Gh I.ok.bsz I.sz,I.stack,I.stkFree,I.hok,I.bare⟩
def Inv.after{Q:VK}{u:Value}(I:Inv X pins σ H s)(h:CE X.stack X.prog X.w H s Q u s'):EP X pins σ Q u s':=by obtain⟨v,H',os,bare,un,hok,r,q⟩:=h;obtain⟨hh,g,d,t,os'⟩:=s';obtain rfl:os'=s.os:=os;exact⟨v,H',I.call (h':=hh) (g':=g) (d':=d) (t':=t) (ch:=[]) un hok bare (λb z=>absurd z (by simp)),r,q⟩
end
def iH(sp:Sp)(dvs:List V)(E:XK)(t:TA):TE:=λσ H Q=>t σ H λvs H1=>sp (vs++dvs) H1 Q E
def Binds(K:FD)(fd:FuncData)(ps:List Str)(ds:List Value):Prop:=
 ∀(s:Shared) (us:List Value),K.In s.heap->(us++ds).length=ps.length->BindsTo s fd ⟨us,[]⟩ (ps.zip (us++ds))
def Binds.all{K:FD}{fd:FuncData}{ps:List Str}(h:∀us:List Value,us.length=ps.length->bindArgs fd ⟨us,[]⟩=pure (ps.zip us)):Binds K fd ps []:=λs us _ hl=>by rw[List.append_nil]at hl ⊢;exact .of_eq (h us hl)
def Passes(CX:fA)(X:Cx)(E:XK):Prop:=∀(pins:List (Addr×Obj)) (σ:St) (H:Hp) (s:Shared) (e:Value) (s':Shared),Inv X pins σ H s->CX X.stack H s E e s'->X.xe e s'
section
variable {X:Cx} {CX:fA} {k:Nat} {f C:Addr} {fd:FuncData} {ps:List Str} {sp:Sp} {dvs:List V} {ds:List Value} {E:XK} {x m:Str} {p pos apos:Pos} {e o:Expr} {es:List Expr} {ta:TE} {t:TA}
def Ac{pins:List (Addr×Obj)}{σ:St}{H:Hp}{s:Shared}{Q:VK}{us:List Value}{vs:List V}(F:FnOk X.prog X.w X.K X.mg X.base CX k f fd ps sp)(hr:Room k X.A)(hb:Binds X.K fd ps ds)(hd:Vals dvs ds)(hx:Passes CX X E)
  (I:Inv X pins σ H s) (r:Vals vs us) (h:sp (vs++dvs) H Q E):wpAny (model X.prog X.w) X.A (call (.ref f) us) (EP X pins σ Q) X.xe s:=by
 have r2:Vals (vs++dvs) (us++ds):=r.append hd;have hl:(us++ds).length=ps.length:=by rw[←r2.length];exact F.len _ _ _ _ h
 refine wpAny_call (codeAny_mono (F.run X.A X.stack s H ⟨us,[]⟩ (us++ds) (vs++dvs) Q E hr I.env0 (hb s us I.kIn hl) r2 h) λr s' hq=>?_);cases r with
 | error e=>exact hx pins σ H s e s' I hq
 | ok fl=>
  cases fl with
  | ret u=>exact I.after hq
  | next=>exact False.elim hq
  | brk=>exact False.elim hq
  | cont=>exact False.elim hq
def xc(F:FnOk X.prog X.w X.K X.mg X.base CX k f fd ps sp)(hr:Room k X.A)(hg:Gl X x)(hm:X.mg x=some (.ref f))(hk:PySem.W.keepIn X.K (.ref f)=true)(hb:Binds X.K fd ps ds)(hd:Vals dvs ds)(hx:Passes CX X E)
  (ha:PA X (e::es) t) (hdb:(x == ("__debug__":Str))=false:=by decide) (he:starEach (e::es) X.env=(false,eval e X.env)::starEach es X.env:=by rfl) (hpl:(backTo pos (starEach es X.env)).any (·.1)=false:=by rfl) :
  PE X (.Call (.Name x p) (e::es) [] pos) (iH sp dvs E t):=by
 intro pins s σ H Q I h;refine wpAny_Call_Name_kw (f7 I hg hm ?_ hdb);refine PySem.W.callWith_K (h₀:=X.base) I.ok.mod.kin hk (ay (ha pos pins s σ H _ I h) λus s1 ⟨vs,H1,I1,r,q⟩=>⟨I1.kIn,?_⟩) he hpl;exact Ac F hr hb hd hx I1 r q
end
section
variable {X:Cx} {CX:fA} {k:Nat} {f C:Addr} {fd:FuncData} {ps ks:List Str} {sp:Sp} {E:XK} {x m:Str} {p pos apos kpos:Pos} {e o:Expr} {es:List Expr} {kws:List Keyword} {te ta:TE} {t tk:TA} {nm:Option Str}
variable {g:List Value->List Value->List Value} {gV:List V->List V->List V}
end
structure FnScope(N P:List Str)(sc:Scope):Prop where
 kind:sc.kind=.function
 co:sc.isCoroutine=false
 gen:sc.isGenerator=false
 nd:N.Nodup
 pre:N.take P.length=P
 par:∀x∈P,sc.names.lookup x=some .local\/sc.names.lookup x=some .cell
 nofree:∀y∈sc.names,y.2≠.free
def vb{kindOf:Str->Option NameKind}{x:Str}:∀{binds:List (Str×Value)} {m:Str->Option Value},(∀v,(x,v)∉binds)->bindL kindOf binds m x=m x
 | [],_,_=>rfl
 | (n,v)::r,m,h=>by
  unfold bindL;rw[vb λw hw=>h w (FK _ hw)];split
  ·have:x≠n:=by rintro rfl;exact h v FO
   simp[this]
  ·rfl
def vp{kindOf:Str->Option NameKind}{x:Str}:∀{binds:List (Str×Value)} {m:Str->Option Value},(∀v,(x,v)∉binds)->bindC kindOf binds m x=m x
 | [],_,_=>rfl
 | (n,v)::r,m,h=>by
  unfold bindC;rw[vp λw hw=>h w (FK _ hw)];split
  ·rfl
  ·have:x≠n:=by rintro rfl;exact h v FO
   simp[this]
def qi{kindOf:Str->Option NameKind}{x:Str}{v:Value}:∀{P:List Str} {vs:List Value} {i:Nat} {m:Str->Option Value},P.Nodup->P[i]?=some x->vs[i]?=some v->kindOf x=some .local →
  bindL kindOf (P.zip vs) m x=some v
 | [],_,_,_,_,h,_,_=>by simp at h
 | _::_,[],_,_,_,_,h,_=>by simp at h
 | p::P,w::vs,0,m,nd,h1,h2,hk=>by simp at h1 h2;subst h1;subst h2;show bindL kindOf ((p,w)::P.zip vs) m p=_;unfold bindL;rw[vb λv hv=>(List.nodup_cons.mp nd).1 (List.of_mem_zip hv).1,GH hk];simp
 | p::P,w::vs,i+1,m,nd,h1,h2,hk=>by show bindL kindOf ((p,w)::P.zip vs) m x=_;unfold bindL;exact qi (i:=i) (List.nodup_cons.mp nd).2 (by simpa using h1) (by simpa using h2) hk
def mr{kindOf:Str->Option NameKind}{x:Str}{v:Value}:∀{P:List Str} {vs:List Value} {i:Nat} {m:Str->Option Value},P.Nodup->P[i]?=some x->vs[i]?=some v->kindOf x≠some .local →
  bindC kindOf (P.zip vs) m x=some v
 | [],_,_,_,_,h,_,_=>by simp at h
 | _::_,[],_,_,_,_,h,_=>by simp at h
 | p::P,w::vs,0,m,nd,h1,h2,hk=>by simp at h1 h2;subst h1;subst h2;show bindC kindOf ((p,w)::P.zip vs) m p=_;unfold bindC;rw[vp λv hv=>(List.nodup_cons.mp nd).1 (List.of_mem_zip hv).1,GG hk];simp
 | p::P,w::vs,i+1,m,nd,h1,h2,hk=>by show bindC kindOf ((p,w)::P.zip vs) m x=_;unfold bindC;exact mr (i:=i) (List.nodup_cons.mp nd).2 (by simpa using h1) (by simpa using h2) hk
def start(N:List Str)(vs:List V):St:=vs.map some++Gu (N.length-vs.length) none
def bx(CX:fA)(P:Program)(w:World)(K:FD)(mg:Str->Option Value)(base:Heap)(N:List Str)(qual:Str)(scope:Scope)(f:Addr)(cd:Value)(A:Around)(outer:List Env)(s:Shared)(H:Hp)(E:XK):Cx where
 prog:=P
 w:=w
 K:=K
 mg:=mg
 base:=base
 A:=A.deeper (envOfC qual scope s.heap.objs.size f cd)
 N:=N
 s₀:=s
 H₀:=H
 env:=envOfC qual scope s.heap.objs.size f cd
 outer:=outer
 stack:=envOfC qual scope s.heap.objs.size f cd::outer
 ex:=[]
 calm:=true
 fn:=λ_=>true
 pn:=[]
 xe:=λe s'=>wpAny (model P w) (A.deeper (envOfC qual scope s.heap.objs.size f cd)) (leaving (envOfC qual scope s.heap.objs.size f cd) e) (λ_ s''=>CX outer H s E e s'') (λe' s''=>CX outer H s E e' s'') s'
def v8{sc:Scope}{n:Nat}{x:Str}(h:sc.names.lookup x=some .cell):∃c,(cellsFrom n sc.names []).lookup x=some c:=by have q:=PySem.W.cellsFrom_some sc.names n [] (.inl h);exact Option.isSome_iff_exists.mp q
def vL{CX:fA}{P:Program}{w:World}{K:FD}{mg:Str->Option Value}{base:Heap}{N ps:List Str}{qual:Str}{scope:Scope}{f:Addr}{cd:Value}{A:Around}{outer:List Env}{s s1:Shared}{H:Hp}{E:XK}{us:List Value}{vs:List V}
  (S:FnScope N ps scope) (hd:A.handled=none) (e0:Env0 P w K mg base A outer s H) (hl:vs.length=ps.length) (r:Vals vs us)
  (x:InCallC s s.heap.objs.size (bindL (envOfC qual scope s.heap.objs.size f cd).kindOf (ps.zip us) λ_=>none) (cellsFrom (s.heap.objs.size+1) scope.names []) (bindC (envOfC qual scope s.heap.objs.size f cd).kindOf (ps.zip us) λ_=>none) s1) :
  Inv (bx CX P w K mg base N qual scope f cd A outer s H E) [] (start N vs) H s1:=by
 have hpl:ps.length<=N.length:=by have:=congrArg List.length S.pre;rw[Gz]at this;omega
 obtain⟨h1,tk,rfl,hk⟩:=x.done;have noA:∀b:Addr,b∉(bx CX P w K mg base N qual scope f cd A outer s H E).ex:=λb z=>absurd (show b∈([]:List Addr)from z) (by simp);refine⟨⟨e0.mod,S.kind,rfl,rfl,F5 _,λy z c h1 h2=>?_,λy hy=>?_,λy c _ h=>?_,λ_=>hd,Around.frames_deeper e0.frames,.inr ⟨rfl,rfl⟩,λb z=>absurd z (noA b),e0.bs,e0.bsz,λb _ _=>noA b,λb z=>absurd z (noA b),e0.funs,e0.frf⟩,
  rfl,e0.bare,Un.kept hk,⟨_,x.toInCall.ns,λi y v h1 h2 h3=>?_⟩,λy c h=>⟨_,x.cell y c h⟩,e0.hok.fresh (F5 _),λy c h=>?_,λp hp=>absurd (show p∈([]:List (Addr×Obj))from hp) (by simp),e0.hok.kept hk,?_⟩
 ·exact name_of_addr x.apart (PySem.mem_of_lookup h1) (PySem.mem_of_lookup h2)
 ·have hy:scope.names.lookup y=some .cell\/scope.names.lookup y=some .free:=hy;rcases hy with hy|hy
  ·exact v8 hy
  ·exact absurd rfl (S.nofree _ (PySem.mem_of_lookup hy))
 ·exact Nat.le_of_lt (x.above y c (PySem.mem_of_lookup h))
 ·have hi:i<vs.length:=by
   unfold start at h2;by_cases hi:i<vs.length
   ·exact hi
   ·rw[F9 (by simpa using hi)]at h2;rw[List.getElem?_replicate]at h2;split at h2<;>cases h2
  have ha:vs[i]?=some v:=by
   unfold start at h2;rw[Ga (by simpa using hi),FJ]at h2;cases e:vs[i]? with
   | none=>rw[e]at h2;cases h2
   | some a=>rw[e]at h2;cases h2;rfl
  obtain⟨u,hu,rv⟩:=r.get ha;have hp:ps[i]?=some y:=by rw[←S.pre,List.getElem?_take_of_lt (by omega)];exact h1
  have ndP:ps.Nodup:=by rw[←S.pre];exact S.nd.sublist (List.take_sublist _ _)
  refine⟨u,rv,?_⟩;rcases S.par y (FR hp)with k|k
  ·exact .inl ⟨k,qi ndP hp hu k⟩
  ·obtain⟨c,e⟩:=v8 (n:=s.heap.objs.size+1) k;refine .inr ⟨.inl k,c,e,?_⟩;have q:=x.cell y c e;rw[mr ndP hp hu (by show scope.names.lookup y≠_;rw[k];decide)]at q;exact q
 ·exact e0.hok.fresh (Nat.le_of_lt (x.above y c (PySem.mem_of_lookup h)))
 ·unfold start;show _=N.length;rw[F0,FH,List.length_replicate];omega
def lG{CX:fA}{P:Program}{w:World}{K:FD}{mg:Str->Option Value}{base:Heap}{k:Nat}{f:Addr}{name qual:Str}{params:Arguments}{body:List Stmt}{scope:Scope}{dV kV doc pm cdv ct oc:Value}{an od:Option Addr}
  {osl:Array (Option Value)} {N ps:List Str} {sp:Sp} (lk:K.lookup f=some ⟨oc,od,.func (PySem.W.fnOf name qual params body scope dV kV doc pm an cdv ct),osl⟩) (hcd:PySem.W.codeIn K cdv qual=true) (S:FnScope N ps scope)
  (len:∀vs H Q E,sp vs H Q E->vs.length=ps.length)
  (hbody:∀(A:Around) (outer:List Env) (s:Shared) (H:Hp) (vs:List V) (Q:VK) (E:XK),Room k (A.deeper (envOfC qual scope s.heap.objs.size f cdv))->sp vs H Q E →
   ∃t,b6 (bx CX P w K mg base N qual scope f cdv A outer s H E) body t/\t { nx:=λ_ H'=>Q .non H',rt:=Q } (start N vs) H) :
  FnOk P w K mg base CX (k+1) f (PySem.W.fnOf name qual params body scope dV kV doc pm an cdv ct) ps sp:=by
 refine⟨len,λA outer s H args us vs Q E hr e0 hb r hsp=>?_⟩;have hl:=len _ _ _ _ hsp;have KX:K.In s.heap:=e0.mod.kin.keeps λb o e=>(e0.bs b o e).1;have lim:s.heap.NoLimit:=e0.mod.nolimit.keeps λb o e=>(e0.bs b o e).1;have hkind:∀y∈ps.zip us,scope.names.lookup y.1=some .local\/(scope.names.lookup y.1=some .cell/\((cellsFrom (s.heap.objs.size+1) scope.names []).lookup y.1).isSome=true):=λ⟨n,v⟩ hy=>by
  rcases S.par n (List.of_mem_zip hy).1 with q|q
  ·exact .inl q
  ·exact .inr ⟨q,PySem.W.cellsFrom_some _ _ _ (.inl q)⟩
 refine codeAny_call_function hr.depth (KX _ _ lk) rfl S.co S.gen rfl (PySem.W.codeRec_of KX hcd) (hb _ _ _ _ ?_);refine wpAny_newFunctionEnv_cells S.kind hkind λenv he s1 x=>?_;subst he;refine⟨lim.keeps x.toInCall.keep,codeAny_func ?_⟩;obtain⟨t,ht,hq⟩:=hbody A outer s H vs Q E (hr.deeper _) hsp;have I:Inv (bx CX P w K mg base N qual scope f cdv A outer s H E) [] (start N vs) H s1:=vL S hr.hd e0 hl r x;refine wpAny_mono (ht [] s1 (start N vs) H _ I hq) (λfl s' hs=>?_) λe s' hs=>hs;have fin:∀{σ':St} {H':Hp} {v:V} {u:Value},Inv (bx CX P w K mg base N qual scope f cdv A outer s H E) [] σ' H' s'->RelV v u->Q v H'->CE outer P w H s Q u s':=
  λ{σ' H' v u} J rv q=>⟨v,H',J.os,J.bare,J.base,J.hok,rv,q⟩
 cases fl with
 | ret u=>
  obtain⟨v,σ',H',J,rv,q⟩:=hs;exact fin J rv q
 | next=>
  obtain⟨σ',H',J,q⟩:=hs;exact fin (v:=V.non) (u:=Value.none) J rfl q
 | brk=>
  obtain⟨_,_,_,q⟩:=hs;exact False.elim q
 | cont=>
  obtain⟨_,_,_,q⟩:=hs;exact False.elim q
section
variable {X:Cx} {x:Str} {p pos:Pos} {e:Expr} {es:List Expr} {t:TA} {id T:String} {r:List V->Hp->VK->Prop}
def jN(r:List V->Hp->VK->Prop)(t:TA):TE:=λσ H Q=>t σ H λvs H1=>r vs H1 Q
def bq(hc:cJ X (.builtin id) r)(hg:Gl X x)(hm:X.mg x=none)(hv:bootBuiltins x=some (.builtin id))(ha:PA X (e::es) t)(hn:x≠"__name__":=by decide)(hdb:(x == ("__debug__":Str))=false:=by decide)
  (he:starEach (e::es) X.env=(false,eval e X.env)::starEach es X.env:=by rfl) (hpl:(backTo pos (starEach es X.env)).any (·.1)=false:=by rfl):PE X (.Call (.Name x p) (e::es) [] pos) (jN r t):=by
 intro pins s σ H Q I h;refine wpAny_Call_Name_kw (iq I hg hm hv ?_ hn hdb);exact PyProof.Rows.callWith_builtin1 (ay (ha pos pins s σ H _ I h) λus s1 ⟨vs,H1,I1,r1,q1⟩=>hc pins s1 σ H1 vs us Q I1 r1 q1) he hpl
def iM(hc:cJ X (.type T) r)(hg:Gl X x)(hm:X.mg x=none)(hv:bootBuiltins x=some (.type T))(ha:PA X (e::es) t)(hn:x≠"__name__":=by decide)(hdb:(x == ("__debug__":Str))=false:=by decide)
  (he:starEach (e::es) X.env=(false,eval e X.env)::starEach es X.env:=by rfl) (hpl:(backTo pos (starEach es X.env)).any (·.1)=false:=by rfl):PE X (.Call (.Name x p) (e::es) [] pos) (jN r t):=by
 intro pins s σ H Q I h;refine wpAny_Call_Name_kw (iq I hg hm hv ?_ hn hdb);exact PyProof.Rows.callWith_type1 (ay (ha pos pins s σ H _ I h) λus s1 ⟨vs,H1,I1,r1,q1⟩=>hc pins s1 σ H1 vs us Q I1 r1 q1) he hpl
end
end L2
namespace HT
open PySem PyProof.Rows
section
open PySem.SeqAt
open PySem.AutoSeq1 (wpAny_loadPart')
open PySem.MeetsSeq PySem.MeetsSeq2 PySem.MeetsSeq3
end
section
variable {prog:Program} {w:World} {A:Around} {E:Value->Shared->Prop} {s:Shared}
def Em{t b:Addr}{vs ws:List Value}{Q:Value->Shared->Prop}(ht:IsTup s.heap t vs.toArray)(hb:IsTup s.heap b ws.toArray)(hv:vs≠[])
  (h1:ws=[]->Q (.ref t) s) (h2:ws≠[]->Q (.ref s.heap.objs.size) { s with heap:=s.heap.push { cls:=.type "tuple",data:=.seq (vs++ws).toArray } })
  (hsz:vs.length+ws.length<=sizeLine):wpAny (model prog w) A (binaryOp .Add (.ref t) (.ref b)) Q E s:=by
 obtain⟨⟨cls,dd,data,sl⟩,ho,hc,n,hd⟩:=id ht;obtain⟨⟨cls2,dd2,data2,sl2⟩,ho2,hc2,n2,hd2⟩:=id hb;simp only at hc hd hc2 hd2;subst hc hd hc2 hd2;have e:vs.toArray++ws.toArray=(vs++ws).toArray:=by simp
 by_cases hw:ws=[]
 ·exact concat_meets ⟨_,ho,rfl⟩ ⟨_,ho2,rfl⟩ noFill_tuple_add seq_tuple_add PySem.F.slot_tuple_add PySem.F.entry_tuple_add (PySem.F.args_tuple_add_2 _ _)
   (tuple_addW1 t b vs.toArray ws.toArray n n2 dd dd2 sl sl2 (by simpa using hv) (by simp[hw])) ⟨ho,ho2,h1 hw⟩
 ·refine concat_meets ⟨_,ho,rfl⟩ ⟨_,ho2,rfl⟩ noFill_tuple_add seq_tuple_add PySem.F.slot_tuple_add PySem.F.entry_tuple_add (PySem.F.args_tuple_add_2 _ _)
   (tuple_addW2 t b vs.toArray ws.toArray n n2 dd dd2 sl sl2 (by simpa using hv) (by simpa using hw) (by rw[FN,FN];exact hsz)) ⟨ho,ho2,?_⟩
  rw[e];exact h2 hw
def aL(n d:Nat):Option Int->Nat
 | none=>d
 | some v=>if v<0 then(v+(n:Int)).toNat else min v.toNat n
def pR(n d:Nat):aL n d none=d:=rfl
def pJ(n d k:Nat):aL n d (some (k:Int))=min k n:=by show(if(k:Int)<0 then((k:Int)+(n:Int)).toNat else min (k:Int).toNat n)=min k n;rw[GG (by omega),FV]
def Dr(n d:Nat)(hd:d<=n)(o:Option Int):aL n d o<=n:=by
 cases o with
 | none=>exact hd
 | some v=>
  show(if v<0 then(v+(n:Int)).toNat else min v.toNat n)<=n;by_cases hv:v<0
  ·rw[GH hv];omega
  ·rw[GG hv];exact Nat.min_le_right _ _
def wg(v:Int)(n d:Nat):(if v<0 then max (v+(n:Int)) 0 else min v (n:Int))=((aL n d (some v):Nat):Int):=by
 show(if v<0 then max (v+(n:Int)) 0 else min v (n:Int))=(((if v<0 then(v+(n:Int)).toNat else min v.toNat n):Nat):Int);by_cases hv:v<0
 ·simp only[GH hv];omega
 ·simp only[GG hv];omega
def yY(lo hi:Option Int)(n:Nat):Builtin.Slice.sliceAdjust lo hi 1 (n:Int)=(((aL n 0 lo:Nat):Int),((aL n n hi:Nat):Int)):=by
 have h1:¬((1:Int)<0):=by omega
 unfold Builtin.Slice.sliceAdjust;simp only[h1,if_false];refine Prod.ext ?_ ?_
 ·cases lo with
  | none=>rfl
  | some v=>exact wg v n 0
 ·cases hi with
  | none=>rfl
  | some v=>exact wg v n n
def B7(i j:Nat):Builtin.Slice.slicePlaces (i:Int) (j:Int) 1=j-i:=by
 unfold Builtin.Slice.slicePlaces;have h1:(1:Int)>0:=by omega
 simp only[h1,if_true,Int.ediv_one];split<;>omega
def sf{v:Value}{o:Option Int}{Q:Option Int->Shared->Prop}(p:IsPart v o)(h:Q o s):wpAny (model prog w) A (Builtin.Slice.slicePartIndex v) Q E s:=by
 cases p with
 | none=>exact slicePart_none h
 | int i t=>exact slicePart_int h
def rS{sl:Addr}{vl vu:Value}{lo hi:Option Int}{n:Nat}{Q:Int×Int×Nat->Shared->Prop}(hs:s.heap.IsSliceOf sl vl vu .none)(pl:IsPart vl lo)(pu:IsPart vu hi)
  (h:Q (((aL n 0 lo:Nat):Int),1,aL n n hi-aL n 0 lo) s):wpAny (model prog w) A (Builtin.Slice.sliceApplied (.ref sl) (pure (n:Int))) Q E s:=by
 obtain⟨os,hos,hcs,hds⟩:=id hs;unfold Builtin.Slice.sliceApplied Builtin.Slice.sliceFields;refine FA (FA (wpAny_field hos hds (x:=vl) rfl (FA (wpAny_field hos hds (x:=vu) rfl (FA (wpAny_field hos hds (x:=.none) rfl (FC ?_)))))));refine FA (slicePart_none ?_);show wpAny _ _ (if((1:Int) == 0)=true then _ else _) _ _ s;rw[GG (by decide)];refine FA (sf pl (FA (sf pu (FA (FC ?_)))));show wpAny _ _ (match Builtin.Slice.sliceAdjust lo hi 1 (n:Int)with|(lo,hi)=>pure (lo,(1:Int),Builtin.Slice.slicePlaces lo hi 1)) _ _ s;rw[yY lo hi n];show wpAny _ _ (pure (((aL n 0 lo:Nat):Int),(1:Int),Builtin.Slice.slicePlaces ((aL n 0 lo:Nat):Int) ((aL n n hi:Nat):Int) 1)) _ _ s;rw[B7];exact FC h
def EZ(xs:Array Value)(i k:Nat):((GC k).filterMap λ(m:Nat)=>xs[((i:Int)+(m:Int)*1).toNat]?).toArray=((xs.toList.drop i).take k).toArray:=by
 have e:(λ(m:Nat)=>xs[((i:Int)+(m:Int)*1).toNat]?)=λm=>xs[i+m]?:=by
  funext m;have:((i:Int)+(m:Int)*1).toNat=i+m:=by omega
  rw[this]
 rw[e];have:=pick_run xs i k;rw[List.filterMap_map]at this;have e2:((λx=>xs[x]?)∘λx=>i+x)=λm=>xs[i+m]?:=rfl;rw[e2]at this;rw[this]
def yZ{t sl:Addr}{items:Array Value}{vl vu:Value}{lo hi:Option Int}{Q:Value->Shared->Prop}(ht:IsTup s.heap t items)(hs:s.heap.IsSliceOf sl vl vu .none)(pl:IsPart vl lo)(pu:IsPart vu hi)
  (hw:¬(aL items.size 0 lo=0/\aL items.size items.size hi=items.size))
  (h:Q (.ref s.heap.objs.size) { s with heap:=s.heap.push { cls:=.type "tuple",data:=.seq ((items.toList.drop (aL items.size 0 lo)).take (aL items.size items.size hi-aL items.size 0 lo)).toArray } })
  (hsz:items.size<=sizeLine):wpAny (model prog w) A (getItem (.ref t) (.ref sl)) Q E s:=by
 have htake:sizeOk (.seq ((items.toList.drop (aL items.size 0 lo)).take (aL items.size items.size hi-aL items.size 0 lo)).toArray):=by show((items.toList.drop (aL items.size 0 lo)).take (aL items.size items.size hi-aL items.size 0 lo)).toArray.size<=sizeLine;rw[FN,Gz,List.length_drop,FL];omega
 have hj:aL items.size items.size hi<=items.size:=Dr _ _ (F5 _) hi;obtain⟨os,hos,hcs,hds⟩:=id hs;have hTs:s.TypeIs (.ref sl) "slice":=⟨os,hos,hcs⟩;unfold getItem
 try with_reducible refine wpAny_holding ?_
 first|refine FA (FC ?_)|skip
 refine FA (wpAny_sequenceKey ht.typeIs (by decide) ?_);refine FA (wpAny_callSpecial?_slot (name:=Gp "__getitem__") ht.typeIs PyProof.Rows.slot_tuple_getitem
  (wpAny_call_entry PyProof.Rows.slot_tuple_getitem ht.typeIs entry_tuple_getitem ?_ (args_tuple_getitem _ _)))
 show wpAny _ _ (Builtin.Tuple.tupleItemsOf (.ref t) >>= _) _ _ s;refine FA (tupleItemsOf_ ht ?_);refine FA (wpAny_typeOf hTs ?_);rw[GH (by decide)];refine FA (rS hs pl pu ?_);have hno:¬((((aL items.size 0 lo:Nat):Int) == 0 && (1:Int) == 1 && (aL items.size items.size hi-aL items.size 0 lo) == items.size)=true):=by intro q;rw[Gn,Gn]at q;have q1:((aL items.size 0 lo:Nat):Int)=0:=eq_of_beq q.1.1;have q2:aL items.size items.size hi-aL items.size 0 lo=items.size:=eq_of_beq q.2;exact hw ⟨by omega,by omega⟩
 show wpAny _ _ (if(((aL items.size 0 lo:Nat):Int) == 0 && (1:Int) == 1 && (aL items.size items.size hi-aL items.size 0 lo) == items.size)=true then _ else _) _ _ s;rw[GG hno,EZ]
 first
  | exact FA (m:=Builtin.Tuple.tupleExact _) (wpAny_newObj_type (FC ⟨_,rfl,FC h⟩) htake)
  | exact FA (m:=Builtin.Tuple.tupleExact _) (wpAny_newObj_type (FA (FC (FC ⟨_,rfl,FC h⟩))) htake)
  | exact FA (FA (m:=Builtin.Tuple.tupleExact _) (wpAny_newObj_type (FC (FC ⟨_,rfl,FC h⟩)) htake))
  | exact FA (FA (m:=Builtin.Tuple.tupleExact _) (wpAny_newObj_type (FC ⟨_,rfl,FC h⟩) htake))
end
end HT
namespace L2
open PySem PySem.Spec PyProof.Rows
abbrev TO:=St->Hp->(Option Int->Hp->Prop)->Prop
def PO(X:Cx)(e:Option Expr)(t:TO):Prop:=
 ∀(pins:List (Addr×Obj)) (s:Shared) (σ:St) (H:Hp) (Q:Option Int->Hp->Prop),Inv X pins σ H s->t σ H Q →
  wpAny (model X.prog X.w) X.A (evalPart e X.env) (λu s'=>∃o H',Inv X pins σ H' s'/\IsPart u o/\Q o H') X.xe s
def wN:TO:=λ_ H Q=>Q none H
def uC(t:TE):TO:=λσ H Q=>t σ H λx H1=>∃i,x=.int i/\Q (some i) H1
section
variable {X:Cx} {e:Expr} {te:TE} {lo hi:Option Expr} {tl th:TO} {pos p2:Pos}
def gO:PO X none wN:=by intro pins s σ H Q I h;rw[evalPart_none];exact FC ⟨none,H,I,.none,h⟩
def fF(h:PE X e te):PO X (some e) (uC te):=by intro pins s σ H Q I hw;rw[evalPart_some];refine ay (h pins s σ H _ I hw) λu s1 ⟨x,H1,I1,r1,q1⟩=>?_;obtain⟨i,rfl,q⟩:=q1;obtain⟨t,rfl⟩:=r1;exact⟨some i,H1,I1,.int i t,q⟩
def jC(X:Cx)(r:V->Option Int->Option Int->Hp->VK->Prop):Prop:=
 ∀(pins:List (Addr×Obj)) (s:Shared) (σ:St) (H:Hp) (x:V) (v vl vu:Value) (lo hi:Option Int) (sl:Addr) (Q:VK),Inv X pins σ H s->RelV x v->s.heap.IsSliceOf sl vl vu .none->IsPart vl lo->IsPart vu hi->r x lo hi H Q →
  ∃T id,typeLookup (.type T) "__getitem__" = pure (some (.builtin id))/\s.TypeIs v T/\wpAny (model X.prog X.w) X.A (getItem v (.ref sl)) (EP X pins σ Q) X.xe s
def qW(r:V->Option Int->Option Int->Hp->VK->Prop)(te:TE)(tl th:TO):TE:=λσ H Q=>te σ H λx H1=>tl σ H1 λl H2=>th σ H2 λu H3=>r x l u H3 Q
def gj{r:V->Option Int->Option Int->Hp->VK->Prop}(hr:jC X r)(he:PE X e te)(hl:PO X lo tl)(hu:PO X hi th):PE X (.Subscript e (.Slice lo hi none p2) pos) (qW r te tl th):=by intro pins s σ H Q I h;refine Subscript_ (ay (he pins s σ H _ I h) λv s1 ⟨x,H1,I1,r1,q1⟩=>?_);refine wpAny_Slice (ay (hl pins s1 σ H1 _ I1 q1) λvl s2 ⟨l,H2,I2,pl,q2⟩=>ay (hu pins s2 σ H2 _ I2 q2) λvu s3 ⟨u,H3,I3,pu,q3⟩=>?_);rw[evalPart_none];refine FC ?_;have I4:Inv X pins σ H3 { s3 with heap:=s3.heap.push { cls:=.type "slice",data:=.fields #[vl,vu,.none] } }:=I3.kept (t':=s3.toks) λb ob q=>FE _ q;obtain⟨T,id,hT,ht,hg⟩:=hr pins { s3 with heap:=s3.heap.push { cls:=.type "slice",data:=.fields #[vl,vu,.none] } } σ H3 x v vl vu l u s3.heap.objs.size Q I4 r1 (Heap.IsSliceOf.new ..) pl pu q3;show wpAny (model X.prog X.w) X.A (subscriptTail e (.Slice lo hi none p2) v (.ref s3.heap.objs.size)) (EP X pins σ Q) X.xe { s3 with heap:=s3.heap.push { cls:=.type "slice",data:=.fields #[vl,vu,.none] } };exact tail_any (ops:=[.ref s3.heap.objs.size,v]) ht hT hg (by with_unfolding_all rfl)
def bW(xs:List V)(lo hi:Option Int):List V:=(xs.drop (HT.aL xs.length 0 lo)).take (HT.aL xs.length xs.length hi-HT.aL xs.length 0 lo)
def mX(xs:List V)(lo hi:Option Int):(bW xs lo hi).length<=xs.length:=by unfold bW;rw[Gz,List.length_drop];omega
def DT(K:FD):V->Option Int->Option Int->Hp->VK->Prop:=λx lo hi H Q=>∃a xs,x=.ref a/\ao K H a xs ∧
 ¬(HT.aL xs.length 0 lo=0/\HT.aL xs.length xs.length hi=xs.length)/\∀p,H p=none->Q (.ref p) (upd H p (.tup (bW xs lo hi)))
def BU:jC X (DT X.K):=by
 intro pins s σ H x v vl vu lo hi sl Q I rx hs pl pu h;obtain⟨a,xs,rfl,hx,hw,q⟩:=h;cases rx;obtain⟨its,r,ht,hz⟩:=I.tuple hx;have hlen:its.toArray.size=xs.length:=by rw[FN];exact r.length.symm
 refine⟨"tuple",_,PyProof.Rows.slot_tuple_getitem.lookup,ht.typeIs,?_⟩;refine HT.yZ ht hs pl pu (by rw[hlen];exact hw) ?_ (by rw[hlen];exact hz);rw[hlen];refine⟨.ref s.heap.objs.size,_,I.laid (t':=s.toks) (o:=.tup (bW xs lo hi)) (λb ob q=>FE _ q) (F5 _) ?_,rfl,q _ (I.hok.fresh (F5 _))⟩;exact⟨Gh (mX xs lo hi) hz,_,(r.drop (HT.aL xs.length 0 lo)).take (HT.aL xs.length xs.length hi-HT.aL xs.length 0 lo),IsTup.new _ _⟩
def Al(K:FD):R2:=λx y H Q=>∃a b xs ys,x=.ref a/\y=.ref b/\ao K H a xs/\ao K H b ys/\xs≠[]/\xs.length+ys.length<=sizeLine ∧
 (ys=[]->Q (.ref a) H)/\(ys≠[]->∀p,H p=none->Q (.ref p) (upd H p (.tup (xs++ys))))
def Vals.nil_iff{xs:List V}{us:List Value}(r:Vals xs us):us=[]↔xs=[]:=by
 cases r with
 | nil=>simp
 | cons _ _=>simp
def AR:bG X (binaryOp .Add) (Al X.K):=by intro pins s σ H x y v u Q I rx ry h;obtain⟨a,b,xs,ys,rfl,rfl,ha,hb,hx,hz,q1,q2⟩:=h;cases rx;cases ry;obtain⟨its,r1,p1,_⟩:=I.tuple ha;obtain⟨its2,r2,p2,_⟩:=I.tuple hb;refine HT.Em p1 p2 (λz=>hx (r1.nil_iff.mp z)) (λz=>⟨.ref a,H,I,rfl,q1 (r2.nil_iff.mp z)⟩) (λz=>?_) (by rw[←r1.length,←r2.length];exact hz);refine⟨.ref s.heap.objs.size,_,I.laid (t':=s.toks) (o:=.tup (xs++ys)) (λb ob q=>FE _ q) (F5 _) ?_,rfl,q2 (λw=>z (r2.nil_iff.mpr w)) _ (I.hok.fresh (F5 _))⟩;exact⟨by rw[F0];exact hz,_,r1.append r2,IsTup.new _ _⟩
end
def fb(n:Nat)(i:Int):Option Nat:=if 0<=i then(if i<n then some i.toNat else none)else if -(n:Int)<=i then some (i+n).toNat else none
def bF{α:Type}(xs:List α)(i:Int):Option α:=(fb xs.length i).bind λj=>xs[j]?
def v9{n:Nat}{i:Int}{j:Nat}(h:fb n i=some j):seqIndex? i n=some j/\j<n/\-(n:Int)<=i/\i<n:=by
 unfold fb at h;by_cases h0:0<=i
 ·rw[GH h0]at h;by_cases h1:i<n
  ·rw[GH h1]at h;have e:i.toNat=j:=Gq h;exact⟨by rw[seqIndex_of h0 h1,e],by omega,by omega,h1⟩
  ·rw[GG h1]at h;cases h
 ·rw[GG h0]at h;by_cases h1:-(n:Int)<=i
  ·rw[GH h1]at h;have e:(i+n).toNat=j:=Gq h;exact⟨by rw[seqIndex_neg (by omega) h1,e],by omega,h1,by omega⟩
  ·rw[GG h1]at h;cases h
def pC{α:Type}{xs:List α}{i:Int}{v:α}(h:bF xs i=some v):∃j,seqIndex? i xs.length=some j/\xs[j]?=some v/\j<xs.length/\-(xs.length:Int)<=i/\i<xs.length:=by
 unfold bF at h;cases e:fb xs.length i with
 | none=>rw[e]at h;cases h
 | some j=>
  rw[e]at h;obtain⟨h1,h2,h3,h4⟩:=v9 e;exact⟨j,h1,h,h2,h3,h4⟩
def fE{α:Type}{xs:List α}{j:Nat}{v:α}(h:xs[j]?=some v):bF xs (j:Int)=some v:=by
 have hj:j<xs.length:=(FQ.mp h).1;have e:fb xs.length (j:Int)=some j:=by unfold fb;rw[GH (by omega),GH (by omega)];simp
 unfold bF;rw[e];exact h
def BE(b:Expr):Prop:=∀o i,subscripted b false o i=operate [o,i] (getItem o i)
def il(X:Cx)(r:R2):Prop:=
 ∀(value slice:Expr) (pins:List (Addr×Obj)) (s:Shared) (σ:St) (H:Hp) (x y:V) (v u:Value) (Q:VK),Inv X pins σ H s->RelV x v->RelV y u->r x y H Q →
  subscripted slice false v u=operate [v,u] (getItem v u)->wpAny (model X.prog X.w) X.A (subscriptTail value slice v u) (EP X pins σ Q) X.xe s
def kA(X:Cx)(id:String)(r:V->List V->Hp->VK->Prop):Prop:=
 ∀(pins:List (Addr×Obj)) (s:Shared) (σ:St) (H:Hp) (x:V) (xs:List V) (v:Value) (us:List Value) (Q:VK),Inv X pins σ H s->RelV x v->Vals xs us->r x xs H Q →
  wpAny (model X.prog X.w) X.A (call (.builtin id) (v::us)) (EP X pins σ Q) X.xe s
section
variable {X:Cx} {a b:Expr} {ta tb:TE} {pos:Pos}
def ah{r:R2}(hr:il X r)(ha:PE X a ta)(hb:PE X b tb)(hs:BE b):PE X (.Subscript a b pos) (iF r ta tb):=by intro pins s σ H Q I h;exact Subscript_ (qO ha hb I h λv u s2 x y H2 I2 rx ry q=>hr a b pins s2 σ H2 x y v u Q I2 rx ry q (hs _ _))
def nz(K:FD):R2:=λx y H Q=>∃p xs i v,x=.ref p/\y=.int i/\ag K H p xs/\bF xs i=some v/\Q v H
def pV(K:FD):R2:=λx y H Q=>∃p xs i v,x=.ref p/\y=.int i/\ao K H p xs/\bF xs i=some v/\Q v H
def BO:R2:=λx y H Q=>∃z i c,x=.str z/\y=.int i/\z.length<=sizeLine/\bF z.cps.toList i=some c/\Q (.str ⟨#[c]⟩) H
def En:il X (nz X.K):=by
 intro value slice pins s σ H x y v u Q I rx ry h hs;obtain⟨p,xs,i,z,rfl,rfl,hq,he,q⟩:=h;cases rx;obtain⟨t,rfl⟩:=ry;obtain⟨its,r,pl,hz⟩:=I.list hq;obtain⟨j,h1,h2,h3,h4,h5⟩:=pC he;obtain⟨w,ew,rw'⟩:=r.get h2;have hl:=r.length;have hn:=iT;have fin:EP X pins σ Q w s:=⟨z,H,I,rw',q⟩;by_cases h0:0<=i
 ·have hj:i.toNat=j:=by rw[seqIndex_of h0 h5]at h1;exact Gq h1
  exact item_listR pl.isList h0 (by omega) (by rw[hj];simpa using ew) fin hs
 ·have hj:(i+(its.toArray.size:Int)).toNat=j:=by rw[seqIndex_neg (by omega) h4]at h1;rw[FN,←hl];exact Gq h1
  exact subscriptTail_builtinR (x:=w) pl.isList.typeIs slot_list_getitem.lookup
   (wpAny_getItem_list_neg (Q:=λr s'=>r=w/\EP X pins σ Q r s') pl.isList (by omega) (by rw[FN]<;>omega) (by omega) (by rw[hj];simpa using ew) ⟨rfl,fin⟩) hs
def ER:il X (pV X.K):=by
 intro value slice pins s σ H x y v u Q I rx ry h hs;obtain⟨p,xs,i,z,rfl,rfl,hq,he,q⟩:=h;cases rx;obtain⟨t,rfl⟩:=ry;obtain⟨its,r,pl,hz⟩:=I.tuple hq;obtain⟨j,h1,h2,h3,h4,h5⟩:=pC he;obtain⟨w,ew,rw'⟩:=r.get h2;have hl:=r.length;have hn:=iT;have fin:EP X pins σ Q w s:=⟨z,H,I,rw',q⟩;exact subscriptTail_builtinR (x:=w) pl.typeIs slot_tuple_getitem.lookup
  (getItem_tuple (j:=j) (Q:=λr s'=>r=w/\EP X pins σ Q r s') pl (by omega) (by omega) (by rw[FN,←hl];exact h1) (by simpa using ew) ⟨rfl,fin⟩) hs
def rC:il X BO:=by
 intro value slice pins s σ H x y v u Q I rx ry h hs;obtain⟨z,i,c,rfl,rfl,hz,he,q⟩:=h;obtain⟨t,rfl⟩:=rx;obtain⟨t',rfl⟩:=ry;obtain⟨j,h1,h2,h3,h4,h5⟩:=pC he;have hl:z.cps.toList.length=z.length:=by simp[Str.length]
 rw[hl]at h1 h4 h5;have hn:=iT;exact tail_any (typeIs_str s z t) slot_str_getitem.lookup (getItem_str (c:=c) (by have e1:decide (i < -(2 ^ 63:Int))=false:=GD (by omega);have e2:decide (i ≥ 2 ^ 63)=false:=GD (by omega);rw[e1,e2,Bool.or_false]) (by rw[h1];simpa using h2) ⟨.str ⟨#[c]⟩,H,I.tok _,⟨_,rfl⟩,q⟩) hs
def yF(its:List Value)(n j:Nat)(u:Value):Obj.mapSeq (·.setIfInBounds j u) { cls:=.type "list",data:=.seq its.toArray n }={ cls:=.type "list",data:=.seq (its.set j u).toArray n }:=by simp[Obj.mapSeq]
def Inv.lst{pins:List (Addr×Obj)}{σ:St}{H:Hp}{s:Shared}{p:Addr}{xs:List V}(I:Inv X pins σ H s)(h:H p=some (.lst xs)):
  ∃(its:List Value) (n:Nat),Vals xs its/\s.heap.get? p=some { cls:=.type "list",data:=.seq its.toArray n }/\xs.length<=sizeLine:=by
 obtain⟨z,its,n,r,e⟩:=I.hok p _ h;exact⟨its,n,r,e,z⟩
def Inv.lstUpd{pins:List (Addr×Obj)}{σ:St}{H:Hp}{s:Shared}{p:Addr}{xs ys:List V}{its its':List Value}{n n':Nat}{f:Obj->Obj}(I:Inv X pins σ H s)(h:H p=some (.lst xs))
  (ho:s.heap.get? p=some { cls:=.type "list",data:=.seq its.toArray n }) (hf:f { cls:=.type "list",data:=.seq its.toArray n }={ cls:=.type "list",data:=.seq its'.toArray n' }) (r:Vals ys its') (hz:ys.length<=sizeLine) (t:Nat) :
  Inv X pins σ (upd H p (.lst ys)) { s with heap:=s.heap.update p f,toks:=t }:=by
 have e:(s.heap.update p f).get? p=some { cls:=.type "list",data:=.seq its'.toArray n' }:=by rw[Heap.get?_update_self f ho (by rw[hf]<;>rfl),hf]
 refine I.write (x:=p) (e:=p) (by rw[h];trivial) (.inl rfl) (λb u hb q=>(Heap.get?_update_other _ _ (Ne.symm hb)).trans q) ⟨_,e⟩ ?_;exact⟨hz,its',n',r,e⟩
def xq:V->V->V->Hp->(Hp->Prop)->Prop:=λo i v H Q=>∃p xs k j,o=.ref p/\i=.int k/\H p=some (.lst xs)/\fb xs.length k=some j/\Q (upd H p (.lst (xs.set j v)))
def set_list:yD X xq:=by
 intro pins s σ H o i v ov iv u Q I ro ri rv h;obtain⟨p,xs,k,j,rfl,rfl,hp,hj,q⟩:=h;cases ro;obtain⟨t,rfl⟩:=ri;obtain⟨its,n,r,ho,hz⟩:=I.lst hp;obtain⟨h1,h2,h3,h4⟩:=v9 hj;have hl:=r.length;have hn:=iT;have I':Inv X pins σ (upd H p (.lst (xs.set j v))) { s with heap:=s.heap.update p (Obj.mapSeq (·.setIfInBounds j u)) }:=
  I.lstUpd hp ho (yF its n j u) (r.set rv j) (by rw[List.length_set];exact hz) s.toks
 by_cases h0:0<=k
 ·have hk:k.toNat=j:=by rw[seqIndex_of h0 h4]at h1;exact Gq h1
  exact PySem.W.ki_setAt ho h0 (by omega) (by rw[FN,←hl];exact h4) (by rw[hk];exact⟨_,I',q⟩)
 ·have hk:(k+(its.toArray.size:Int)).toNat=j:=by rw[seqIndex_neg (by omega) h3]at h1;rw[FN,←hl];exact Gq h1
  exact PySem.W.ki_setBack ho (by omega) (by rw[FN,←hl];exact h3) (by omega) (by rw[hk];exact⟨_,I',q⟩)
def Bv(lo hi:Option Int)(n:Nat):(sliceBounds lo hi none n).1=((HT.aL n 0 lo:Nat):Int)/\(sliceBounds lo hi none n).2.1=((HT.aL n n hi:Nat):Int)/\(sliceBounds lo hi none n).2.2=1:=by
 refine⟨?_,?_,rfl⟩
 ·cases lo with
  | none=>simp[sliceBounds,HT.aL]
  | some i=>
   simp only[sliceBounds,HT.aL,Option.getD_none,show (1:Int)>0 by decide,if_true];by_cases h:i<0
   ·simp only[h,if_true]<;>omega
   ·simp only[h,if_false]<;>omega
 ·cases hi with
  | none=>simp[sliceBounds,HT.aL]
  | some i=>
   simp only[sliceBounds,HT.aL,Option.getD_none,show (1:Int)>0 by decide,if_true];by_cases h:i<0
   ·simp only[h,if_true]<;>omega
   ·simp only[h,if_false]<;>omega
def Ep(its:List Value)(lo hi:Option Int):slicePick its.toArray lo hi none=((its.drop (HT.aL its.length 0 lo)).take (HT.aL its.length its.length hi-HT.aL its.length 0 lo)).toArray:=by obtain⟨h1,h2,h3⟩:=Bv lo hi its.toArray.size;unfold slicePick;rw[h1,h2,h3];simp only[sliceRange_one,pick_run,FN]<;>rfl
def pX(K:FD):V->Option Int->Option Int->Hp->VK->Prop:=λx lo hi H Q=>∃a xs,x=.ref a/\ag K H a xs/\∀p,H p=none->Q (.ref p) (upd H p (.lst (bW xs lo hi)))
def Eb:jC X (pX X.K):=by intro pins s σ H x v vl vu lo hi sl Q I rx hs pl pu h;obtain⟨a,xs,rfl,hx,q⟩:=h;cases rx;obtain⟨its,r,ht,hz⟩:=I.list hx;have hlen:=r.length;refine⟨"list",_,slot_list_getitem.lookup,ht.isList.typeIs,?_⟩;refine wpAny_getItem_list_slice ht.isList hs pl pu .none (by simp) ?_ (by rw[FN]<;>omega);rw[Ep,←hlen];refine⟨.ref s.heap.objs.size,_,I.laid (t':=s.toks) (o:=.lst (bW xs lo hi)) (λb ob q=>FE _ q) (F5 _) ?_,rfl,q _ (I.hok.fresh (F5 _))⟩;exact⟨Gh (mX xs lo hi) hz,_,0,(r.drop (HT.aL xs.length 0 lo)).take (HT.aL xs.length xs.length hi-HT.aL xs.length 0 lo),FF _ rfl⟩
def eP:V->Bool
 | .non=>true
 | .bl _=>true
 | .int _=>true
 | .str _=>true
 | _=>false
def gB:V->V->Bool
 | .non,.non=>true
 | .bl a,.bl b=>a == b
 | .bl a,.int b=>(if a then 1 else 0) == b
 | .int a,.bl b=>a == (if b then 1 else 0)
 | .int a,.int b=>a == b
 | .str a,.str b=>a == b
 | _,_=>false
def AG{A:Around}{s:Shared}{y x:V}{u v:Value}(ry:RelV y u)(rx:RelV x v)(fy:eP y=true)(fx:eP x=true):SeqAt.EqAt A s u v (gB y x):=by
 cases y with
 | non=>
  cases ry;cases x with
  | non=>cases rx;exact SeqAt.EqAt.same _
  | bl b=>cases rx;exact SeqAt.EqAt.none_bool b
  | int b=>obtain⟨t,rfl⟩:=rx;exact SeqAt.EqAt.none_int b t
  | str b=>obtain⟨t,rfl⟩:=rx;exact SeqAt.EqAt.none_str b t
  | _=>exact absurd (show false=true from fx) FY
 | bl a=>
  cases ry;cases x with
  | non=>cases rx;exact SeqAt.EqAt.bool_none a
  | bl b=>cases rx;exact SeqAt.EqAt.bool_bool a b
  | int b=>obtain⟨t,rfl⟩:=rx;exact SeqAt.EqAt.bool_int a b t
  | str b=>obtain⟨t,rfl⟩:=rx;exact SeqAt.EqAt.bool_str a b t
  | _=>exact absurd (show false=true from fx) FY
 | int a=>
  obtain⟨t',rfl⟩:=ry;cases x with
  | non=>cases rx;exact SeqAt.EqAt.int_none a t'
  | bl b=>cases rx;exact SeqAt.EqAt.int_bool a t' b
  | int b=>obtain⟨t,rfl⟩:=rx;exact SeqAt.EqAt.int_int a t' b t
  | str b=>obtain⟨t,rfl⟩:=rx;exact SeqAt.EqAt.int_str a t' b t
  | _=>exact absurd (show false=true from fx) FY
 | str a=>
  obtain⟨t',rfl⟩:=ry;cases x with
  | non=>cases rx;exact SeqAt.EqAt.str_none a t'
  | bl b=>cases rx;exact SeqAt.EqAt.str_bool a t' b
  | int b=>obtain⟨t,rfl⟩:=rx;exact SeqAt.EqAt.str_int a t' b t
  | str b=>obtain⟨t,rfl⟩:=rx;exact SeqAt.EqAt.str_str a t' b t
  | _=>exact absurd (show false=true from fx) FY
 | _=>exact absurd (show false=true from fy) FY
def fV(x:V)(u:Value):Bool:=match u with
 | .none=>gB .non x
 | .bool b=>gB (.bl b) x
 | .int i _=>gB (.int i) x
 | .str z _=>gB (.str z) x
 | _=>false
def w5{x y:V}{u:Value}(r:RelV y u)(f:eP y=true):fV x u=gB y x:=by
 cases y with
 | non=>cases r;rfl
 | bl b=>cases r;rfl
 | int i=>obtain⟨t,rfl⟩:=r;rfl
 | str z=>obtain⟨t,rfl⟩:=r;rfl
 | _=>exact absurd (show false=true from f) FY
def o6{x:V}:∀{xs:List V} {us:List Value},Vals xs us->xs.all eP=true->us.any (fV x)=xs.any λy=>gB y x
 | _,_,.nil,_=>rfl
 | y::xs,u::us,.cons r t,f=>by rw[List.all_cons,Gn]at f;rw[List.any_cons,List.any_cons,w5 r f.1,o6 t f.2]
def oV{A:Around}{s:Shared}{x:V}{v:Value}(rx:RelV x v)(fx:eP x=true):∀{xs:List V} {us:List Value},Vals xs us->xs.all eP=true->∀u∈us,SeqAt.EqAt A s u v (fV x u)
 | _,_,.nil,_=>λu hu=>by cases hu
 | y::xs,u::us,.cons r t,f=>λu' hu=>by
  rw[List.all_cons,Gn]at f;rcases FX.mp hu with rfl|hu
  ·rw[w5 r f.1];exact AG r rx f.1 fx
  ·exact oV rx fx t f.2 u' hu
def iO(x:V)(xs:List V):Bool:=xs.any λy=>gB y x
def mR(K:FD)(neg:Bool):R2:=λx y H Q=>∃p xs,y=.ref p/\(ag K H p xs\/ao K H p xs)/\eP x=true/\xs.all eP=true/\Q (.bl (if neg then !iO x xs else iO x xs)) H
def Ei:bG X (compareOp .In) (mR X.K false):=by
 intro pins s σ H x y v u Q I rx ry h;obtain⟨p,xs,rfl,hq,fx,fs,q⟩:=h;cases ry;rcases hq with hq|hq
 ·obtain⟨its,r,pl,hz⟩:=I.list hq;refine SeqAt.in_listAt (fV x) pl.isList (λw hw=>oV rx fx r fs w (by simpa using hw)) ⟨.bl _,H,I,rfl,?_⟩;rw[show its.toArray.any (fV x)=its.any (fV x) by simp,o6 r fs];exact q
 ·obtain⟨its,r,pl,hz⟩:=I.tuple hq;refine SeqAt.in_tupleAt (fV x) pl (λw hw=>oV rx fx r fs w (by simpa using hw)) ⟨.bl _,H,I,rfl,?_⟩;rw[show its.toArray.any (fV x)=its.any (fV x) by simp,o6 r fs];exact q
def zL:cJ X (.builtin "len") (λxs H Q=>∃p ys,xs=[.ref p]/\(ag X.K H p ys\/ao X.K H p ys)/\Q (.int ys.length) H):=by
 intro pins s σ H xs us Q I r h;obtain⟨p,ys,rfl,hq,q⟩:=h;obtain⟨u,rfl,rx⟩:=vals1 r;cases rx;have hn:=iT;rcases hq with hq|hq
 ·obtain⟨its,r',pl,hz⟩:=I.list hq;have hlen:=r'.length;exact Calls.call_len_list pl.isList (by simp only[FN]<;>omega) ⟨.int ys.length,H,I.tok _,⟨s.toks+1,by rw[FN,hlen]⟩,q⟩
 ·obtain⟨its,r',pl,hz⟩:=I.tuple hq;have hlen:=r'.length;exact len_tuple pl (by simp only[FN]<;>omega) ⟨.int ys.length,H,I.tok _,⟨s.toks+1,by rw[FN,hlen]⟩,q⟩
def zc:cJ X (.builtin "len") (λxs H Q=>∃z,xs=[.str z]/\z.length<=sizeLine/\Q (.int z.length) H):=by intro pins s σ H xs us Q I r h;obtain⟨z,rfl,hz,q⟩:=h;obtain⟨u,rfl,t,rfl⟩:=vals1 r;have hn:=iT;exact len_str (by omega) ⟨.int z.length,H,I.tok _,⟨_,rfl⟩,q⟩
def BI:cJ X (.type "list") (λxs H Q=>∃p ys,xs=[.ref p]/\(ag X.K H p ys\/ao X.K H p ys)/\∀l,H l=none->Q (.ref l) (upd H l (.lst ys))):=by
 intro pins s σ H xs us Q I r h;obtain⟨p,ys,rfl,hq,q⟩:=h;obtain⟨u,rfl,rx⟩:=vals1 r;cases rx;have fin:∀(its:List Value),Vals ys its->ys.length<=sizeLine->∀(h':Heap) (c':Nat),(∀b o',s.heap.get? b=some o'->h'.get? b=some o') →
   h'.get? s.heap.objs.size=some { cls:=.type "list",dict:=none,data:=.seq its.toArray c',slots:=#[] }->EP X pins σ Q (.ref s.heap.objs.size) { s with heap:=h' }:=λits r' hz h' c' kp e=>
  ⟨.ref s.heap.objs.size,_,I.laid (t':=s.toks) kp (F5 _) (show br X.prog X.w _ h' _ (.lst ys)from⟨hz,its,c',r',e⟩),rfl,q _ (I.hok.fresh (F5 _))⟩
 rcases hq with hq|hq
 ·obtain⟨its,r',pl,hz⟩:=I.list hq;have hlen:=r'.length;obtain⟨o,ho,hc,n,hd⟩:=pl.isList;exact call_list_seq p (.inl rfl) ho hc hd (λh' c' kp e=>fin its r' hz h' c' kp e) (by simp only[FN]<;>omega)
 ·obtain⟨its,r',pl,hz⟩:=I.tuple hq;have hlen:=r'.length;obtain⟨o,ho,hc,n,hd⟩:=pl;exact call_list_seq p (.inr rfl) ho hc hd (λh' c' kp e=>fin its r' hz h' c' kp e) (by simp only[FN]<;>omega)
def zT:cJ X (.type "tuple") (λxs H Q=>∃p ys,xs=[.ref p]/\((ag X.K H p ys/\∀l,H l=none->Q (.ref l) (upd H l (.tup ys)))\/(ao X.K H p ys/\Q (.ref p) H))):=by
 intro pins s σ H xs us Q I r h;obtain⟨p,ys,rfl,h⟩:=h;obtain⟨u,rfl,rx⟩:=vals1 r;cases rx;rcases h with⟨hq,q⟩|⟨hq,q⟩
 ·obtain⟨its,r',pl,hz⟩:=I.list hq;have hlen:=r'.length;refine call_tuple_list pl.isList (λh' kp=>?_) (by simp only[FN]<;>omega);have I1:Inv X pins σ H { s with heap:=h' }:=I.kept (t':=s.toks) kp;have I2:Inv X pins σ (upd H h'.objs.size (.tup ys)) { s with heap:=h'.push { cls:=.type "tuple",data:=.seq its.toArray } }:=
   I1.laid (t':=s.toks) (λb o e=>FE _ e) (F5 _) (show br X.prog X.w _ _ _ (.tup ys)from⟨hz,its,r',IsTup.new _ _⟩)
  exact⟨.ref h'.objs.size,_,I2,rfl,q _ (I1.hok.fresh (F5 _))⟩
 ·obtain⟨its,r',pl,hz⟩:=I.tuple hq;exact call_tuple_same pl ⟨.ref p,H,I,rfl,q⟩
def i4(K:FD)(T:String)(x:V)(H:Hp):Prop:=match x with
 | .str _=>T = "str"
 | .int _=>T = "int"
 | .ref p=>(T = "list"/\∃xs,ag K H p xs)\/(T = "tuple"/\∃o,K.lookup p=some o/\o.cls=.type "tuple"/\o.dict=none) ∨
   (T = "dict"/\((∃kvs,H p=some (.dK kvs))\/∃kvs,H p=some (.dT kvs)))\/(T = "set"/\∃S n,H p=some (.set S n))
 | _=>False
def CL{pins:List (Addr×Obj)}{σ:St}{H:Hp}{s:Shared}{T:String}{x:V}{v:Value}(I:Inv X pins σ H s)(r:RelV x v)(ty:i4 X.K T x H):
  s.TypeIs v T/\∀a,v=.ref a->∃ob,s.heap.get? a=some ob/\ob.dict=none:=by
 cases x with
 | str z=>
  obtain⟨t,rfl⟩:=r;cases(show T = "str" from ty);exact⟨typeIs_str s z t,λ_ e=>nomatch e⟩
 | int i=>
  obtain⟨t,rfl⟩:=r;cases(show T = "int" from ty);exact⟨typeIs_int s i t,λ_ e=>nomatch e⟩
 | ref p=>
  cases r;rcases ty with⟨rfl,xs,hq⟩|⟨rfl,o,hk,hc,hd⟩|⟨rfl,hk⟩|⟨rfl,S,n,hk⟩
  ·obtain⟨its,_,pl,_⟩:=I.list hq;refine⟨pl.isList.typeIs,λa e=>?_⟩;cases e;obtain⟨o,n,e,c,hd,_⟩:=pl;exact⟨o,e,hd⟩
  ·refine⟨⟨o,I.kIn p o hk,hc⟩,λa e=>?_⟩;cases e;exact⟨o,I.kIn _ o hk,hd⟩
  ·have z:∃o,s.heap.get? p=some o/\o.ExactDict:=by
    rcases hk with⟨kvs,hk⟩|⟨kvs,hk⟩
    ·obtain⟨_,_,_,_,o,_,_,e,ex,_⟩:=I.hok p _ hk;exact⟨o,e,ex⟩
    ·obtain⟨_,_,_,_,o,_,_,e,ex,_⟩:=I.hok p _ hk;exact⟨o,e,ex⟩
   obtain⟨o,e,ex⟩:=z;refine⟨⟨o,e,ex.1⟩,λa e2=>?_⟩;cases e2;exact⟨o,e,ex.2.1⟩
  ·obtain⟨o,_,_,_,e,ex,_⟩:=I.hok p _ hk;refine⟨⟨o,e,ex.1⟩,λa e2=>?_⟩;cases e2;exact⟨o,e,ex.2.1⟩
 | _=>exact False.elim ty
def pS(K:FD)(T:String)(r:V->List V->Hp->VK->Prop)(to:TE)(t:TA):TE:=λσ H Q=>to σ H λx H1=>i4 K T x H1/\t σ H1 λxs H2=>r x xs H2 Q
variable {o e:Expr} {es:List Expr} {to:TE} {t:TA} {name:Str} {apos cpos:Pos} {T id:String} {r:V->List V->Hp->VK->Prop}
def B9(pa:PlainAttrs T)(slot:Slot T name id)(hty:typeOf (.builtin id)=pure (.type "method_descriptor"))(hm:kA X id r)(ho:PE X o to)(ha:PA X (e::es) t)
  (hbase:attributeBase o name X.env (eval o X.env)=eval o X.env:=by rfl)
  (hfew:((backTo cpos (starEach (e::es) X.env)).all (λx=>!x.1) && (backToKw cpos (keywordEach [] X.env)).all (λx=>x.1.isSome)
   && decide ((e::es).length+([]:List Keyword).length+(if([]:List Keyword).isEmpty then 0 else 1)<30))=true:=by rfl)
  (hline:(apos.endLine == cpos.line)=true:=by rfl) (hs:starEach (e::es) X.env=(false,eval e X.env)::starEach es X.env:=by rfl) (hplain:(backTo cpos (starEach es X.env)).any (·.1)=false:=by rfl) :
  PE X (.Call (.Attribute o name apos) (e::es) [] cpos) (pS X.K T r to t):=by
 intro pins s σ H Q I h;refine wpAny_Call_method_late hbase hfew hline rfl (ay (ho pins s σ H _ I h) λv s1 ⟨x,H1,I1,r1,ty,q1⟩=>?_);obtain⟨h1,h2⟩:=CL I1 r1 ty;refine⟨T,id,pa,slot,hty,h1,h2,?_⟩;have hA:=ha cpos pins s1 σ H1 _ I1 q1;rw[hs]at hA ⊢;refine Calls.callWith_builtin (by show(false || (backTo cpos (starEach es X.env)).any (·.1))=false;rw[hplain]<;>rfl) (Calls.evalArgs_plain ?_);exact ay hA λus s2 ⟨vs,H2,I2,r2,q2⟩=>hm pins s2 σ H2 x vs v us Q I2 r1 r2 q2
end
def se(X:Cx)(id:String)(r:V->List V->Hp->VK->Prop):Prop:=
 ∀(pins:List (Addr×Obj)) (s:Shared) (σ:St) (H:Hp) (x:V) (xs:List V) (v:Value) (us:List Value) (Q:VK),Inv X pins σ H s->RelV x v->Vals xs us->r x xs H Q →
  wpAny (model X.prog X.w) X.A (call (.builtin id) (v::us)) (EP X pins σ Q) X.xe s
def Vals.one:∀{x:V} {us:List Value},Vals [x] us->∃u,us=[u]/\RelV x u:=vals1
def Vals.rep{xs:List V}{us:List Value}(h:Vals xs us):∀k:Nat,Vals (Gu k xs).flatten (Gu k us).flatten
 | 0=>.nil
 | k+1=>by rw[List.replicate_succ,List.replicate_succ,List.flatten_cons,List.flatten_cons];exact Vals.append h (Vals.rep h k)
def foldl_rep(its:List Value):∀(k:Nat) (acc:List Value),
  List.foldl (λx1 x2=>x1++x2) acc.toArray (Gu k its.toArray)=(acc++(Gu k its).flatten).toArray
 | 0,acc=>by simp
 | k+1,acc=>by
  have e:acc.toArray++its.toArray=(acc++its).toArray:=by simp
  have e2:(acc++its)++(Gu k its).flatten=acc++(Gu (k+1) its).flatten:=by rw[List.replicate_succ,List.flatten_cons,List.append_assoc]
  rw[←e2,←foldl_rep its k (acc++its),←e,List.replicate_succ,List.foldl_cons]
section
variable {X:Cx} {pins:List (Addr×Obj)} {σ:St} {H:Hp} {s:Shared} {l b:Addr} {xs ys zs:List V}
def Inv.lset{its its':List Value}{n:Nat}{f:Array Value->Array Value}{t':Nat}(I:Inv X pins σ H s)(hH:H l=some (.lst xs))
  (e:s.heap.get? l=some { cls:=.type "list",data:=.seq its.toArray n }) (hf:f its.toArray=its'.toArray) (hv:Vals ys its') (hz:ys.length<=sizeLine) :
  Inv X pins σ (upd H l (.lst ys)) { s with heap:=s.heap.update l (Obj.mapSeq f),toks:=t' }:=by
 have q:=PySem.IsL.update e f;rw[hf]at q;refine I.write (x:=l) (e:=l) (by rw[hH];exact trivial) (.inl rfl) (λb' u hb hu=>(Heap.get?_update_other s.heap (Obj.mapSeq f) (Ne.symm hb)).trans hu) ⟨_,q⟩ ?_;exact⟨hz,its',_,hv,q⟩
def Inv.lnew{its:List Value}{t':Nat}(I:Inv X pins σ H s)(hv:Vals ys its)(hz:ys.length<=sizeLine):
  Inv X pins σ (upd H s.heap.objs.size (.lst ys)) { s with heap:=s.heap.push { cls:=.type "list",data:=.seq its.toArray },toks:=t' }:=
 I.laid (λ_ _ q=>FE _ q) (F5 _) ⟨hz,its,0,hv,FF _ rfl⟩
def Inv.fresh(I:Inv X pins σ H s):H s.heap.objs.size=none:=I.hok.fresh (F5 _)
def Inv.lstM(I:Inv X pins σ H s)(hH:H l=some (.lst xs)):xs.length<=sizeLine/\∃(its:List Value) (n:Nat),Vals xs its/\xs.length=its.length/\s.heap.get? l=some { cls:=.type "list",data:=.seq its.toArray n }:=by obtain⟨z,its,n,r,e⟩:=I.hok l _ hH;exact⟨z,its,n,r,r.length,e⟩
def tE{n:Nat}(h:n<=sizeLine):Builtin.List.listTooLong n=false:=by unfold Builtin.List.listTooLong;exact GD (by omega)
end
section
variable {X:Cx}
def uL:V->List V->Hp->VK->Prop:=λx vs H Q=>∃l xs y,x=.ref l/\vs=[y]/\H l=some (.lst xs)/\xs.length<sizeLine/\Q .non (upd H l (.lst (xs++[y])))
def bL:se X "list.append" uL:=by intro pins s σ H x vs v us Q I rx rv h;obtain⟨l,xs,y,rfl,rfl,hH,hz,q⟩:=h;cases rx;obtain⟨u,rfl,ru⟩:=rv.one;obtain⟨z,its,n,r,hl,e⟩:=I.lstM hH;refine call_meets F.slot_list_append ⟨_,e,rfl⟩ F.entry_list_append (F.args_list_append_2 _ _) (PySem.list_append l its.toArray n u (by rw[FN];omega)) ⟨e,?_⟩;refine⟨.non,_,I.lset (its':=its++[u]) hH e (by simp) (r.append (.cons ru .nil)) ?_,rfl,q⟩;rw[F0,List.length_singleton];omega
def Ag:V->List V->Hp->VK->Prop:=λx vs H Q=>∃l b xs zs,x=.ref l/\vs=[.ref b]/\H l=some (.lst xs)/\H b=some (.lst zs)/\xs.length+zs.length<=sizeLine/\Q .non (upd H l (.lst (xs++zs)))
def zq:se X "list.extend" Ag:=by
 intro pins s σ H x vs v us Q I rx rv h;obtain⟨l,b,xs,zs,rfl,rfl,hH,hB,hz,q⟩:=h;cases rx;obtain⟨u,rfl,ru⟩:=rv.one;cases ru;obtain⟨z,its,n,r,hl,e⟩:=I.lstM hH;obtain⟨z2,its2,n2,r2,hl2,e2⟩:=I.lstM hB;have hsz:its.toArray.size+its2.toArray.size<=sizeLine:=by rw[FN,FN];omega
 have hlong:¬(!its.toArray.isEmpty && Builtin.List.listTooLong (its.toArray.size+its2.toArray.size))=true:=by rw[tE hsz,Bool.and_false];exact FY
 refine call_meets F.slot_list_extend ⟨_,e,rfl⟩ F.entry_list_extend (F.args_list_extend_2 _ _)
  (AutoSeq1.list_extend_list_list_0 l its.toArray n b its2.toArray n2 hlong (by rw[FN];omega) (by omega)) ⟨e,e2,?_⟩
 refine⟨.non,_,I.lset (its':=its++its2) hH e (by simp) (r.append r2) ?_,rfl,q⟩;rw[F0];omega
def vT:R2:=λx y H Q=>∃l b xs zs,x=.ref l/\y=.ref b/\H l=some (.lst xs)/\H b=some (.lst zs)/\xs.length+zs.length<=sizeLine/\∀p,H p=none->Q (.ref p) (upd H p (.lst (xs++zs)))
def qP:bG X (binaryOp .Add) vT:=by
 intro pins s σ H x y v u Q I rx ry h;obtain⟨l,b,xs,zs,rfl,rfl,hH,hB,hz,q⟩:=h;cases rx;cases ry;obtain⟨z,its,n,r,hl,e⟩:=I.lstM hH;obtain⟨z2,its2,n2,r2,hl2,e2⟩:=I.lstM hB;refine PySem.P.add_list e e2 ?_ (by rw[FN,FN];omega);have ea:its.toArray++its2.toArray=(its++its2).toArray:=by simp
 rw[ea];exact⟨.ref _,_,I.lnew (t':=s.toks) (r.append r2) (by rw[F0];omega),rfl,q _ I.fresh⟩
def rh:R2:=λx y H Q=>∃l k xs,x=.ref l/\y=.int k/\H l=some (.lst xs)/\-(2 ^ 63)<=k/\k<2 ^ 63/\xs.length*k.toNat<=sizeLine ∧
 ∀p,H p=none->Q (.ref p) (upd H p (.lst (Gu k.toNat xs).flatten))
def len_rep{α:Type}(xs:List α)(k:Nat):(Gu k xs).flatten.length=k*xs.length:=by
 induction k with
 | zero=>simp
 | succ k ih=>rw[List.replicate_succ,List.flatten_cons,F0,ih,Nat.succ_mul,Nat.add_comm]
def qQ:bG X (binaryOp .Mult) rh:=by
 intro pins s σ H x y v u Q I rx ry h;obtain⟨l,k,xs,rfl,rfl,hH,h1,h2,hz,q⟩:=h;cases rx;obtain⟨t,rfl⟩:=ry;obtain⟨z,its,n,r,hl,e⟩:=I.lstM hH;have hlen:its.toArray.size*k.toNat<=sizeLine:=by rw[FN,←hl];exact hz
 have hcap:¬its.toArray.size*k.toNat>(2 ^ 63-1) / 8:=by
  have:(sizeLine:Nat)<=(2 ^ 63-1) / 8:=by decide
  omega
 have hfit:¬(!Builtin.List.listFitsIndex k)=true:=by rw[fitsIndex_both h1 h2];exact FY
 have hlong:¬Builtin.List.listTooLong (its.toArray.size*k.toNat)=true:=by rw[tE hlen];exact FY
 have hnew:List.foldl (λx1 x2=>x1++x2) #[] (Gu (if its.toArray.isEmpty=true then 0 else k.toNat) its.toArray)=(Gu k.toNat its).flatten.toArray:=by
  have f0:∀m:Nat,List.foldl (λx1 x2=>x1++x2) #[] (Gu m its.toArray)=(Gu m its).flatten.toArray:=λm=>by have:=foldl_rep its m [];rw[List.nil_append]at this;exact this
  rw[f0];cases its with
  | nil=>simp
  | cons a r'=>rw[GG (by simp)]
 refine wpAny_binaryOp_repeat_ref (T:="list") (U:="int") (by decide) ⟨_,e,rfl⟩ (λs'=>typeIs_int s' k t) noFill_list_mul F.fills_int_mul F.slot_int_rmul repeat_list F.slot_int_index.lookup
  (call_meets F.slot_int_rmul (typeIs_int s k t) F.entry_int_rmul (F.args_int_rmul_2 _ _) (int___rmul___int_list k t l its.toArray n)
   ⟨e,rfl,⟨_,e,rfl⟩,call_meets F.slot_list_mul ⟨_,e,rfl⟩ F.entry_list_mul (F.args_list_mul_2 _ _) (AutoListH.list___mul___list_int_3 l its.toArray n k t hfit hcap hlong) ⟨e,?_⟩⟩)
 rw[hnew];exact⟨.ref _,_,I.lnew (t':=s.toks) (r.rep k.toNat) (by rw[len_rep,Nat.mul_comm];exact hz),rfl,q _ I.fresh⟩
end
section
variable {prog:Program} {w:World} {A:Around} {E:Value->Shared->Prop} {s:Shared}
end
section
variable {X:Cx}
end
end L2
namespace Att
open PySem PySem.W PySem.Calls PyProof.Rows
def BV{P:Params}{h:Heap}:∀(ns:List Int) (vs:List Value),WellAll P h vs (ns.map WData.int)->IntsAre vs ns:=by
 intro ns;induction ns with
 | nil=>
  intro vs w;rw[List.map_nil]at w;cases w;exact .nil
 | cons n ns ih=>
  intro vs w;rw[List.map_cons]at w;cases w with
  | cons a b=>
   cases a;exact .cons _ _ (ih _ b)
def BC{l:OpenLaw}{n:Nat}(hn:l.most=some n){P:Params}{h:Heap}{args:List WData}{vals:List Value}
  (hpre:l.row.toRowW.claim.pre args=true) (hwl:WellAll P h vals args) :
  ∃a vs ns,vals=[Value.ref a]/\args=[WData.list (ns.map WData.int)]/\h.get? a=some { cls:=.type "list",data:=.seq vs.toArray }/\IntsAre vs ns/\ns.length<=n:=by
 have hsh:WShape.hasAll [] args [.list .int]=true:=(pre_splitW hpre).1;have hc:l.pre.holds [] { args:=args }=true:=(pre_splitW hpre).2;obtain⟨d,r,rfl,h1,h2⟩:=hasAllW_cons hsh;obtain rfl:=hasAllW_nil h2;obtain⟨xs,rfl,h3⟩:=hasW_list h1;obtain⟨ns,rfl⟩:=items_int h3;have hlen:ns.length<=n:=by
  unfold OpenLaw.pre at hc;have h4:(WTm.not (.lt (.lit (.int (n:Int))) (.len (.arg 0)))).holds [] { args:=[.list (ns.map .int)] }=true:=by have h4:=(holds_andW hc).1;rw[hn]at h4;exact h4
  have h5:=condW_of h4 (w_not (w_lt w_lit (w_len_list (w_arg rfl))));rw[FH]at h5;refine Nat.le_of_not_lt λq=>?_;have q':(n:Int)<((ns.length:Nat):Int):=by omega
  first
   | (rw[GF q']at h5;exact absurd h5 (by decide))
   | (simp at h5;omega)
 cases hwl with
 | cons w1 w2=>
  cases w2;cases w1 with
  | list ho hall=>exact⟨_,_,ns,rfl,rfl,ho,BV ns _ hall,hlen⟩
def Ck(l:OpenLaw)(args:List WData):l.row.toRowW.claim.post args (.bool true) args=true:=
 postW_of (r:=l.row.toRowW) (X:=(true == true))
  (show WShape.has [] (.bool true) .bool=true by first|rfl|decide|simp [WShape.has,WShape.arms,WShape.armsAll])
  (show(WTm.eq .res (.lit (.bool true))).value [] { args:=args,res:=some (.bool true),after:=args }=some (.bool (true == true))from w_eq_bool (w_res rfl) w_lit) rfl
def Bj{l:OpenLaw}{n:Nat}{q:Program}{loose:List Str}{XP:(Str->Option Value)->Heap->Prop}{YP:World->Heap->Prop}{d:DefRec}
  (hn:l.most=some n) (hdf:d.params.defaults=[])
  (call:∀(w:World) (s₀ s₁:Shared) (mg mb:Str->Option Value) (fa:Addr) (o:Obj) (pm cd doc:Value) (a:Addr) (vs:List Value) (ns:List Int),
   Ground q loose [] XP w s₀ mg mb s₁.heap->YP w s₁.heap →
   s₁.heap.get? fa=some o->o.data=.func (docDef d.name d.params d.body d.scope pm cd doc)->s₁.heap.CodeRec cd d.name->mg d.name=some (.ref fa) →
   s₁.heap.get? a=some { cls:=.type "list",data:=.seq vs.toArray }->IntsAre vs ns->ns.length<=n->s₁.gens = #[] →
   codeAny (model l.prog w) callerA (.call (.ref fa) ⟨[.ref a],[]⟩) (λr s'=>r=.ok (.ret (.bool true))/\OldK s₁.heap s'.heap/\s'.os=s₁.os/\AllBare s'.gens) s₁) :
  WalkO q loose XP YP l.row.toRowW d [] (λf vs=>PySem.call f vs):=by
 intro w s₀ s₁ mg mb G Y fa o pm cd doc dV kV ho hd hcd hD hmg hg args vals as hpre hlay hrd hwl hlo;obtain rfl:dV=.none:=Dflts.none hD hdf;obtain rfl:kV=.none:=Dflts.noKw hD;obtain⟨a,vs,ns,rfl,rfl,hobj,hints,hlen⟩:=BC hn hpre hwl;refine enter_call (codeAny_mono (call w s₀ s₁ mg mb fa o pm cd doc a vs ns G Y ho (fd_plain hd) hcd hmg hobj hints hlen hg) λr s' hq=>?_);obtain⟨rfl,h2,h3,h4⟩:=hq;exact⟨.inl ⟨.bool true,.bool true,[],rfl,λ_=>rfl,.bool true,Ck l _,λ_=>⟨List.Pairwise.nil,λ_ hm=>(nomatch hm)⟩⟩,h2,h3,h4⟩
section
variable {prog:Program} {w:World} {A:Around} {E:Value->Shared->Prop} {s:Shared} {K:Frag}
end
end Att
namespace L2
open PySem PySem.Spec PyProof.Rows
def vM:∀{vs:List Value} {ns:List Int},IntsAre vs ns->Vals (ns.map V.int) vs
 | _,_,.nil=>.nil
 | _,_,.cons n t h=>.cons ⟨t,rfl⟩ (vM h)
def gq(s:Stmt):Arguments:=match s with
 | .FunctionDef _ a _ _ _ _ _ _ _ _=>a
 | _=>{ posonlyargs:=[],args:=[],vararg:=none,kwonlyargs:=[],kw_defaults:=[],kwarg:=none,defaults:=[] }
def dy(s:Stmt):List Stmt:=match s with
 | .FunctionDef _ _ b _ _ _ _ _ _ _=>b
 | _=>[]
def aA(s:Stmt):Scope:=match s with
 | .FunctionDef _ _ _ _ _ _ sc _ _ _=>sc
 | _=>{ kind:=.function,names:=[],isGenerator:=false,isCoroutine:=false }
abbrev cC:fA:=λ_ _ _ _ _ _=>False
abbrev E0:XK:=λ_ _ _=>False
def DM{X:Cx}:Passes cC X E0:=λ_ _ _ _ _ _ _ h=>h.elim
structure Fun(K:FD)(x qual:Str)(st:Stmt)(f:Addr)(fd:FuncData):Prop where
 ex:∃(oc:Value) (od:Option Addr) (kV doc pm:Value) (an:Option Addr) (cdv ct:Value) (osl:Array (Option Value)),
  fd=PySem.W.fnOf x qual (gq st) (dy st) (aA st) .none kV doc pm an cdv ct/\K.lookup f=some ⟨oc,od,.func fd,osl⟩/\PySem.W.codeIn K cdv qual=true
 kp:PySem.W.keepIn K (.ref f)=true
section
variable {P:Program} {w:World} {K:FD} {mg:Str->Option Value} {base:Heap}
def Fun.ok{x qual:Str}{st:Stmt}{f:Addr}{fd:FuncData}{N ps:List Str}{k:Nat}{sp:Sp}(F:Fun K x qual st f fd)(S:FnScope N ps (aA st))(len:∀vs H Q E,sp vs H Q E->vs.length=ps.length)
  (hbody:∀(cdv:Value) (A:Around) (outer:List Env) (s:Shared) (H:Hp) (vs:List V) (Q:VK) (E:XK),Room k (A.deeper (envOfC qual (aA st) s.heap.objs.size f cdv))->sp vs H Q E →
   ∃t,b6 (bx cC P w K mg base N qual (aA st) f cdv A outer s H E).nox (dy st) t/\t { nx:=λ_ H'=>Q .non H',rt:=Q } (start N vs) H):FnOk P w K mg base cC (k+1) f fd ps sp:=by
 obtain⟨oc,od,kV,doc,pm,an,cdv,ct,osl,rfl,lk,hcd⟩:=F.ex;refine lG lk hcd S len λA outer s H vs Q E hr hsp=>?_;obtain⟨t,h,q⟩:=hbody cdv A outer s H vs Q E hr hsp;exact⟨t,h.nox,q⟩
def Fun.binds{x qual:Str}{st:Stmt}{f:Addr}{fd:FuncData}{ps:List Str}(F:Fun K x qual st f fd)
  (h:∀(kV doc pm:Value) (an:Option Addr) (cdv ct:Value) (us:List Value),us.length=ps.length->bindArgs (PySem.W.fnOf x qual (gq st) (dy st) (aA st) .none kV doc pm an cdv ct) ⟨us,[]⟩=pure (ps.zip us)):Binds K fd ps []:=by
 obtain⟨oc,od,kV,doc,pm,an,cdv,ct,osl,rfl,lk,hcd⟩:=F.ex;exact .all (h kV doc pm an cdv ct)
def vW{x qual:Str}{st:Stmt}{f:Addr}{oc:Value}{od an:Option Addr}{osl:Array (Option Value)}{kV doc pm cdv ct:Value}(l:K.lookup f=some ⟨oc,od,.func (PySem.W.fnOf x qual (gq st) (dy st) (aA st) .none kV doc pm an cdv ct),osl⟩)
  (c:PySem.W.codeIn K cdv qual=true) (k:PySem.W.keepIn K (.ref f)=true):Fun K x qual st f (PySem.W.fnOf x qual (gq st) (dy st) (aA st) .none kV doc pm an cdv ct):=⟨⟨oc,od,kV,doc,pm,an,cdv,ct,osl,rfl,l,c⟩,k⟩
end
def mG{A:Around}{k:Nat}(hr:Room k A):A.units+1<cLine:=Nat.lt_of_le_of_lt (Nat.add_le_add_left (by decide:1<=64) _) hr.units
section
variable {X:Cx}
def pv(i:Nat){x:Str}{pos:Pos}(hN:X.N[i]?=some x:=by rfl)(hv:lB X.env.scope x:=by first|exact Or.inl rfl|exact Or.inr (Or.inl rfl)|exact Or.inr (Or.inr rfl))(hd:(x == ("__debug__":Str))=false:=by decide)
  (hcd:(x == ("__classdict__":Str))=false:=by decide):PE X (.Name x pos) (mS i):=zQ hN hv hd hcd
end
def aq{A B:Prop}(h:B):if false=true then A else B:=by rw[GG FY];exact h
def ax{A B:Prop}(h:A):if true=true then A else B:=by rw[GH rfl];exact h
def fW{c A B:Prop}[Decidable c](h1:c->A)(h2:¬c->B):if c then A else B:=by
 by_cases h:c
 ·rw[GH h];exact h1 h
 ·rw[GG h];exact h2 h
structure Blk where
 s:Shared
 H:Hp
 fp:List Addr
 C:Addr
def df(names:List (Str×NameKind))(cells:List (Str×Addr)):List (Str×Addr):=
 names.foldl (λacc p=>if p.2 == .free then(p.1,(cells.lookup p.1).getD 0)::acc else acc) []
def yW(sc out:Scope):Bool:=sc.names.all λp=>p.2 != .cell && (p.2 != .local || sc.names.lookup p.1 == some .local) && (p.2 != .free || out.names.lookup p.1 == some .cell || out.names.lookup p.1 == some .free)
def lA(sc:Scope)(N:List Str)(js:List Nat):Bool:=js.all λj=>decide (j<N.length) && (sc.names.lookup (N.getD j "") == some .free)
def du(n:Nat)(js:List Nat)(σ:St):St:=Gu n none++js.map λj=>(σ[j]?).join
def lg(cells:List (Str×Addr)):∀(names:List (Str×NameKind)) (acc:List (Str×Addr)) (x:Str) (c:Addr),
  (names.foldl (λacc p=>if p.2 == .free then(p.1,(cells.lookup p.1).getD 0)::acc else acc) acc).lookup x=some c →
  ((x,NameKind.free)∈names/\c=(cells.lookup x).getD 0)\/acc.lookup x=some c
 | [],acc,x,c,h=>.inr h
 | (n,k)::r,acc,x,c,h=>by
  rw[List.foldl_cons]at h;rcases lg cells r _ x c h with⟨h1,h2⟩|h1
  ·exact .inl ⟨FK _ h1,h2⟩
  ·cases hk:(k == NameKind.free)with
   | false=>
    simp only[hk]at h1;exact .inr h1
   | true=>
    simp only[hk,if_true]at h1;rw[Gy]at h1;cases hx:(x == n)with
    | false=>rw[hx]at h1;exact .inr h1
    | true=>
     rw[hx]at h1;have e1:x=n:=by simpa using hx
     have e2:k=.free:=by simpa using hk
     subst e1 e2;exact .inl ⟨FO,(Gq h1).symm⟩
def uJ(cells:List (Str×Addr)):∀(names:List (Str×NameKind)) (acc:List (Str×Addr)) (x:Str),
  ((x,NameKind.free)∈names\/(acc.lookup x).isSome=true)->((names.foldl (λacc p=>if p.2 == .free then(p.1,(cells.lookup p.1).getD 0)::acc else acc) acc).lookup x).isSome=true
 | [],acc,x,h=>by
  rcases h with h|h
  ·simp at h
  ·exact h
 | (n,k)::r,acc,x,h=>by
  rw[List.foldl_cons];apply uJ cells r;rcases h with h|h
  ·rcases FX.mp h with e|h
   ·right;cases e;simp[Gy]
   ·exact .inl h
  ·right;cases hk:(k == NameKind.free)with
   | false=>simpa[hk]using h
   | true=>
    simp only[hk,if_true,Gy];cases hx:(x == n)with
    | true=>rfl
    | false=>exact h
def qy{env:Env}{sc:Scope}(h:∀p∈sc.names,p.2=.free->∃c,env.cells.lookup p.1=some c):closureFor sc env=pure (df sc.names env.cells):=by
 have go:∀(names:List (Str×NameKind)) (acc:List (Str×Addr)),(∀p∈names,p.2=NameKind.free->∃c,env.cells.lookup p.1=some c) →
   (forIn names acc λ(p:Str×NameKind) (r:List (Str×Addr))=>(match p with|(name,kind)=>if(kind == NameKind.free)=true then do let c ←cellOf env name;pure (ForInStep.yield ((name,c)::r))else pure (ForInStep.yield r):Sem _)) =
   pure (names.foldl (λacc p=>if p.2 == .free then(p.1,(env.cells.lookup p.1).getD 0)::acc else acc) acc):=by
  intro names;induction names with
  | nil=>intro acc _;rfl
  | cons p r ih=>
   intro acc hp;obtain⟨n,k⟩:=p;rw[List.forIn_cons,List.foldl_cons];cases hk:(k == NameKind.free)with
   | false=>
    simp only[hk,Gv,if_false];exact ih acc λq hq=>hp q (FK _ hq)
   | true=>
    obtain⟨c,hc⟩:=hp (n,k) FO (by simpa using hk);have e:cellOf env n=pure c:=by unfold cellOf;rw[show env.cells.lookup n=some c from hc]
    simp only[hk,if_true,e];have hc':env.cells.lookup n=some c:=hc;rw[hc'];exact ih _ λq hq=>hp q (FK _ hq)
 unfold closureFor df;have:=go sc.names [] h;simp only[this];rfl
def jQ(X:Cx)(ifs:List Expr)(t:TT):Prop:=
 ∀(pins:List (Addr×Obj)) (s:Shared) (σ:St) (H:Hp) (Q:Bool->Hp->Prop),Inv X pins σ H s->t σ H Q →
  wpAny (model X.prog X.w) X.A (forIn ifs true λc r=>if r=true then do let ok ←isTrue c X.env (eval c X.env);pure (ForInStep.yield ok)else pure (ForInStep.yield r)) (TP X pins σ Q) X.xe s
def sZ:TT:=λ_ H Q=>Q true H
def fX{X:Cx}:jQ X [] sZ:=λ_ _ _ H _ I h=>wpAny_tests_nil ⟨H,I,h⟩
def fo{X:Cx}{c:Expr}{t:TT}(h:PT X c t):jQ X [c] t:=λpins s σ H Q I hq=>wpAny_tests_one (h pins s σ H Q I hq)
def Cr{prog:Program}{w:World}{A:Around}{R:Result->Shared->Prop}{t0:Shared}{elt tgt iter:Expr}{ifs:List Expr}{sc:Scope}{ps:Pos}{itv acc:Value}{ce:Env}(Wd:Nat->Shared->Prop)
  (step:∀k t,Wd k t->wpAny (model prog w) A (pyNext itv) (λgot t1=>
   match got with
   | none=>R (.ok .next) t1
   | some u=>wpAny (model prog w) A (letOwnedTupleGo tgt itv u) (λ_ t2=>wpAny (model prog w) A (assign tgt ce u) (λ_ t3=>
     wpAny (model prog w) A (forIn ifs true λc r=>if r=true then do let ok ←isTrue c ce (eval c ce);pure (ForInStep.yield ok)else pure (ForInStep.yield r)) (λyes t4=>
      if yes=true then wpAny (model prog w) A (eval elt ce) (λval t5=>wpAny (model prog w) A (call (.builtin "list.append") [acc,val]) (λ_ t6=>∃m,m<k/\Wd m t6) (λ_ _=>False) t5) (λ_ _=>False) t4
      else ∃m,m<k/\Wd m t4) (λ_ _=>False) t3) (λ_ _=>False) t2) (λ_ _=>False) t1) (λ_ _=>False) t)
  (k0:Nat) (start:Wd k0 t0):codeAny (model prog w) A (.compLoop (.ListComp elt [⟨tgt,iter,ifs,0⟩] sc ps) 0 itv acc ce) R t0:=by
 refine codeAny_loop rfl Wd (λk t hW=>?turn) k0 start
 case turn=>
  have nox:∀{α:Type} {m:Sem α} {Q:α->Shared->Prop} {E:Value->Shared->Prop} {z:Shared},wpAny (model prog w) A m Q (λ_ _=>False) z->wpAny (model prog w) A m Q E z:=λh=>wpAny_mono h (λ_ _ q=>q) λ_ _ f=>f.elim;show wpAny _ A ((compTurn (.ListComp elt [⟨tgt,iter,ifs,0⟩] sc ps) 0 itv acc ce).onRaise (λx=>do noteFrame x ce;theTreesLotGoes x)) _ _ t;apply wpAny_noted;rw[compTurn_list];refine FA (wpAny_standAt (FA (nox (wpAny_mono (step k t hW) (λgot t1 h1=>?_) λ_ _ f=>f))));cases got with
  | none=>exact FC h1
  | some u=>
   refine FA (nox (wpAny_mono h1 (λ_ t2 h2=>?_) λ_ _ f=>f));refine FA (nox (wpAny_mono h2 (λ_ t3 h3=>?_) λ_ _ f=>f));refine FA (nox (wpAny_mono h3 (λyes t4 h4=>?_) λ_ _ f=>f));cases yes with
   | false=>
    rw[GG FY]at h4;exact FC ⟨rfl,h4⟩
   | true=>
    rw[GH rfl]at h4;refine FA (FA (nox (wpAny_mono h4 (λval t5 h5=>?_) λ_ _ f=>f)));exact FA (nox (wpAny_mono h5 (λ_ t6 h6=>FC (FC ⟨rfl,h6⟩)) λ_ _ f=>f))
section
variable {X:Cx} {pins:List (Addr×Obj)} {σ:St} {H:Hp} {s:Shared}
def dY(its:List Value)(n:Nat):Obj:={ cls:=.type "list",data:=.seq its.toArray n }
def Fz{sc out:Scope}(h:yW sc out=true){p:Str×NameKind}(hp:p∈sc.names)(hf:p.2=.free):out.names.lookup p.1=some .cell\/out.names.lookup p.1=some .free:=by have:=Gj.mp h p hp;simp only[hf,Gn,Bool.or_eq_true,beq_iff_eq,bne_iff_ne,ne_eq,not_true,false_or]at this;exact this.2
def lN{sc:Scope}{env:Env}{x:Str}:∀{names:List (Str×NameKind)} {k:NameKind},(names.map λ(p:Str×NameKind)=>match p with|(n,k)=>if(k == NameKind.free && env.scope.kind == .function && env.kindOf n == some .cell)then(n,NameKind.cell)else(n,k)).lookup x=some k →
  ∃k',names.lookup x=some k'/\(k'=k\/(k'=.free/\k=.cell))
 | [],_,h=>by simp at h
 | (n,q)::r,k,h=>by
  rw[List.map_cons]at h;rw[Gy];cases hx:(x == n)with
  | true=>
   refine⟨q,rfl,?_⟩;by_cases hc:(q == NameKind.free && env.scope.kind == .function && env.kindOf n == some .cell)=true
   ·simp only[hc,if_true,Gy,hx]at h;right;simp only[Gn,beq_iff_eq]at hc;exact⟨hc.1.1,(Gq h).symm⟩
   ·left;have h2:List.lookup x ((n,q)::(r.map λ(p:Str×NameKind)=>match p with|(n,k)=>if(k == NameKind.free && env.scope.kind == .function && env.kindOf n == some .cell)then(n,NameKind.cell)else(n,k)))=some k:=by have h3:=h;dsimp only at h3;rw[GG hc]at h3;exact h3
    rw[Gy,hx]at h2;exact Gq h2
  | false=>
   have:List.lookup x (r.map λ(p:Str×NameKind)=>match p with|(n,k)=>if(k == NameKind.free && env.scope.kind == .function && env.kindOf n == some .cell)then(n,NameKind.cell)else(n,k))=some k:=by
    by_cases hc:(q == NameKind.free && env.scope.kind == .function && env.kindOf n == some .cell)=true
    ·simpa only[hc,if_true,Gy,hx]using h
    ·dsimp only at h;rw[GG hc,Gy,hx]at h;exact h
   exact lN (sc:=sc) this
def gI{names:List (Str×NameKind)}{x:Str}{k:NameKind}(h:names.lookup x=some k):(x,k)∈names:=PySem.mem_of_lookup h
def vI{sc:Scope}{x:Str}{cells:List (Str×Addr)}(h:(x,NameKind.free)∈sc.names):∃c,(df sc.names cells).lookup x=some c:=
 Option.isSome_iff_exists.mp (uJ cells sc.names [] x (.inl h))
def Inv.stk_lt(I:Inv X pins σ H s){b:Addr}(hb:b∈aX X.stack):b<s.heap.objs.size:=by
 rcases FX.mp (I.stkSub b hb)with e|h
 ·rw[e];exact I.lt
 ·obtain⟨_,o,ho,_⟩:=I.ok.funs.mem h;exact Gg (FG ho) I.sz
def Inv.cell_lt(I:Inv X pins σ H s){x:Str}{c:Addr}(h:X.env.cells.lookup x=some c):c<s.heap.objs.size:=by obtain⟨v,q⟩:=I.cell x c h;exact q.lt
def Inv.pin_lt(I:Inv X pins σ H s){p:Addr×Obj}(h:p∈X.pn++pins):p.1<s.heap.objs.size:=FG (I.pin p h).1
def vy{n:Nat}{js:List Nat}{i:Nat}{v:V}(h:(du n js σ)[i]?=some (some v)):∃k j,i=n+k/\js[k]?=some j/\σ[j]?=some (some v):=by
 unfold du at h;by_cases hi:i<n
 ·rw[Ga (by simpa using hi),List.getElem?_replicate]at h;split at h<;>cases h
 ·rw[F9 (by simpa using Nat.le_of_not_lt hi),List.length_replicate,FJ]at h;cases e:js[i-n]? with
  | none=>rw[e]at h;cases h
  | some j=>
   rw[e]at h;refine⟨i-n,j,by omega,e,?_⟩;have h':(σ[j]?).join=some v:=by simpa using h
   cases q:σ[j]? with
   | none=>rw[q]at h';cases h'
   | some o=>
    rw[q]at h';have:o=some v:=h';rw[this]
def ig(J:It)(n:Nat)(js:List Nat)(g:TG)(tc:TT)(te:TE)(σ:St)(H:Hp)(Q:VK):Prop:=
 ∃W:Nat->Nat->List V->Hp->Prop,(∃m,W 0 m [] H)/\∀i m ys H',W i m ys H' →
  (J.stop i H'/\∀p,H' p=none->Q (.ref p) (upd H' p (.lst ys))) ∨
  (J.go i H'/\ys.length<sizeLine/\∃N:List V->Hp->Prop,(∀ys' H2,N ys' H2->∃m',m'<m/\W (i+1) m' ys' H2)/\∀x H2,J.yld i H' x H2->g x (du n js σ) H2 λσ2 H3=>tc σ2 H3 λb H4=>
   if b=true then te σ2 H4 λv H5=>N (ys++[v]) H5 else N ys H4)
def oq(n:Nat)(js:List Nat)(wi:TI)(g:TG)(tc:TT)(te:TE):TE:=λσ H Q=>wi σ H λJ H1=>ig J n js g tc te σ H1 Q
structure TurnAt(X:Cx)(tg:Expr)(J:It)(fp:List Addr)(it:Addr)(tn:Nat->Heap->Prop):Prop where
 obj:∀i h,tn i h->∀b∈fp,∃o,h.get? b=some o/\∀v,o.data≠.cell v
 keep:∀i h h',tn i h->(∀b∈fp,∀o,h.get? b=some o->h'.get? b=some o)->tn i h'
 item:∀(i:Nat) (pins:List (Addr×Obj)) (s:Shared) (σ:St) (H:Hp) (E:Value->Shared->Prop),Inv X pins σ H s->(∀b∈fp,di X pins H b)->tn i s.heap->J.go i H →
  wpAny (model X.prog X.w) X.A (pyNext (.ref it)) (λr s1=>∃u,r=some u ∧
   wpAny (model X.prog X.w) X.A (letOwnedTupleGo tg (.ref it) u) (λ_ s2=>∃x H',Inv X pins σ H' s2/\RelV x u/\J.yld i H x H'/\tn (i+1) s2.heap/\∀b∈fp,H' b=none) E s1) E s
 done:∀(i:Nat) (pins:List (Addr×Obj)) (s:Shared) (σ:St) (H:Hp) (E:Value->Shared->Prop),Inv X pins σ H s->(∀b∈fp,di X pins H b)->tn i s.heap->J.stop i H →
  wpAny (model X.prog X.w) X.A (pyNext (.ref it)) (λr s1=>r=none/\Inv X pins σ H s1) E s
 self:∀(A:Around) (i:Nat) (s:Shared) (Q:Value->Shared->Prop) (E:Value->Shared->Prop),tn i s.heap->Q (.ref it) s->wpAny (model X.prog X.w) A (pyIter (.ref it)) Q E s
def Turn.at_{Y:Cx}{tg:Expr}{J:It}{fp:List Addr}{it:Addr}{tn:Nat->Heap->Prop}(T:Turn Y.prog Y.w Y.K tg J fp it tn)(hc:Y.calm=true):TurnAt Y tg J fp it tn:=⟨T.obj,T.keep,T.item Y rfl rfl rfl hc,T.done Y rfl rfl rfl hc,T.self⟩
end
def ic{K:FD}{a:Addr}{xs:List V}{n:Nat}{js:List Nat}{g:TG}{tc:TT}{te:TE}{Q:VK}{σ:St}{H:Hp}(Pv:Nat->List V->Hp->Prop)(hz:xs.length<=sizeLine)(h0:Pv 0 [] H)(hl:∀i ys H,i<=xs.length->Pv i ys H->ag K H a xs/\ys.length<=i)
  (hs:∀i x ys H,xs[i]?=some x->Pv i ys H->g x (du n js σ) H λσ2 H3=>tc σ2 H3 λb H4=>if b=true then te σ2 H4 λv H5=>Pv (i+1) (ys++[v]) H5 else Pv (i+1) ys H4)
  (hd:∀ys H p,Pv xs.length ys H->H p=none->Q (.ref p) (upd H p (.lst ys))):ig (dO K a) n js g tc te σ H Q:=by
 refine⟨λi m ys H=>m=xs.length-i/\i<=xs.length/\Pv i ys H,⟨xs.length,by simp,Nat.zero_le _,h0⟩,?_⟩;rintro i m ys H ⟨rfl,hi,p⟩;have q:=hl i ys H hi p;by_cases hlt:i<xs.length
 ·refine .inr ⟨⟨xs,xs[i],q.1,by simp[hlt]⟩,by have:=q.2;omega,Pv (i+1),λys' H' p'=>⟨xs.length-(i+1),by omega,rfl,hlt,p'⟩,λx H' y=>?_⟩;obtain⟨e,y⟩:=y;subst e;exact hs i x ys _ (y xs q.1) p
 ·have e:i=xs.length:=by omega
  subst e;exact .inl ⟨⟨xs,q.1,F5 _⟩,λp' hp=>hd ys H p' p hp⟩
def uP{K:FD}{a:Addr}{xs:List V}{n:Nat}{js:List Nat}{g:TG}{tc:TT}{te:TE}{Q:VK}{σ:St}{H:Hp}(Pv:Nat->List V->Hp->Prop)(hz:xs.length<=sizeLine)(h0:Pv 0 [] H)(hl:∀i ys H,i<=xs.length->Pv i ys H->ao K H a xs/\ys.length<=i)
  (hs:∀i x ys H,xs[i]?=some x->Pv i ys H->g x (du n js σ) H λσ2 H3=>tc σ2 H3 λb H4=>if b=true then te σ2 H4 λv H5=>Pv (i+1) (ys++[v]) H5 else Pv (i+1) ys H4)
  (hd:∀ys H p,Pv xs.length ys H->H p=none->Q (.ref p) (upd H p (.lst ys))):ig (fM K a) n js g tc te σ H Q:=by
 refine⟨λi m ys H=>m=xs.length-i/\i<=xs.length/\Pv i ys H,⟨xs.length,by simp,Nat.zero_le _,h0⟩,?_⟩;rintro i m ys H ⟨rfl,hi,p⟩;have q:=hl i ys H hi p;by_cases hlt:i<xs.length
 ·refine .inr ⟨⟨xs,xs[i],q.1,by simp[hlt]⟩,by have:=q.2;omega,Pv (i+1),λys' H' p'=>⟨xs.length-(i+1),by omega,rfl,hlt,p'⟩,λx H' y=>?_⟩;obtain⟨e,y⟩:=y;subst e;exact hs i x ys _ (y xs q.1) p
 ·have e:i=xs.length:=by omega
  subst e;exact .inl ⟨⟨xs,q.1,F5 _⟩,λp' hp=>hd ys H p' p hp⟩
def fg{lo:Int}{N n:Nat}{js:List Nat}{g:TG}{tc:TT}{te:TE}{Q:VK}{σ:St}{H:Hp}(Pv:Nat->List V->Hp->Prop)(hz:N<=sizeLine)(h0:Pv 0 [] H)(hl:∀i ys H,i<=N->Pv i ys H->ys.length<=i)
  (hs:∀i ys H,i<N->Pv i ys H->g (.int (lo+i)) (du n js σ) H λσ2 H3=>tc σ2 H3 λb H4=>if b=true then te σ2 H4 λv H5=>Pv (i+1) (ys++[v]) H5 else Pv (i+1) ys H4)
  (hd:∀ys H p,Pv N ys H->H p=none->Q (.ref p) (upd H p (.lst ys))):ig (dN lo N) n js g tc te σ H Q:=by
 refine⟨λi m ys H=>m=N-i/\i<=N/\Pv i ys H,⟨N,by simp,Nat.zero_le _,h0⟩,?_⟩;rintro i m ys H ⟨rfl,hi,p⟩;have q:=hl i ys H hi p;by_cases hlt:i<N
 ·refine .inr ⟨hlt,by omega,Pv (i+1),λys' H' p'=>⟨N-(i+1),by omega,rfl,hlt,p'⟩,λx H' y=>?_⟩;obtain⟨e,y⟩:=y;subst e y;exact hs i ys _ hlt p
 ·have e:i=N:=by omega
  subst e;exact .inl ⟨F5 _,λp' hp=>hd ys H p' p hp⟩
structure Cal(P:Program)(w:World)(K:FD)(mg:Str->Option Value)(base:Heap)(x:Str)(k:Nat)(ps:List Str)(sp:Sp):Prop where
 ex:∃(f:Addr) (fd:FuncData),mg x=some (.ref f)/\PySem.W.keepIn K (.ref f)=true/\Binds K fd ps []/\FnOk P w K mg base cC k f fd ps sp
structure Dfn(K:FD)(mg:Str->Option Value)(x:Str)(st:Stmt)(ps:List Str):Prop where
 ex:∃(f:Addr) (fd:FuncData),mg x=some (.ref f)/\Fun K x x st f fd/\Binds K fd ps []
section
variable {P:Program} {w:World} {K:FD} {mg:Str->Option Value} {base:Heap}
def Dfn.ok{x:Str}{st:Stmt}{N ps:List Str}{k:Nat}{sp:Sp}(D:Dfn K mg x st ps)(S:FnScope N ps (aA st))(len:∀vs H Q E,sp vs H Q E->vs.length=ps.length)
  (hbody:∀(X:Cx) (hX:∃f cdv A outer s H E,X=(bx cC P w K mg base N x (aA st) f cdv A outer s H E).nox/\Room k X.A) (H:Hp) (vs:List V) (Q:VK) (E:XK),sp vs H Q E →
   ∃t,b6 X (dy st) t/\t { nx:=λ_ H'=>Q .non H',rt:=Q } (start N vs) H):Cal P w K mg base x (k+1) ps sp:=by
 obtain⟨f,fd,hm,F,hb⟩:=D.ex;exact⟨f,fd,hm,F.kp,hb,F.ok S len λcdv A outer s H vs Q E hr h=>hbody _ ⟨f,cdv,A,outer,s,H,E,rfl,hr⟩ H vs Q E h⟩
end
section
variable {X:Cx}
def aD{x:Str}{k j:Nat}{ps:List Str}{sp:Sp}{e:Expr}{es:List Expr}{t:TA}{p pos:Pos}(C:Cal X.prog X.w X.K X.mg X.base x j ps sp)(hr:Room k X.A)(ha:PA X (e::es) t)(hjk:j<=k:=by decide)(hg:Gl X x:=by rfl)(hdb:(x == ("__debug__":Str))=false:=by decide)
  (he:starEach (e::es) X.env=(false,eval e X.env)::starEach es X.env:=by rfl) (hpl:(backTo pos (starEach es X.env)).any (·.1)=false:=by rfl) :
  PE X (.Call (.Name x p) (e::es) [] pos) (iH sp [] E0 t):=by
 obtain⟨f,fd,hm,hk,hb,F⟩:=C.ex;exact xc F (hr.mono hjk) hg hm hk hb .nil DM ha hdb he hpl
def sk:bG X (binaryOp .FloorDiv) (rI (λ_ j=>0<j/\j<2 ^ 64) λi j=>.int (i / j)):=kS λi j _ _ _ _ _ hc q=>by
 have h1:(0:Int)<j:=hc.1;have h2:j<2 ^ 64:=hc.2;refine floordiv_int (by omega) (by rw[Int.fdiv_eq_ediv_of_nonneg i (by omega)];exact q) (.inl (PyProof.noPylong_of_log2 ?_));have h0:j.natAbs≠0:=by omega
 have h64:j.natAbs<2 ^ 64:=by omega
 have:=(Nat.log2_lt h0).mpr h64;omega
def dk(H:Hp):V->String->Prop
 | .non,n=>n = "NoneType"
 | .bl _,n=>n = "bool"
 | .int _,n=>n = "int"
 | .str _,n=>n = "str"
 | .ref a,n=>(n = "list"/\∃xs,H a=some (.lst xs))\/(n = "tuple"/\∃xs,H a=some (.tup xs))
 | _,_=>False
def dk.ty{K:FD}{H:Hp}{x:V}{n:String}(h:dk H x n):TyOf K H x (.type n):=by
 cases x with
 | non=>cases(show n = "NoneType" from h);exact .non
 | bl b=>cases(show n = "bool" from h);exact .bl b
 | int i=>cases(show n = "int" from h);exact .int i
 | str z=>cases(show n = "str" from h);exact .str z
 | ref a=>
  rcases h with⟨rfl,xs,e⟩|⟨rfl,xs,e⟩
  ·exact .lst e
  ·exact .tup e
 | _=>exact False.elim h
def gM(a b c d e:Bool):String->Option Bool
 | "tuple"=>some a|"int"=>some b|"bool"=>some c|"list"=>some d|"str"=>some e|_=>none
def fS:String->String->Option Bool
 | "NoneType"=>gM false false false false false
 | "bool"=>gM false true true false false
 | "int"=>gM false true false false false
 | "str"=>gM false false false false true
 | "list"=>gM false false false true false
 | "tuple"=>gM true false false false false
 | _=>λ_=>none
def AL{K:FD}{n T:String}{b:Bool}(h:fS n T=some b):PySem.W.kitOne K (.type n) (.type T)=some b:=by
 unfold fS at h;split at h<;>first
  | (unfold gM at h;split at h<;>first|(cases h;kernel_rfl)|cases h)
  | cases h
def yw:List V->Hp->VK->Prop:=λxs H Q=>∃x n T b,xs=[x,.ty T]/\dk H x n/\fS n T=some b/\Q (.bl b) H
def fY:cJ X (.builtin "isinstance") yw:=by intro pins s σ H xs us Q I r h;obtain⟨x,n,T,b,rfl,hk,hb,q⟩:=h;obtain⟨u,w',rfl,r1,r2⟩:=vals2 r;cases(show w'=Value.type T from r2);exact zo I r1 hk.ty (AL hb) λtk=>⟨.bl b,H,I.tok tk,rfl,q⟩
def kC(K:FD):List V->Hp->VK->Prop:=λxs H Q=>∃p ys,xs=[.ref p]/\(ag K H p ys\/ao K H p ys)/\Q (.int ys.length) H
def EJ:cJ X (.builtin "len") (kC X.K):=zL
def qm(K:FD):List V->Hp->VK->Prop:=λxs H Q=>∃p ys,xs=[.ref p]/\((ag K H p ys/\∀l,H l=none->Q (.ref l) (upd H l (.tup ys)))\/(ao K H p ys/\Q (.ref p) H))
def An:cJ X (.type "tuple") (qm X.K):=zT
def md(K:FD):List V->Hp->VK->Prop:=λxs H Q=>∃p ys,xs=[.ref p]/\(ag K H p ys\/ao K H p ys)/\∀l,H l=none->Q (.ref l) (upd H l (.lst ys))
def ED:cJ X (.type "list") (md X.K):=BI
end
def Ext(H H':Hp):Prop:=∀b o,H b=some o->H' b=some o
def Ext.rfl'(H:Hp):Ext H H:=λ_ _ h=>h
def Ext.trans{H H1 H2:Hp}(a:Ext H H1)(b:Ext H1 H2):Ext H H2:=λx o h=>b x o (a x o h)
def Ext.none{H H':Hp}(e:Ext H H'){l:Addr}(h:H' l=Option.none):H l=Option.none:=by
 cases q:H l with
 | none=>rfl
 | some o=>rw[e l o q]at h;cases h
section
variable {X:Cx} (K:FD)
def aF(h:X.K=K:=by rfl):il X (nz K):=by subst h;exact En
def aH(h:X.K=K:=by rfl):il X (pV K):=by subst h;exact ER
def jw(h:X.K=K:=by rfl):jC X (pX K):=by subst h;exact Eb
def qZ(h:X.K=K:=by rfl):bG X (compareOp .In) (mR K false):=by subst h;exact Ei
def dD(h:X.K=K:=by rfl):cJ X (.builtin "len") (kC K):=by subst h;exact EJ
def lV(h:X.K=K:=by rfl):cJ X (.type "tuple") (qm K):=by subst h;exact An
def Dz(h:X.K=K:=by rfl):cJ X (.type "list") (md K):=by subst h;exact ED
def cD{tg l:Expr}{tl:TE}(hl:PE X l tl)(h:X.K=K:=by rfl):PI X tg l (pW K tl):=by subst h;exact Cf hl
def kR{tg l:Expr}{tl:TE}(hl:PE X l tl)(h:X.K=K:=by rfl):PI X tg l (pA K tl):=by subst h;exact Er hl
def iX{es:List Expr}{k:Nat}{t:dM}{n:Nat}{pos:Pos}(hc:X.calm=true)(hg:iz X es t)(h:X.K=K:=by rfl)
  (hn:(assignEach es X.env).length=n:=by rfl) (hst:(assignEach es X.env).findIdx? (·.1)=none:=by rfl):PG X (.Tuple es k pos) (mH K n t):=by subst h;exact CQ hc hg hn hst
def bC{o e:Expr}{es:List Expr}{to:TE}{t:TA}{name:Str}{apos cpos:Pos}{T id:String}{r:V->List V->Hp->VK->Prop}(pa:PlainAttrs T)(slot:Slot T name id)(hty:typeOf (.builtin id)=pure (.type "method_descriptor"))(hm:kA X id r)(ho:PE X o to)(ha:PA X (e::es) t)(h:X.K=K:=by rfl)
  (hbase:attributeBase o name X.env (eval o X.env)=eval o X.env:=by rfl)
  (hfew:((backTo cpos (starEach (e::es) X.env)).all (λx=>!x.1) && (backToKw cpos (keywordEach [] X.env)).all (λx=>x.1.isSome)
   && decide ((e::es).length+([]:List Keyword).length+(if([]:List Keyword).isEmpty then 0 else 1)<30))=true:=by rfl)
  (hline:(apos.endLine == cpos.line)=true:=by rfl) (hs:starEach (e::es) X.env=(false,eval e X.env)::starEach es X.env:=by rfl) (hplain:(backTo cpos (starEach es X.env)).any (·.1)=false:=by rfl) :
  PE X (.Call (.Attribute o name apos) (e::es) [] cpos) (pS K T r to t):=by subst h;exact B9 pa slot hty hm ho ha hbase hfew hline hs hplain
end
def xX(ns:List Int):TA:=λ_ H Q=>Q (ns.map V.int) H
inductive IntsE:List Expr->List Int->Prop
 | n:IntsE [] []
 | c {i j pos es ns}:IntsE es ns->IntsE (.Constant (.int i) j pos::es) (i::ns)
def jo{X:Cx}{es:List Expr}{ns:List Int}(h:IntsE es ns):PA X es (xX ns):=by
 induction h with
 | n=>exact ae
 | @c i j pos es ns _ ih=>
  intro p pins s σ H Q I hq;exact aa (e:=.Constant (.int i) j pos) af ih rfl p pins s σ H Q I hq
def rd_ints{σ:St}{H:Hp}{ns:List Int}{R:List V->Hp->Prop}(h:R (ns.map V.int) H):xX ns σ H R:=h
def pI(c:TT)(t u:TS):TS:=λD σ H=>∃R:St->Hp->Prop,(c σ H λb H1=>if b=true then t { D with nx:=R } σ H1 else u { D with nx:=R } σ H1)/\∀σ' H',R σ' H'->D.nx σ' H'
def cE{X:Cx}{c:Expr}{a b:List Stmt}{tc:TT}{t u:TS}{pos:Pos}(hc:PT X c tc)(ha:b6 X a t)(hb:b6 X b u):PS X (.If c a b pos) (pI tc t u):=by
 intro pins s σ H D I h;obtain⟨R,h,hR⟩:=h;refine ay (bD hc ha hb pins s σ H { D with nx:=R } I h) λf s1 q=>?_;cases f with
 | next=>
  obtain⟨σ',H',I',q⟩:=q;exact⟨σ',H',I',hR σ' H' q⟩
 | ret v=>exact q
 | brk=>exact q
 | cont=>exact q
def xC(K:FD):V->Hp->(It->Hp->Prop)->Prop:=λx H R=>∃a,x=.ref a/\(∃xs,ag K H a xs)/\R (dO K a) H
def rA(K:FD):V->Hp->(It->Hp->Prop)->Prop:=λx H R=>∃a,x=.ref a/\(∃xs,ao K H a xs)/\R (fM K a) H
def q9:List V->Hp->(It->Hp->Prop)->Prop:=λvs H R=>∃j:Int,vs=[.int j]/\-(2 ^ 62)<=j/\j<2 ^ 62/\R (dN 0 j.toNat) H
def va:List V->Hp->(It->Hp->Prop)->Prop:=λvs H R=>∃i j:Int,vs=[.int i,.int j]/\(-(2 ^ 62)<=i/\i<2 ^ 62/\-(2 ^ 62)<=j/\j<2 ^ 62)/\R (dN i (j-i).toNat) H
def lU(J:It)(g:TG)(tb:TS)(D:Ends)(σ:St)(H:Hp):Prop:=∃W:Nat->Nat->St->Hp->Prop,(∃m,W 0 m σ H)/\∀i m σ H,W i m σ H →
 (J.stop i H/\D.nx σ H)\/(J.go i H/\∃N:St->Hp->Prop,(∀σ' H',N σ' H'->∃m',m'<m/\W (i+1) m' σ' H')/\∀x H',J.yld i H x H'->g x σ H' λσ2 H2=>tb { D with nx:=N,ct:=N,bk:=D.nx } σ2 H2)
def forL{K:FD}{a:Addr}{xs:List V}{g:TG}{tb:TS}{D:Ends}{σ:St}{H:Hp}(Pv:Nat->St->Hp->Prop)(h0:Pv 0 σ H)(hl:∀i σ H,i<=xs.length->Pv i σ H->ag K H a xs)
  (hs:∀i x σ H,xs[i]?=some x->Pv i σ H->g x σ H λσ2 H2=>tb ⟨Pv (i+1),D.rt,D.nx,Pv (i+1)⟩ σ2 H2) (hd:∀σ H,Pv xs.length σ H->D.nx σ H):lU (dO K a) g tb D σ H:=Cz Pv h0 hl hs hd
def yx{K:FD}{a:Addr}{xs:List V}{g:TG}{tb:TS}{D:Ends}{σ:St}{H:Hp}(Pv:Nat->St->Hp->Prop)(h0:Pv 0 σ H)(hl:∀i σ H,i<=xs.length->Pv i σ H->ao K H a xs)
  (hs:∀i x σ H,xs[i]?=some x->Pv i σ H->g x σ H λσ2 H2=>tb ⟨Pv (i+1),D.rt,D.nx,Pv (i+1)⟩ σ2 H2) (hd:∀σ H,Pv xs.length σ H->D.nx σ H):lU (fM K a) g tb D σ H:=DY Pv h0 hl hs hd
def forR{lo:Int}{n:Nat}{g:TG}{tb:TS}{D:Ends}{σ:St}{H:Hp}(Pv:Nat->St->Hp->Prop)(h0:Pv 0 σ H)
  (hs:∀i σ H,i<n->Pv i σ H->g (.int (lo+i)) σ H λσ2 H2=>tb ⟨Pv (i+1),D.rt,D.nx,Pv (i+1)⟩ σ2 H2) (hd:∀σ H,Pv n σ H->D.nx σ H):lU (dN lo n) g tb D σ H:=CV Pv h0 hs hd
def eW(H:Hp)(o:HO)(R:VK):Prop:=∀p,H p=none->R (.ref p) (upd H p o)
section
variable {K:FD} {D:Ends} {σ:St} {H:Hp} {Q:VK} {ta tb tc te:TE} {t u:TS} {c c':TT}
def rd_seq(h:t ⟨u D,D.rt,D.bk,D.ct⟩ σ H):xt t u D σ H:=h
def rd_next(h:D.nx σ H):sV D σ H:=h
def rd_ret(h:te σ H D.rt):u5 te D σ H:=h
def rd_asg{g:TG}(h:te σ H λx H1=>g x σ H1 D.nx):lF te g D σ H:=h
def rd_drop(h:te σ H λ_ H1=>D.nx σ H1):vC te D σ H:=h
def rd_ifS(h:c σ H λb H1=>if b=true then t D σ H1 else u D σ H1):wy c t u D σ H:=h
def jE(R:St->Hp->Prop)(h:c σ H λb H1=>if b=true then t ⟨R,D.rt,D.bk,D.ct⟩ σ H1 else u ⟨R,D.rt,D.bk,D.ct⟩ σ H1)(k:∀σ' H',R σ' H'->D.nx σ' H'):pI c t u D σ H:=⟨R,h,k⟩
def bt(h:c σ H λb H1=>if b=true then t D σ H1 else u D σ H1):pI c t u D σ H:=⟨D.nx,h,λ_ _ h=>h⟩
def rd_name{i:Nat}{v:V}{R:St->Hp->Prop}(h:R (σ.set i (some v)) H):jJ i v σ H R:=h
def rd_var{i:Nat}{v:V}(e:σ[i]?=some (some v))(h:Q v H):mS i σ H Q:=⟨v,e,h⟩
def rd_c{v:V}(h:Q v H):tC v σ H Q:=h
def rd_op{r:R2}(h:ta σ H λx H1=>tb σ H1 λy H2=>r x y H2 Q):iF r ta tb σ H Q:=h
def rd_un{r:V->Hp->VK->Prop}(h:ta σ H λx H1=>r x H1 Q):we r ta σ H Q:=h
def rd_CB{r:List V->Hp->VK->Prop}{a:TA}(h:a σ H λvs H1=>r vs H1 Q):jN r a σ H Q:=h
def rd_cons{a:TA}{R:List V->Hp->Prop}(h:ta σ H λx H1=>a σ H1 λxs H2=>R (x::xs) H2):lW ta a σ H R:=h
def rd_nil{R:List V->Hp->Prop}(h:R [] H):oO σ H R:=h
def rd_test{R:Bool->Hp->Prop}(h:te σ H λx H'=>∃k,x=.bl k/\R k H'):sA te σ H R:=h
def rd_B{R:Bool->Hp->Prop}(h:te σ H λx H'=>∃k,x=.bl k/\R k H'):tB te σ H R:=h
def rd_exb{b:Bool}{R:Bool->Prop}(h:R b):∃k,V.bl b=V.bl k/\R k:=⟨b,rfl,h⟩
def rd_not{R:Bool->Hp->Prop}(h:c σ H λb H1=>R (!b) H1):xQ c σ H R:=h
def rd_and{R:Bool->Hp->Prop}(h:c σ H λb H1=>if b=true then c' σ H1 R else R false H1):rM c c' σ H R:=h
def rd_or{R:Bool->Hp->Prop}(h:c σ H λb H1=>if b=true then R true H1 else c' σ H1 R):rR c c' σ H R:=h
def rd_andV(h:ta σ H λx H1=>∃k,x=.bl k/\if k=true then tb σ H1 Q else Q (.bl false) H1):tI ta tb σ H Q:=h
def rd_orV(h:ta σ H λx H1=>∃k,x=.bl k/\if k=true then Q (.bl true) H1 else tb σ H1 Q):wZ ta tb σ H Q:=h
def rd_notV(h:ta σ H λx H1=>∃k,x=.bl k/\Q (.bl (!k)) H1):sH ta σ H Q:=h
def rd_yes{R:Bool->Hp->Prop}(h:R true H):sZ σ H R:=h
def rd_I0{g:Int->Int->V}{i j:Int}(h:Q (g i j) H):fL g (.int i) (.int j) H Q:=⟨i,j,rfl,rfl,h⟩
def rd_I{C:Int->Int->Prop}{g:Int->Int->V}{i j:Int}(hc:C i j)(h:Q (g i j) H):rI C g (.int i) (.int j) H Q:=⟨i,j,rfl,rfl,hc,h⟩
def rd_U{g:Int->V}{i:Int}(h:Q (g i) H):rU g (.int i) H Q:=⟨i,rfl,h⟩
def rd_EqI{i j:Int}(h:Q (.bl (decide (i=j))) H):jc (.int i) (.int j) H Q:=⟨rfl,by
 have e:decide (V.int i=V.int j)=decide (i=j):=by rw[Gm];simp
 rw[e];exact h⟩
def rd_NeI{i j:Int}(h:Q (.bl (!decide (i=j))) H):j7 (.int i) (.int j) H Q:=⟨rfl,by
 have e:decide (V.int i=V.int j)=decide (i=j):=by rw[Gm];simp
 rw[e];exact h⟩
def rd_EqB{i j:Bool}(h:Q (.bl (i == j)) H):jc (.bl i) (.bl j) H Q:=⟨rfl,by rw[nX];exact h⟩
def aE{p:Addr}{xs:List V}{i:Int}{v:V}(e:ag K H p xs)(a:bF xs i=some v)(h:Q v H):nz K (.ref p) (.int i) H Q:=⟨p,xs,i,v,rfl,rfl,e,a,h⟩
def aI{p:Addr}{xs:List V}{i:Int}{v:V}(e:ao K H p xs)(a:bF xs i=some v)(h:Q v H):pV K (.ref p) (.int i) H Q:=⟨p,xs,i,v,rfl,rfl,e,a,h⟩
def gC{p:Addr}{xs:List V}(e:ag K H p xs)(h:Q (.int xs.length) H):kC K [.ref p] H Q:=⟨p,xs,rfl,.inl e,h⟩
def hJ{p:Addr}{xs:List V}(e:ao K H p xs)(h:Q (.int xs.length) H):kC K [.ref p] H Q:=⟨p,xs,rfl,.inr e,h⟩
def lT{p:Addr}{xs:List V}(e:ag K H p xs)(h:eW H (.tup xs) Q):qm K [.ref p] H Q:=⟨p,xs,rfl,.inl ⟨e,h⟩⟩
def eR{x:V}{n T:String}{b:Bool}(hk:dk H x n)(hb:fS n T=some b)(h:Q (.bl b) H):yw [x,.ty T] H Q:=⟨x,n,T,b,rfl,hk,hb,h⟩
def rd_call{sp:Sp}{a:TA}{E:XK}(h:a σ H λvs H1=>sp (vs++[]) H1 Q E):iH sp [] E a σ H Q:=h
def rd_BM{T:String}{r:V->List V->Hp->VK->Prop}{a:TA}(h:te σ H λx H1=>i4 K T x H1/\a σ H1 λxs H2=>r x xs H2 Q):pS K T r te a σ H Q:=h
def rd_tup{a:TA}(h:a σ H λxs H1=>xs.length<=sizeLine/\eW H1 (.tup xs) Q):oa a σ H Q:=h
def rd_lst{a:TA}(h:a σ H λxs H1=>xs.length<=sizeLine/\eW H1 (.lst xs) Q):uK a σ H Q:=h
def rd_sl{r:V->Option Int->Option Int->Hp->VK->Prop}{tl th:TO}(h:te σ H λx H1=>tl σ H1 λl H2=>th σ H2 λv H3=>r x l v H3 Q):qW r te tl th σ H Q:=h
def rd_noPart{R:Option Int->Hp->Prop}(h:R none H):wN σ H R:=h
def rd_part{R:Option Int->Hp->Prop}(h:te σ H λx H1=>∃i,x=.int i/\R (some i) H1):uC te σ H R:=h
def rd_exi{i:Int}{R:Int->Prop}(h:R i):∃k,V.int i=V.int k/\R k:=⟨i,rfl,h⟩
def rd_chain{r r':R2}(h:ta σ H λx H1=>tb σ H1 λy H2=>r x y H2 λz H3=>∃k,z=.bl k/\(if k=true then tc σ H3 λw' H4=>r' y w' H4 Q else Q (.bl false) H3)):rF r r' ta tb tc σ H Q:=h
def rd_comp{n:Nat}{js:List Nat}{wi:TI}{g:TG}(h:wi σ H λJ H1=>ig J n js g c te σ H1 Q):oq n js wi g c te σ H Q:=h
def rd_iL{R:It->Hp->Prop}(h:te σ H λx H1=>xC K x H1 R):pW K te σ H R:=h
def rd_iT{R:It->Hp->Prop}(h:te σ H λx H1=>rA K x H1 R):pA K te σ H R:=h
def cG{p:Addr}{xs:List V}{R:It->Hp->Prop}(e:ag K H p xs)(h:R (dO K p) H):xC K (.ref p) H R:=⟨p,rfl,⟨xs,e⟩,h⟩
def lE{p:Addr}{xs:List V}{R:It->Hp->Prop}(e:ao K H p xs)(h:R (fM K p) H):rA K (.ref p) H R:=⟨p,rfl,⟨xs,e⟩,h⟩
def rd_i1{a:TA}{R:It->Hp->Prop}(h:a σ H λvs H1=>q9 vs H1 R):xn a σ H R:=h
def ck{j:Int}{R:It->Hp->Prop}(h1:-(2 ^ 62)<=j/\j<2 ^ 62)(h:R (dN 0 j.toNat) H):q9 [.int j] H R:=⟨j,rfl,h1.1,h1.2,h⟩
def rd_i2{a:TA}{R:It->Hp->Prop}(h:a σ H λvs H1=>va vs H1 R):rB a σ H R:=h
def CN{i j:Int}{R:It->Hp->Prop}(h1:-(2 ^ 62)<=i/\i<2 ^ 62/\-(2 ^ 62)<=j/\j<2 ^ 62)(h:R (dN i (j-i).toNat) H):va [.int i,.int j] H R:=⟨i,j,rfl,h1,h⟩
def rd_for{wi:TI}{g:TG}(h:wi σ H λJ H1=>lU J g t D σ H1):vG wi g t D σ H:=h
def bT{l:Addr}{xs:List V}{y:V}(e:H l=some (.lst xs))(hz:xs.length<sizeLine)(h:Q .non (upd H l (.lst (xs++[y])))):uL (.ref l) [y] H Q:=⟨l,xs,y,rfl,rfl,e,hz,h⟩
def cH{p:Addr}{xs:List V}(e:ag K H p xs):i4 K "list" (.ref p) H:=.inl ⟨rfl,xs,e⟩
def rd_sub{to ti:TE}{w:lO}{v:V}{R:St->Hp->Prop}(h:to σ H λo H1=>ti σ H1 λi H2=>w o i v H2 λH3=>R σ H3):wB to ti w v σ H R:=h
def jy{p:Addr}{xs:List V}{k:Int}{j:Nat}{v:V}{R:Hp->Prop}(e:H p=some (.lst xs))(a:fb xs.length k=some j)(h:R (upd H p (.lst (xs.set j v)))):xq (.ref p) (.int k) v H R:=⟨p,xs,k,j,rfl,rfl,e,a,h⟩
def jF{n:Nat}{g:dM}{a:Addr}{xs:List V}{R:St->Hp->Prop}(e:ao K H a xs)(hl:xs.length=n)(h:g xs σ H R):mH K n g (.ref a) σ H R:=⟨a,xs,rfl,e,hl,h⟩
def rd_gcons{g:TG}{gs:dM}{v:V}{r:List V}{R:St->Hp->Prop}(h:g v σ H λσ' H'=>gs r σ' H' R):xh g gs (v::r) σ H R:=⟨v,r,rfl,h⟩
def rd_gnil{R:St->Hp->Prop}(h:R σ H):sM [] σ H R:=⟨rfl,h⟩
def oU{l b:Addr}{xs zs:List V}(e1:H l=some (.lst xs))(e2:H b=some (.lst zs))(hz:xs.length+zs.length<=sizeLine)(h:eW H (.lst (xs++zs)) Q):vT (.ref l) (.ref b) H Q:=⟨l,b,xs,zs,rfl,rfl,e1,e2,hz,h⟩
def o7{l:Addr}{k:Int}{xs:List V}(e:H l=some (.lst xs))(hk:0<=k/\k<10 ^ 6)(hz:xs.length*k.toNat<=sizeLine)(h:eW H (.lst (Gu k.toNat xs).flatten) Q):rh (.ref l) (.int k) H Q:=
 ⟨l,k,xs,rfl,rfl,e,by omega,by omega,hz,h⟩
def jD{a:Addr}{xs:List V}{lo hi:Option Int}(e:ag K H a xs)(h:eW H (.lst (bW xs lo hi)) Q):pX K (.ref a) lo hi H Q:=⟨a,xs,rfl,e,h⟩
def r6{neg:Bool}{x:V}{p:Addr}{xs:List V}(e:ag K H p xs\/ao K H p xs)(f:eP x=true)(fs:xs.all eP=true)(h:Q (.bl (if neg then !iO x xs else iO x xs)) H):mR K neg x (.ref p) H Q:=⟨p,xs,rfl,e,f,fs,h⟩
def cM{o:HO}{R:VK}(h:∀p H',Ext H H'->H' p=some o->H p=none->R (.ref p) H'):eW H o R:=λp hp=>
 h p _ (λb u e=>by rw[aC (cw e hp)];exact e) aN hp
def bS{p:Addr}{o:HO}(hp:H p=none):Ext H (upd H p o):=λb u e=>by rw[aC (cw e hp)];exact e
def ag.ext{H':Hp}{p:Addr}{xs:List V}(e:Ext H H')(h:ag K H p xs):ag K H' p xs:=by
 rcases h with(h|⟨o,h⟩)|h
 ·exact .inl (.inl (e _ _ h))
 ·exact .inl (.inr ⟨o,e _ _ h⟩)
 ·exact .inr h
end
def fN{α:Type}{xs:List α}{i:Int}{v:α}(h0:0<=i)(h:xs[i.toNat]?=some v):bF xs i=some v:=by
 have:=fE h
 rwa [FW h0]at this
def jb{n:Nat}{i:Int}(h0:0<=i)(h:i<n):fb n i=some i.toNat:=by unfold fb;rw[GH h0,GH h]
def dR:V->PyData->Prop
 | .non,.none=>True
 | .bl b,.bool c=>b=c
 | .int i,.int j=>i=j
 | .str x,.str y=>x=y/\(PyData.str y).canLay0=true
 | _,_=>False
def aW(H:Hp):Nat->V->PyData->Prop
 | 0,x,d=>dR x d
 | n+1,x,d=>dR x d\/∃a xs ds,x=.ref a/\((H a=some (.tup xs)/\d=.tuple ds)\/(H a=some (.lst xs)/\d=.list ds))/\Paired (aW H n) xs ds
section
variable {X:Cx} {pins:List (Addr×Obj)} {σ:St} {H:Hp} {s:Shared}
def dR.reads{x:V}{d:PyData}{u:Value}(h:dR x d)(r:RelV x u):∃as,Reads s.heap u d as:=by
 cases x with
 | non=>cases d<;>first|exact False.elim h|(cases r;exact⟨_,.none⟩)
 | bl b=>cases d<;>first|exact False.elim h|(cases(show b=_ from h);cases r;exact⟨_,.bool _⟩)
 | int i=>cases d<;>first|exact False.elim h|(cases(show i=_ from h);obtain⟨t,rfl⟩:=r;exact⟨_,.int _ t⟩)
 | str z=>cases d<;>first|exact False.elim h|(cases(show z=_/\_ from h).1;obtain⟨t,rfl⟩:=r;exact⟨_,.str _ t⟩)
 | _=>cases d<;>exact False.elim h
def dR.lay{x:V}{d:PyData}(h:dR x d):d.canLay0=true/\d.depth=0:=by cases x<;>cases d<;>first|exact False.elim h|exact ⟨rfl,rfl⟩|exact ⟨h.2,rfl⟩
def pZ{R:V->PyData->Prop}(ih:∀{x:V} {d:PyData} {u:Value},R x d->RelV x u->∃as,Reads s.heap u d as):∀{xs:List V} {ds:List PyData} {us:List Value},Paired R xs ds->Vals xs us->∃as,ReadsAll s.heap us ds as
 | _,_,_,.nil,.nil=>⟨_,.nil⟩
 | _,_,_,.cons h t,.cons r rt=>by obtain⟨as,ha⟩:=ih h r;obtain⟨bs,hb⟩:=pZ ih t rt;exact⟨_,.cons ha hb⟩
def aW.reads(I:Inv X pins σ H s):∀(n:Nat) {x:V} {d:PyData} {u:Value},aW H n x d->RelV x u->∃as,Reads s.heap u d as
 | 0,_,_,_,h,r=>dR.reads h r
 | n+1,x,d,u,h,r=>by
  rcases h with h|⟨a,xs,ds,rfl,hh,hp⟩
  ·exact dR.reads h r
  ·cases r;rcases hh with⟨e,rfl⟩|⟨e,rfl⟩
   ·obtain⟨its,rv,⟨o,ho,hc,k,hd⟩,_⟩:=I.tuple (ao.of e);obtain⟨as,ha⟩:=pZ (λ{x d u}=>aW.reads I n) hp rv;exact⟨_,.tuple ho hc hd (by simpa using ha)⟩
   ·obtain⟨its,k,rv,ho,_⟩:=I.lst e;obtain⟨as,ha⟩:=pZ (λ{x d u}=>aW.reads I n) hp rv;exact⟨_,.list ho rfl rfl (by simpa using ha)⟩
def jv{R:V->PyData->Prop}{m:Nat}(ih:∀{x:V} {d:PyData},R x d->d.canLay0=true/\d.depth<=m):∀{xs:List V} {ds:List PyData},Paired R xs ds->PyData.canLayAll0 ds=true/\PyData.depthAll ds<=m
 | _,_,.nil=>⟨rfl,Nat.zero_le _⟩
 | _,_,.cons h t=>by
  obtain⟨h1,h2⟩:=ih h;obtain⟨h3,h4⟩:=jv ih t;refine⟨?_,?_⟩
  ·simp only[PyData.canLayAll0,h1,h3,Bool.and_self]
  ·simp only[PyData.depthAll];exact Nat.max_le.mpr ⟨h2,h4⟩
def aW.lay:∀(n:Nat) {x:V} {d:PyData},aW H n x d->d.canLay0=true/\d.depth<=n
 | 0,_,_,h=>⟨(dR.lay h).1,Nat.le_of_eq (dR.lay h).2⟩
 | n+1,x,d,h=>by
  rcases h with h|⟨a,xs,ds,rfl,hh,hp⟩
  ·exact⟨(dR.lay h).1,by rw[(dR.lay h).2];exact Nat.zero_le _⟩
  ·obtain⟨h1,h2⟩:=jv (λ{x d}=>aW.lay n) hp;rcases hh with⟨e,rfl⟩|⟨e,rfl⟩
   ·exact⟨h1,Nat.succ_le_succ h2⟩
   ·exact⟨h1,Nat.succ_le_succ h2⟩
def rD(neg:Bool):R2:=λx y H Q=>∃n m d e,aW H n x d/\aW H m y e/\n<=50/\Q (.bl (if neg then !PyData.eqv d e else PyData.eqv d e)) H
def Fy{k:Nat}(hr:Room k X.A):bG X (compareOp .Eq) (rD false):=by intro pins s σ H x y v u Q I rx ry h;obtain⟨n,m,d,e,h1,h2,hn,q⟩:=h;obtain⟨as,ra⟩:=aW.reads I n h1 rx;obtain⟨bs,rb⟩:=aW.reads I m h2 ry;have l1:=aW.lay n h1;have l2:=aW.lay m h2;have hu:=hr.units;have hm:min d.depth e.depth<=50:=Gh (Nat.min_le_left _ _) (Gh l1.2 hn);exact SeqAt.compareEq_reads ra rb l1.1 l2.1 (by omega) ⟨.bl _,H,I,rfl,q⟩
def xE{k:Nat}(hr:Room k X.A):bG X (compareOp .NotEq) (rD true):=by intro pins s σ H x y v u Q I rx ry h;obtain⟨n,m,d,e,h1,h2,hn,q⟩:=h;obtain⟨as,ra⟩:=aW.reads I n h1 rx;obtain⟨bs,rb⟩:=aW.reads I m h2 ry;have l1:=aW.lay n h1;have l2:=aW.lay m h2;have hu:=hr.units;have hm:min d.depth e.depth<=50:=Gh (Nat.min_le_left _ _) (Gh l1.2 hn);exact SeqAt.compareNe_reads ra rb l1.1 l2.1 (by omega) ⟨.bl _,H,I,rfl,q⟩
end
def BH(K:FD):List V->Hp->VK->Prop:=λxs H Q=>∃(p:Addr) (bs:List Bool),xs=[.ref p]/\ag K H p (bs.map V.bl)/\Q (.bl (bs.all id)) H
def qH:∀{bs:List Bool} {us:List Value},Vals (bs.map V.bl) us->us=bs.map Value.bool
 | [],_,r=>by cases r;rfl
 | b::bs,_,r=>by
  cases r with
  | cons r t=>cases r;rw[qH t];rfl
def all_range(bs:List Bool):((GC bs.length).all λi=>bs.getD i false)=bs.all id:=by
 rw[Gm,Gj,Gj];constructor
 ·intro h b hb;obtain⟨i,hi,e⟩:=List.mem_iff_getElem.mp hb;have:=h i (List.mem_range.mpr hi);rw[List.getD_eq_getElem?_getD,FI hi]at this;rw[←e];exact this
 ·intro h i hi;have hi':=List.mem_range.mp hi;rw[List.getD_eq_getElem?_getD,FI hi'];exact h _ (Gb hi')
def ph{X:Cx}(K:FD)(hc:X.calm=true)(hK:X.K=K:=by rfl):cJ X (.builtin "all") (BH K):=by
 subst hK;intro pins s σ H xs us Q I r h;obtain⟨p,bs,rfl,hq,q⟩:=h;obtain⟨u,rfl,rx⟩:=vals1 r;cases rx;obtain⟨its,rv,pl,hz⟩:=I.list hq;have eb:=qH rv;have hne:p≠s.heap.objs.size:=F4 (by obtain⟨o,n,e,_⟩:=pl;exact FG e);refine call_all_walk (wpAny_pyIter_list pl.isList ?_);have I1:Inv X pins σ H { s with heap:=s.heap.push { cls:=.type "list_iterator",data:=.fields #[.ref p,.int 0 0] } }:=I.kept (t':=s.toks) λb o e=>FE _ e;have hf:=I.fpOk (H':=H) (F5 s.heap.objs.size) I.fresh;refine⟨s.heap.objs.size,_,_,_,_,_,(λi=>bs.getD i false),rfl,Walks.list (A:=X.A.in1) (I.ok.hd hc) _ p hne its.toArray,⟨⟨_,FF _ rfl,rfl,rfl⟩,?_⟩,?_,λh' tk hk=>?_⟩
 ·exact pl.isList.push _
 ·intro i v s' Q' E' hv hQ;rw[eb]at hv;have hv':(bs.map Value.bool)[i]?=some v:=by simpa using hv
  rw[FJ]at hv';cases eg:bs[i]? with
  | none=>rw[eg]at hv';cases hv'
  | some b=>
   rw[eg]at hv';cases hv';have eb':bs.getD i false=b:=by rw[List.getD_eq_getElem?_getD,eg];rfl
   have hQ':Q' (bs.getD i false) s':=hQ;rw[eb']at hQ';exact wpAny_truthy_bool hQ'
 ·obtain⟨f0,f1,f2,f3,f4,f5⟩:=hf;have hl:=rv.length;rw[FH]at hl;refine⟨.bl (bs.all id),H,I1.turned (it:=s.heap.objs.size) (λb o hb e=>hk b o (by simpa using hb) e) f0 f1 f3 f4 f5,?_,q⟩;show Value.bool _=Value.bool _;rw[FN,←hl,all_range]
def xo(c:TT)(tb:TS):TS:=λD σ H=>∃(W:Nat->St->Hp->Prop) (R:St->Hp->Prop),(∃m,W m σ H)/\(∀m σ H,W m σ H →
 c σ H λb H1=>if b=true then ∃N:St->Hp->Prop,(∀σ' H',N σ' H'->∃m',m'<m/\W m' σ' H')/\tb ⟨N,D.rt,R,N⟩ σ H1 else R σ H1)/\∀σ H,R σ H->D.nx σ H
def jj{X:Cx}{pos:Pos}{c:Expr}{body:List Stmt}{tc:TT}{tb:TS}(hp:PassesOwn (model X.prog X.w) X.A X.env X.xe)(hc:PT X c tc)(hb:b6 X body tb):PS X (.While c body [] pos) (xo tc tb):=by
 intro pins s σ H D I h;obtain⟨W,R,w0,hs,hR⟩:=h;refine ay (BF hp hc hb pins s σ H { D with nx:=R } I ⟨W,w0,hs⟩) λf s1 q=>?_;cases f with
 | next=>
  obtain⟨σ',H',I',q⟩:=q;exact⟨σ',H',I',hR σ' H' q⟩
 | ret v=>exact q
 | brk=>exact q
 | cont=>exact q
section
variable {D:Ends} {σ:St} {H:Hp} {Q:VK} {te:TE} {t:TS} {c:TT}
def jH(W:Nat->St->Hp->Prop)(R:St->Hp->Prop)(m:Nat)(h0:W m σ H)(hs:∀m σ H,W m σ H->c σ H λb H1=>if b=true then ∃N:St->Hp->Prop,(∀σ' H',N σ' H'->∃m',m'<m/\W m' σ' H')/\t ⟨N,D.rt,R,N⟩ σ H1 else R σ H1)(k:∀σ H,R σ H->D.nx σ H):xo c t D σ H:=⟨W,R,⟨m,h0⟩,hs,k⟩
def rd_aug{i:Nat}{ti:jk}{x:V}(e:σ[i]?=some (some x))(h:te σ H λy H1=>ti x y H1 λz H2=>D.nx (σ.set i (some z)) H2):sy i te ti D σ H:=⟨x,e,h⟩
def rd_ipI{f:Int->Int->Int}{i j:Int}(h:Q (.int (f i j)) H):oH f (.int i) (.int j) H Q:=⟨i,j,rfl,rfl,h⟩
end
section
variable {prog:Program} {w:World} {A:Around} {E:Value->Shared->Prop} {s:Shared}
end
section
variable {X:Cx} {pins:List (Addr×Obj)} {σ:St} {H:Hp} {s:Shared}
def Inv.same{it:Addr}{k h':Heap}(I:Inv X pins σ H { s with heap:=k })(f:di X pins H it)(b:Heap.ExtBut it k h'):Inv X pins σ H { s with heap:=h' }:=by obtain⟨f0,f1,f2,f3,f4,f5⟩:=f;exact Inv.turned (s:={ s with heap:=k }) (t':=s.toks) (it:=it) I (λc o hb e=>b c o hb e) f0 f1 f3 f4 f5
end
section
variable {K:FD} {σ:St} {H:Hp} {Q:VK}
end
def Ct{prog:Program}{w:World}{A:Around}{E:Value->Shared->Prop}{s:Shared}{t sl:Addr}{ys:Array Value}{vl vu:Value}{lo hi:Option Int}{Q:Value->Shared->Prop}(gt:IsTup s.heap t ys)(gs:s.heap.IsSliceOf sl vl vu .none)(pl:IsPart vl lo)(pu:IsPart vu hi)
  (gw:HT.aL ys.size 0 lo=0/\HT.aL ys.size ys.size hi=ys.size) (q:Q (.ref t) s):wpAny (model prog w) A (getItem (.ref t) (.ref sl)) Q E s:=by
 obtain⟨u,gu,gc,gd⟩:=id gs;have gT:s.TypeIs (.ref sl) "slice":=⟨u,gu,gc⟩;unfold getItem
 try with_reducible refine wpAny_holding ?_
 first|refine FA (FC ?_)|skip
 refine FA (wpAny_sequenceKey gt.typeIs (by decide) ?_);refine FA (wpAny_callSpecial?_slot (name:=Gp "__getitem__") gt.typeIs PyProof.Rows.slot_tuple_getitem (wpAny_call_entry PyProof.Rows.slot_tuple_getitem gt.typeIs entry_tuple_getitem ?_ (args_tuple_getitem _ _)));show wpAny _ _ (Builtin.Tuple.tupleItemsOf (Value.ref t) >>= _) _ _ s;refine FA (tupleItemsOf_ gt ?_);refine FA (wpAny_typeOf gT ?_);rw[GH (by decide)];refine FA (HT.rS gs pl pu ?_);show wpAny _ _ (if(((HT.aL ys.size 0 lo:Nat):Int) == 0 && (1:Int) == 1 && (HT.aL ys.size ys.size hi-HT.aL ys.size 0 lo) == ys.size)=true then _ else _) _ _ s;rw[GH (by rw[gw.1,gw.2];simp)];show wpAny _ _ (Builtin.Tuple.tupleIsExact (Value.ref t) >>= _) _ _ s;unfold Builtin.Tuple.tupleIsExact;refine FA (FA (wpAny_typeOf gt.typeIs (FC ?_)));rw[GH (by decide)];refine FA (wpAny_rule ?_);exact FC ⟨_,rfl,FC q⟩
def wV:V->Option Int->Option Int->Hp->VK->Prop:=λx lo hi H Q=>∃a xs,x=.ref a/\H a=some (.tup xs)/\∀p H',Ext H H'->H' p=some (.tup (bW xs lo hi))->Q (.ref p) H'
def mI{X:Cx}:jC X wV:=by
 intro pins s σ H x v vl vu lo hi sl Q I rx hs pl pu h;obtain⟨a,xs,rfl,hx,q⟩:=h;by_cases gw:HT.aL xs.length 0 lo=0/\HT.aL xs.length xs.length hi=xs.length
 ·cases rx;obtain⟨its,r,ht,hz⟩:=I.tuple (ao.of hx);have hlen:its.toArray.size=xs.length:=by rw[FN];exact r.length.symm
  refine⟨"tuple",_,PyProof.Rows.slot_tuple_getitem.lookup,ht.typeIs,?_⟩;refine Ct ht hs pl pu (by rw[hlen];exact gw) ⟨.ref a,H,I,rfl,q a H (Ext.rfl' H) ?_⟩;have:bW xs lo hi=xs:=by unfold bW;rw[gw.1,gw.2,List.drop_zero,Nat.sub_zero,Gf]
  rw[this];exact hx
 ·exact BU pins s σ H (.ref a) v vl vu lo hi sl Q I rx hs pl pu ⟨a,xs,rfl,ao.of hx,gw,λp hp=>q p _ (bS hp) aN⟩
def ni{H:Hp}{Q:VK}{a:Addr}{xs:List V}{lo hi:Option Int}(e:H a=some (.tup xs))(h:∀p H',Ext H H'->H' p=some (.tup (bW xs lo hi))->Q (.ref p) H'):wV (.ref a) lo hi H Q:=⟨a,xs,rfl,e,h⟩
def rN:R2:=λx y H Q=>∃a b xs ys,x=.ref a/\y=.ref b/\H a=some (.tup xs)/\H b=some (.tup ys)/\xs.length+ys.length<=sizeLine/\∀p H',Ext H H'->H' p=some (.tup (xs++ys))->Q (.ref p) H'
def oo{X:Cx}:bG X (binaryOp .Add) rN:=by
 intro pins s σ H x y v u Q I rx ry h;obtain⟨a,b,xs,ys,rfl,rfl,ha,hb,hz,q⟩:=h;cases rx;cases ry;by_cases hx:xs=[]
 ·subst hx;obtain⟨its,r1,p1,_⟩:=I.tuple (ao.of ha);obtain⟨its2,r2,p2,_⟩:=I.tuple (ao.of hb);have e:=r1.nil_iff.mpr rfl;subst e;obtain⟨⟨cls,dd,data,sl⟩,ho,hc,n,hd⟩:=id p1;obtain⟨⟨cls2,dd2,data2,sl2⟩,ho2,hc2,n2,hd2⟩:=id p2;simp only at hc hd hc2 hd2;subst hc hd hc2 hd2;refine concat_meets ⟨_,ho,rfl⟩ ⟨_,ho2,rfl⟩ noFill_tuple_add seq_tuple_add PySem.F.slot_tuple_add PySem.F.entry_tuple_add (PySem.F.args_tuple_add_2 _ _)
   (tuple_addW0 a b _ _ n n2 dd dd2 sl sl2 (by simp)) ⟨ho,ho2,⟨.ref b,H,I,rfl,q b H (λ_ _ h=>h) (by simpa using hb)⟩⟩
 ·refine AR pins s σ H (.ref a) (.ref b) _ _ Q I rfl rfl ⟨a,b,xs,ys,rfl,rfl,ao.of ha,ao.of hb,hx,hz,λhy=>?_,λhy p hp=>?_⟩
  ·subst hy;exact q a H (λ_ _ h=>h) (by simpa using ha)
  ·exact q p _ (bS hp) aN
def mE{H:Hp}{Q:VK}{a b:Addr}{xs ys:List V}(ha:H a=some (.tup xs))(hb:H b=some (.tup ys))(hz:xs.length+ys.length<=sizeLine)(h:∀p H',Ext H H'->H' p=some (.tup (xs++ys))->Q (.ref p) H'):rN (.ref a) (.ref b) H Q:=⟨a,b,xs,ys,rfl,rfl,ha,hb,hz,h⟩
def zG{K:FD}{H:Hp}{Q:VK}{p:Addr}{ys:List V}(e:ao K H p ys)(h:eW H (.lst ys) Q):md K [.ref p] H Q:=⟨p,ys,rfl,.inr e,h⟩
mutual
inductive LitE:Expr->TE->Prop
 | non {j pos}:LitE (.Constant .none j pos) (tC .non)
 | bl {b j pos}:LitE (.Constant (.bool b) j pos) (tC (.bl b))
 | int {i j pos}:LitE (.Constant (.int i) j pos) (tC (.int i))
 | str {x j pos}:LitE (.Constant (.str x) j pos) (tC (.str x))
 | tup {es ta k pos}:LitsE es ta->LitE (.Tuple es k pos) (oa ta)
inductive LitsE:List Expr->TA->Prop
 | nil:LitsE [] oO
 | cons {e te es ta}:LitE e te->LitsE es ta->LitsE (e::es) (lW te ta)
end
def LitE.star{e:Expr}{te:TE}(h:LitE e te)(es:List Expr)(env:Env):starEach (e::es) env=(false,eval e env)::starEach es env:=by cases h<;>rfl
def fP(c:Addr)(q:Str):HO:=.ext λh=>h.CodeRec (.ref c) q
def Cp{P:Program}{w:World}{H:Hp}{h:Heap}{c:Addr}{q:Str}(r:h.CodeRec (.ref c) q):br P w H h c (fP c q):=by
 refine⟨r,?_,λh1 h2 r1 k=>?_⟩
 ·obtain⟨c',o,vs,t,e,g,_⟩:=r;cases e;exact⟨o,g⟩
 ·obtain⟨c',o,vs,t,e,g,d⟩:=r1;cases e;exact⟨c,o,vs,t,rfl,k o g,d⟩
section
variable {X:Cx} {pins:List (Addr×Obj)} {σ:St} {H:Hp} {s:Shared}
end
structure Tab(K:FD)(mg:Str->Option Value)(base:Heap)(x:Str)(c T:Addr):Prop where
 tin:PySem.W.tabIn K x=some (c,T)
 hd:PySem.W.CodeHd base c T
 blt:base.BuiltinsAt mg T
 gl:mainGlobals≠T
 kin:K.In base
 ns:base.Ns mainGlobals mg
section
variable {P:Program} {w:World} {K:FD} {mg:Str->Option Value} {base:Heap}
def tQ{x:Str}{c T f:Addr}{o:Obj}{fd:FuncData}(ht:PySem.W.tabIn K x=some (c,T))(KX:K.In base)(G:base.Ns mainGlobals mg)(hm:mg x=some (.ref f))(lk:K.lookup f=some o)(hd:o.data=.func fd):fd.code=.ref c:=by
 unfold PySem.W.tabIn at ht;split at ht
 ·rename_i f' hf;have e1:=PySem.W.mg_of KX G hf;rw[hm]at e1;cases e1;split at ht
  ·rename_i hfo;rw[lk]at hfo;cases hfo;cases hd;split at ht
   ·rename_i c2 hc;split at ht
    ·split at ht
     ·cases ht;exact hc
     ·cases ht
    ·cases ht
   ·cases ht
  ·cases ht
 ·cases ht
def Dfn.okL{x:Str}{st:Stmt}{N ps:List Str}{k:Nat}{sp:Sp}{c T:Addr}(D:Dfn K mg x st ps)(B:Tab K mg base x c T)(S:FnScope N ps (aA st))(len:∀vs H Q E,sp vs H Q E->vs.length=ps.length)
  (hbody:∀(X:Cx) (hX:∃f A outer s H E,X=(bx cC P w K mg base N x (aA st) f (.ref c) A outer s H E).nox/\Room k X.A) (H:Hp) (vs:List V) (Q:VK) (E:XK),sp vs H Q E →
   ∃t,b6 X (dy st) t/\t { nx:=λ_ H'=>Q .non H',rt:=Q } (start N vs) H):Cal P w K mg base x (k+1) ps sp:=by
 obtain⟨f,fd,hm,F,hb⟩:=D.ex;refine⟨f,fd,hm,F.kp,hb,?_⟩;obtain⟨oc,od,kV,doc,pm,an,cdv,ct,osl,rfl,lk,hcd⟩:=F.ex;have e:cdv=.ref c:=tQ B.tin B.kin B.ns hm lk rfl;subst e;refine lG lk hcd S len λA outer s H vs Q E hr hsp=>?_;obtain⟨t,h,q⟩:=hbody _ ⟨f,A,outer,s,H,E,rfl,hr⟩ H vs Q E hsp;exact⟨t,h.nox,q⟩
end
def yz(tabs:List (Addr×Addr))(H:Hp):Prop:=∀q∈tabs,H q.2=some (.tbl #[])
def Bp{P:Program}{w:World}{K:FD}{mg mb:Str->Option Value}{k:Nat}{fa a:Addr}{fd:FuncData}{x:Str}{sp:Sp}{s₁:Shared}{vs:List Value}{ns:List Int}{tabs:List (Addr×Addr)}
  (KX:K.In s₁.heap) (hK:PySem.W.noTabs K=true) (hT:PySem.W.TabsAt tabs s₁.heap) (hns:s₁.heap.Ns mainGlobals mg) (hb:s₁.heap.Ns builtinsNs mb) (hbb:∀x:Str,x≠"__name__"->mb x=bootBuiltins x) (hlim:s₁.heap.NoLimit)
  (hbm:∃bm ob,mg "__builtins__" = some (.ref bm)/\bm≠builtinsNs/\s₁.heap.get? bm=some ob/\ob.cls=.type "module"/\ob.dict=some builtinsNs/\ob.data=.plain) (hg:s₁.gens = #[])
  (ha:s₁.heap.get? a=some { cls:=.type "list",data:=.seq vs.toArray }) (hi:IntsAre vs ns) (hl:ns.length<=sizeLine) (hr:Room k callerA)
  (F:∀base:Heap,K.In base->base.Ns mainGlobals mg->(∀q∈tabs,PySem.W.CodeHd base q.1 q.2/\base.BuiltinsAt mg q.2/\mainGlobals≠q.2)->FnOk P w K mg base cC k fa fd [x] sp) (hbind:∀(s:Shared) (u:Value),BindsTo s fd ⟨[u],[]⟩ [(x,u)])
  (hsp:∀H:Hp,yz tabs H->ag K H a (ns.map V.int)->sp [.ref a] H (λv _=>v=.bl true) λ_ _ _=>False) :
  codeAny (model P w) callerA (.call (.ref fa) ⟨[.ref a],[]⟩) (λr s'=>r=.ok (.ret (.bool true))/\OldK s₁.heap s'.heap/\s'.os=s₁.os/\AllBare s'.gens) s₁:=by
 have rv:=vM hi;have lenV:=hi.length;have na:∀q∈tabs,a≠q.2:=λq hq z=>by have:=(hT q hq).2;rw[←z,ha]at this;cases this
 have noT:∀{b:Addr} {o:Obj},s₁.heap.get? b=some o->o≠PySem.W.tabObj #[]->b∉tabs.map (·.2):=λ{b o} e n hm=>by obtain⟨q,hq,rfl⟩:=List.mem_map.mp hm;have:=(hT q hq).2;rw[e]at this;exact n (Gq this)
 have core:∀H:Hp,yz tabs H->ag K H a (ns.map V.int)->bf P w H s₁.heap->(∀b,H b≠none->b=a\/b∈tabs.map (·.2))->(H a≠none->K.lookup a=none/\∃o xs,H a=some (.frz o (.lst xs))) →
   codeAny (model P w) callerA (.call (.ref fa) ⟨[.ref a],[]⟩) (λr s'=>r=.ok (.ret (.bool true))/\OldK s₁.heap s'.heap/\s'.os=s₁.os/\AllBare s'.gens) s₁:=by
  intro H hO hS hok hA hKa;have free:∀{b:Addr} {o:Obj},s₁.heap.get? b=some o->o≠PySem.W.tabObj #[]->b≠a->H b=none:=λ{b o} e n nb=>by
   cases q:H b with
   | none=>rfl
   | some u=>
    rcases hA b (by rw[q];simp)with z|z
    ·exact absurd z nb
    ·exact absurd z (noT e n)
  have nsK:∀{b:Addr} {m:Str->Option Value},s₁.heap.Ns b m->(fk s₁.heap H).Ns b m:=λ{b m} ⟨o,es,ep,e,d,r⟩=>⟨o,es,ep,kG e (free e (λz=>by rw[z]at d;cases d) λz=>by rw[z,ha]at e;cases e;cases(show Data.seq vs.toArray _=Data.dict es ep from d)),d,r⟩;have hKb:K.In (fk s₁.heap H):=λb o e=>kG (KX b o e) (by
   by_cases z:b=a
   ·subst z;cases q:H b with
    | none=>rfl
    | some u=>
     have:=(hKa (by rw[q];simp)).1;rw[this]at e;cases e
   ·refine free (KX b o e) (λz2=>?_) z;have h2:=Gj.mp hK (b,o) (PySem.W.mem_of_lookupK e);subst z2;exact absurd (show false=true from h2) FY)
  have hM:Mod K mg (fk s₁.heap H):=⟨hKb,nsK hns,⟨mb,nsK hb,hbb⟩,let ⟨mc,h1,h2⟩:=hlim;⟨mc,nsK h1,h2⟩⟩;have e0:Env0 P w K mg (fk s₁.heap H) callerA [] s₁ H:=⟨rfl,hM,λb o e=>zI e,Nat.le_of_eq (Cy _ _),trivial,λb hb=>absurd (show b∈([]:List Addr)from hb) (by simp),hok,.of_eq hg⟩;have tabsB:∀q∈tabs,PySem.W.CodeHd (fk s₁.heap H) q.1 q.2/\(fk s₁.heap H).BuiltinsAt mg q.2/\mainGlobals≠q.2:=λq hq=>by
   refine⟨?_,?_,?_⟩
   ·obtain⟨o,us,file,tf,flags,tg,inF,text,tt,e,hc,r⟩:=(hT q hq).1;exact⟨o,us,file,tf,flags,tg,inF,text,tt,kG e (free e (λz=>by rw[z]at hc;cases hc) λz=>by rw[z,ha]at e;cases e;simp at hc),hc,r⟩
   ·obtain⟨bm,ob,a1,a2,a3,a4,a5⟩:=hbm;refine⟨bm,ob,a1,a2,λz=>?_,λz=>?_,kG a3 (free a3 (λz=>by rw[z]at a4;cases a4) λz=>by rw[z,ha]at a3;cases a3;simp at a4),a4,a5⟩
    ·obtain⟨o,es,ep,e,d,_⟩:=hns;rw[←z,a3]at e;cases e;rw[a5.2]at d;cases d
    ·have:=(hT q hq).2;rw[←z,a3]at this;cases this;cases a4
   ·intro z;obtain⟨o,es,ep,e,d,_⟩:=hns;have:=(hT q hq).2;rw[←z,e]at this;cases this;cases d
  refine codeAny_mono ((F _ hKb (nsK hns) tabsB).run callerA [] s₁ H ⟨[.ref a],[]⟩ [.ref a] [.ref a] _ _ hr e0 (hbind s₁ (.ref a)) (.cons rfl .nil) (hsp H hO hS)) λr s' h=>?_;cases r with
  | error e=>exact False.elim h
  | ok fl=>
   cases fl with
   | next=>exact False.elim h
   | brk=>exact False.elim h
   | cont=>exact False.elim h
   | ret u=>
    obtain⟨v,H',os,bare,un,hok',r',q⟩:=h;have q':v=.bl true:=q;subst q';obtain rfl:u=Value.bool true:=r';have keep:∀b o,s₁.heap.get? b=some o->b∉tabs.map (·.2)->s'.heap.get? b=some o:=λb o e nt=>by
     cases q:H b with
     | none=>exact un.keep b o e q (by intro z;exact absurd (show b∈([]:List Addr)from z) (by simp)) (by simp)
     | some u=>
      rcases hA b (by rw[q];simp)with z|z
      ·subst z;obtain⟨_,ob,xs,z⟩:=hKa (by rw[q];simp);have z2:=un.frzs b ob _ z;obtain⟨e1,_⟩:=hok b _ z;obtain⟨e2,_⟩:=hok' b _ z2;rw[e]at e1;cases e1;exact e2
      ·exact absurd z nt
    have grown:∀q∈tabs,∃more,s'.heap.get? q.2=some (PySem.W.tabObj (#[]++more)):=λq hq=>by obtain⟨more,e⟩:=un.tbls q.2 _ (hO q hq);exact⟨more,hok' q.2 _ e⟩
    refine⟨rfl,⟨λb o e=>?_,λb o e=>?_⟩,os,bare⟩
    ·by_cases hm:b∈tabs.map (·.2)
     ·obtain⟨q,hq,rfl⟩:=List.mem_map.mp hm;obtain⟨more,g⟩:=grown q hq;have e2:=(hT q hq).2;rw[e]at e2;cases e2;exact .inr (.inl ⟨((hT q hq).1.tab (hT q hq).2).isCodeTable,rfl,#[],more,rfl,g⟩)
     ·exact .inl (keep b o e hm)
    ·by_cases hm:b∈tabs.map (·.2)
     ·obtain⟨q,hq,rfl⟩:=List.mem_map.mp hm;obtain⟨more,g⟩:=grown q hq;exact⟨_,g⟩
     ·exact⟨o,keep b o e hm⟩
 have hTok:∀(H:Hp) b,b∈tabs.map (·.2)->br P w H s₁.heap b (.tbl #[]):=λH b hm=>by obtain⟨q,hq,rfl⟩:=List.mem_map.mp hm;exact(hT q hq).2
 cases hk:K.lookup a with
 | some o=>
  have e:=KX a o hk;rw[ha]at e;cases e;have at_:∀b,(if b∈tabs.map (·.2)then some (HO.tbl #[])else none)=(none:Option HO)\/b∈tabs.map (·.2):=λb=>by
   by_cases hb:b∈tabs.map (·.2)
   ·exact .inr hb
   ·exact .inl (GG hb)
  have nota:a∉tabs.map (·.2):=λhm=>by obtain⟨q,hq,e⟩:=List.mem_map.mp hm;exact na q hq e.symm
  refine core (λb=>if b∈tabs.map (·.2)then some (.tbl #[])else none) (λq hq=>GH (List.mem_map.mpr ⟨q,hq,rfl⟩)) (.inr ⟨_,vs.toArray,_,hk,rfl,rfl,rfl,by rw[FN,lenV];exact hl,by simpa using rv⟩) (λb u z=>?_) (λb z=>?_) λz=>absurd (GG nota) z
  ·by_cases hb:b∈tabs.map (·.2)
   ·have z':=(GH hb).symm.trans z;cases z';exact hTok _ b hb
   ·have z':=(GG hb).symm.trans z;cases z'
  ·rcases at_ b with h|h
   ·exact absurd h z
   ·exact .inr h
 | none=>
  have nota:a∉tabs.map (·.2):=λhm=>by obtain⟨q,hq,e⟩:=List.mem_map.mp hm;exact na q hq e.symm
  refine core (λb=>if b=a then some (.frz { cls:=.type "list",data:=.seq vs.toArray } (.lst (ns.map V.int)))else if b∈tabs.map (·.2)then some (.tbl #[])else none) (λq hq=>?_) (.inl (.inr ⟨{ cls:=.type "list",data:=.seq vs.toArray },GH rfl⟩)) (λb u z=>?_) (λb z=>?_) λ_=>⟨hk,_,_,GH rfl⟩
  ·show(if q.2=a then _ else _)=_;rw[GG (Ne.symm (na q hq)),GH (List.mem_map.mpr ⟨q,hq,rfl⟩)]
  ·by_cases hb:b=a
   ·have z':=(GH hb).symm.trans z;cases z';subst hb;exact⟨ha,by rw[FH];exact hl,vs,_,rv,ha⟩
   ·have z':=(GG hb).symm.trans z;by_cases hb2:b∈tabs.map (·.2)
    ·have z2:=(GH hb2).symm.trans z';cases z2;exact hTok _ b hb2
    ·have z2:=(GG hb2).symm.trans z';cases z2
  ·by_cases hb:b=a
   ·exact .inl hb
   ·by_cases hb2:b∈tabs.map (·.2)
    ·exact .inr hb2
    ·exact absurd ((GG hb).trans (GG hb2)) z
def zl{l:PySem.W.OpenLaw}{n k:Nat}{q:Program}{loose:List Str}{XP:(Str->Option Value)->Heap->Prop}{YP:World->Heap->Prop}{d:DefRec}{K:Params->FD}{sp:World->Sp}{x:Str}(xs:List Str)
  (hn:l.most=some n) (hn2:n<=sizeLine) (hdf:d.params.defaults=[]) (hr:Room k callerA)
  (hY:∀(w:World) (h:Heap),YP w h->(K w.params).In h) (hK:∀w:World,PySem.W.noTabs (K w.params)=true) (hrec:∀y∈xs,((recsOf q).find? (λe=>e.name == y)).isSome=true) (htab:∀(w:World),∀y∈xs,(PySem.W.tabIn (K w.params) y).isSome=true)
  (F:∀(w:World) (mg:Str->Option Value) (fa:Addr) (h:Heap),(K w.params).In h->h.Ns mainGlobals mg->mg d.name=some (.ref fa) →
   ∃fd:FuncData,(∀(s:Shared) (u:Value),BindsTo s fd ⟨[u],[]⟩ [(x,u)]) ∧
    ∀base:Heap,(K w.params).In base->base.Ns mainGlobals mg->(∀y∈xs,∃c T,Tab (K w.params) mg base y c T)->FnOk l.prog w (K w.params) mg base cC k fa fd [x] (sp w))
  (hsp:∀(w:World) (H:Hp) (a:Addr) (ns:List Int),ns.length<=n->(∀y∈xs,∀c T,PySem.W.tabIn (K w.params) y=some (c,T)->H T=some (.tbl #[]))->ag (K w.params) H a (ns.map V.int)->sp w [.ref a] H (λv _=>v=.bl true) λ_ _ _=>False) :
  PySem.W.WalkO q loose XP YP l.row.toRowW d [] (λf vs=>PySem.call f vs):=by
 refine Att.Bj hn hdf λw s₀ s₁ mg mb fa o pm cd doc a vs ns G Y ho hd hcd hmg hobj hints hlen hg=>?_;have KX:=hY w _ Y;obtain⟨fd,hb,hF⟩:=F w mg fa _ KX G.T.g hmg;have hT:PySem.W.TabsAt (xs.filterMap (PySem.W.tabIn (K w.params))) s₁.heap:=λp hp=>by obtain⟨y,hy,e⟩:=List.mem_filterMap.mp hp;obtain⟨dr,er⟩:=Option.isSome_iff_exists.mp (hrec y hy);exact PySem.W.tab_of G.T KX er e
 refine Bp KX (hK w) hT G.T.g G.T.b G.T.builtins G.T.nolimit G.T.bmain hg hobj hints (Gh hlen hn2) hr (λbase kb nb tb=>hF base kb nb λy hy=>?_) hb λH hO hS=>hsp w H a ns hlen (λy hy c T e=>hO (c,T) (List.mem_filterMap.mpr ⟨y,hy,e⟩)) hS;obtain⟨⟨c,T⟩,e⟩:=Option.isSome_iff_exists.mp (htab w y hy);obtain⟨h1,h2,h3⟩:=tb (c,T) (List.mem_filterMap.mpr ⟨y,hy,e⟩);exact⟨c,T,e,h1,h2,h3,kb,nb⟩
section
variable {prog:Program} {w:World} {A:Around} {E:Value->Shared->Prop}
def yv{it l:Addr}{ys:Array Value}(ne:l≠it):∀(n i:Nat) (s:Shared) (Q:List Value->Shared->Prop),s.heap.IsListIter it l i->s.heap.IsList l ys->i+n<=ys.size →
  (∀h',h'.IsListIter it l (i+n)->Heap.SameBut it s.heap h'->Q ((ys.toList.drop i).take n) { s with heap:=h' })->wpAny (model prog w) A (draw (.ref it) n) Q E s
 | 0,i,s,Q,gi,_,_,q=>by show wpAny _ _ (pure []) Q E s;exact FC (by simpa using q s.heap gi (Heap.SameBut.refl ..))
 | n+1,i,s,Q,gi,gl,le,q=>by
  have lt:i<ys.size:=by omega
  show wpAny _ _ (pyNext (Value.ref it) >>= _) Q E s;refine FA (wpAny_pyNext_list_item gi gl (x:=ys[i]) (by simp[lt]) λk1 g1 b1=>?_);refine FA (wpAny_holding (yv ne n (i+1) _ _ g1 (gl.extBut b1.extBut ne) (by omega) λk2 g2 b2=>FC ?_));have e:ys.toList.drop i=ys[i]::ys.toList.drop (i+1):=by simp[List.drop_eq_getElem_cons,lt]
  have:=q k2 (by rw[show i+(n+1)=i+1+n by omega];exact g2) (b1.trans b2);rw[e,List.take_succ_cons]at this;exact this
def BS{s:Shared}{l:Addr}{ys:Array Value}{Q:List Value->Shared->Prop}(hA:A.handled=none)(gl:s.heap.IsList l ys)
  (q:∀h',Heap.ExtBut s.heap.objs.size s.heap h'->Q ys.toList { s with heap:=h' }):wpAny (model prog w) A (unpackItems (.ref l) ys.size none) Q E s:=by
 have lt:l≠s.heap.objs.size:=by obtain⟨o,e,_⟩:=gl;exact F4 (FG e)
 unfold unpackItems;refine FA ?_;unfold notIterableAtAll;refine FA (wpAny_specialOf gl.typeIs slot_list_iter.lookup ?_);refine FC ?_;simp only[Gv,if_false];refine FA (wpAny_holding (wpAny_pyIter_list gl ?_));refine FA (wpAny_holding (yv lt ys.size 0 _ _ ⟨_,FF _ rfl,rfl,rfl⟩ (gl.push _) (by omega) λk1 g1 b1=>?_));rw[show List.take ys.size (List.drop 0 ys.toList)=ys.toList by rw[List.drop_zero];exact List.take_of_length_le (by simp),GG (by simp)];refine FA (wpAny_holding (wpAny_pyNext_list_end hA g1 ((gl.push _).extBut b1.extBut lt) (by simp) λk2 b2=>?_));simp only[Option.isSome_none,Gv,if_false];exact FC (q k2 λb o nb e=>b2 b o nb (b1.extBut b o nb (FE _ e)))
def Ek{s:Shared}{env:Env}{es:List Expr}{k:Nat}{pos:Pos}{l:Addr}{ys:Array Value}{Q:Unit->Shared->Prop}(hA:A.handled=none)(gl:s.heap.IsList l ys)(hn:(assignEach es env).length=ys.size)(hst:(assignEach es env).findIdx? (·.1)=none)
  (h:∀h',Heap.ExtBut s.heap.objs.size s.heap h'->wpAny (model prog w) A (assignInOrder ((assignEach es env).map (·.2)) ys.toList) Q E { s with heap:=h' }):wpAny (model prog w) A (assign (.Tuple es k pos) env (.ref l)) Q E s:=by
 rw[arm_assign_Tuple];refine FA (wpAny_standAt ?_);unfold unpack;rw[hn,hst];exact FA (wpAny_holding (BS hA gl h))
end
section
variable {X:Cx} {pos:Pos}
def yk(K:FD)(n:Nat)(t:dM):TG:=λv σ H Q=>∃a xs,v=.ref a/\ag K H a xs/\xs.length=n/\t xs σ H Q
def E8{es:List Expr}{k:Nat}{t:dM}{n:Nat}(K:FD)(hc:X.calm=true)(h:iz X es t)(hK:X.K=K:=by rfl)
  (hn:(assignEach es X.env).length=n:=by rfl) (hst:(assignEach es X.env).findIdx? (·.1)=none:=by rfl):PG X (.Tuple es k pos) (yk K n t):=by
 subst hK;intro pins s σ H v u Q I r hw;obtain⟨a,xs,e1,hq,hl,hw⟩:=hw;subst e1;cases r;obtain⟨its,rv,ht,hz⟩:=I.list hq;refine Ek (I.ok.hd hc) ht.isList (by simp[hn,←hl,rv.length]) hst λh' hx=>?_;have I1:Inv X pins σ H { s with heap:=h' }:=I.kept (t':=s.toks) λb o e=>hx b o (F4 (FG e)) e;exact h pins _ σ H xs _ Q I1 (by simpa using rv) hw
end
def B6{K:FD}{σ:St}{H:Hp}{n:Nat}{g:dM}{a:Addr}{xs:List V}{R:St->Hp->Prop}(e:ag K H a xs)(hl:xs.length=n)(h:g xs σ H R):yk K n g (.ref a) σ H R:=⟨a,xs,rfl,e,hl,h⟩
def rd_par{i j:Nat}{ta:TA}{D:Ends}{σ:St}{H:Hp}(h:ta σ H λvs H1=>∃v w,vs=[v,w]/\D.nx ((σ.set i (some v)).set j (some w)) H1):wO i j ta D σ H:=h
def rd_par2{v w:V}{R:V->V->Prop}(h:R v w):∃a b,[v,w]=[a,b]/\R a b:=⟨v,w,rfl,h⟩
def Et(H H':Hp):Prop:=∀b o,H b=some o->(∀ps,o≠.tbl ps)->H' b=some o
def Ext.et{H H':Hp}(e:Ext H H'):Et H H':=λb o h _=>e b o h
def Et.trans{H H1 H2:Hp}(a:Et H H1)(b:Et H1 H2):Et H H2:=λx o h n=>b x o (a x o h n) n
def dA(K:FD)(x q:Str)(line col:Nat)(H:Hp):Prop:=∀c T,PySem.W.tabIn K x=some (c,T) →
 H T=some (.tbl #[])\/∃c',H T=some (.tbl #[rawInt line,rawInt col,.ref c'])/\H c'=some (fP c' q)
def dA.ext{K:FD}{x q:Str}{line col:Nat}{H H':Hp}(e:Ext H H')(h:dA K x q line col H):dA K x q line col H':=λc T ht=>by
 rcases h c T ht with h|⟨c',h1,h2⟩
 ·exact .inl (e _ _ h)
 ·exact .inr ⟨c',e _ _ h1,e _ _ h2⟩
section
variable {κ:Type} [DecidableEq κ]
def bO(kvs:List (κ×V))(k:κ):Option V:=(kvs.find? λkv=>decide (kv.1=k)).map (·.2)
def putK(kvs:List (κ×V))(k:κ)(v:V):List (κ×V):=
 if(kvs.any λkv=>decide (kv.1=k))=true then kvs.map (λkv=>if kv.1=k then(kv.1,v)else kv)else kvs++[(k,v)]
def kP{p:κ×V}{r:List (κ×V)}{k:κ}(e:p.1=k):bO (p::r) k=some p.2:=by simp[bO,List.find?_cons,e]
def i7{p:κ×V}{r:List (κ×V)}{k:κ}(e:¬p.1=k):bO (p::r) k=bO r k:=by simp[bO,List.find?_cons,e]
def oi(k:κ):∀kvs:List (κ×V),(kvs.any λkv=>decide (kv.1=k))=(bO kvs k).isSome
 | []=>rfl
 | p::r=>by
  rw[List.any_cons];by_cases e:p.1=k
  ·simp only[kP e,GF e,Bool.true_or,Option.isSome_some]
  ·rw[i7 e,GD e,Bool.false_or];exact oi k r
def uz(kvs:List (κ×V))(k:κ)(v:V):(putK kvs k v).length<=kvs.length+1:=by
 unfold putK;split
 ·rw[FH];omega
 ·rw[F0,Ge,List.length_nil];omega
def DO{kvs:List (κ×V)}{k:κ}(v:V)(h:bO kvs k=none):putK kvs k v=kvs++[(k,v)]:=by unfold putK;rw[oi,h];exact GG (by decide)
def fB.isSome_eq{o:Option V}{u:Option Value}(r:fB o u):o.isSome=u.isSome:=by
 cases o with
 | none=>cases u with
  | none=>rfl
  | some _=>exact(show False from r).elim
 | some _=>cases u with
  | none=>exact(show False from r).elim
  | some _=>rfl
def KV.val{kvs:List (κ×V)}{vs:List (κ×Value)}(r:KV kvs vs)(k:κ):fB (bO kvs k) (valueAt vs k):=by
 unfold KV at r;induction r with
 | nil=>exact True.intro
 | @cons p q ps qs h t ih=>
  obtain⟨h1,h2⟩:=h;by_cases e:p.1=k
  ·have e':q.1=k:=h1.symm.trans e;have b:valueAt (q::qs) k=some q.2:=by simp[valueAt,List.find?_cons,e']
   rw[kP e,b];exact h2
  ·have e':¬q.1=k:=λz=>e (h1.trans z);have b:valueAt (q::qs) k=valueAt qs k:=by simp[valueAt,List.find?_cons,e']
   rw[i7 e,b];exact ih
def KV.any{kvs:List (κ×V)}{vs:List (κ×Value)}(r:KV kvs vs)(k:κ):(kvs.any λkv=>decide (kv.1=k))=vs.any λkv=>decide (kv.1=k):=by
 unfold KV at r;induction r with
 | nil=>rfl
 | cons h t ih=>rw[List.any_cons,List.any_cons,ih,h.1]
def KV.repl{kvs:List (κ×V)}{vs:List (κ×Value)}(r:KV kvs vs)(k:κ){y:V}{u:Value}(ry:RelV y u):
  KV (kvs.map λkv=>if kv.1=k then(kv.1,y)else kv) (vs.map λkv=>if kv.1=k then(kv.1,u)else kv):=by
 unfold KV at r ⊢;induction r with
 | nil=>exact .nil
 | @cons p q ps qs h t ih=>
  rw[List.map_cons,List.map_cons];refine .cons ?_ ih;obtain⟨h1,h2⟩:=h;by_cases e:p.1=k
  ·rw[GH e,GH (h1.symm.trans e)];exact⟨h1,ry⟩
  ·rw[GG e,GG (λz=>e (h1.trans z))];exact⟨h1,h2⟩
def KV.put{kvs:List (κ×V)}{vs:List (κ×Value)}(r:KV kvs vs)(k:κ){y:V}{u:Value}(ry:RelV y u):KV (putK kvs k y) (stored vs k u):=by
 unfold putK stored;rw[r.any k];by_cases e:(vs.any λkv=>decide (kv.1=k))=true
 ·rw[GH e,GH e];exact r.repl k ry
 ·rw[GG e,GG e];exact Paired.snoc r ⟨rfl,ry⟩
def KV.keys{kvs:List (κ×V)}{vs:List (κ×Value)}(r:KV kvs vs):kvs.map (·.1)=vs.map (·.1):=by
 unfold KV at r;induction r with
 | nil=>rfl
 | cons h t ih=>rw[List.map_cons,List.map_cons,ih,h.1]
def KV.length{kvs:List (κ×V)}{vs:List (κ×Value)}(r:KV kvs vs):kvs.length=vs.length:=Paired.length r
end
def jI{P:Program}{w:World}{k:Key}{u:Value}(r:RelV (kV k) u):(aO P w).is k u=true:=by
 cases k with
 | inl i=>obtain⟨t,e⟩:=(show ∃t,u=Value.int i t from r);subst e;exact CB P w i t
 | inr x=>obtain⟨t,e⟩:=(show ∃t,u=Value.str x t from r);subst e;exact mz P w x t
def pB{P:Program}{w:World}:∀{ks:List Key} {us:List Value},Vals (ks.map kV) us->ItemsAre (aO P w) ks us
 | [],_,r=>by rw[List.map_nil]at r;cases r;exact .nil
 | k::ks,_,r=>by
  rw[List.map_cons]at r;cases r with
  | cons h t=>exact .cons (jI h) (pB t)
abbrev KT(H:Hp):List (List Key×V)->List (List Key×Addr×Value)->Prop:=Paired λp q=>p.1=q.1/\H q.2.1=some (.tup (p.1.map kV))/\RelV p.2 q.2.2
def KT.val{H:Hp}{kvs:List (List Key×V)}{xs:List (List Key×Addr×Value)}(r:KT H kvs xs)(k:List Key):fB (bO kvs k) ((atKey xs k).map (·.2)):=by
 induction r with
 | nil=>exact True.intro
 | @cons p q ps qs h t ih=>
  obtain⟨h1,_,h2⟩:=h;by_cases e:p.1=k
  ·have e':q.1=k:=h1.symm.trans e;have b:atKey (q::qs) k=some q.2:=by simp[atKey,List.find?_cons,e']
   rw[kP e,b];exact h2
  ·have e':¬q.1=k:=λz=>e (h1.trans z);have b:atKey (q::qs) k=atKey qs k:=by simp[atKey,List.find?_cons,e']
   rw[i7 e,b];exact ih
def KT.repl{H:Hp}{kvs:List (List Key×V)}{xs:List (List Key×Addr×Value)}(r:KT H kvs xs)(k:List Key){y:V}{u:Value}(ry:RelV y u):
  KT H (kvs.map λkv=>if kv.1=k then(kv.1,y)else kv) (xs.map (putAt k u)):=by
 induction r with
 | nil=>exact .nil
 | @cons p q ps qs h t ih=>
  rw[List.map_cons,List.map_cons];refine .cons ?_ ih;obtain⟨h1,h2,h3⟩:=h;unfold putAt;by_cases e:p.1=k
  ·rw[GH e,GH (h1.symm.trans e)];exact⟨h1,h2,ry⟩
  ·rw[GG e,GG (λz=>e (h1.trans z))];exact⟨h1,h2,h3⟩
def KT.put{H:Hp}{kvs:List (List Key×V)}{xs:List (List Key×Addr×Value)}(r:KT H kvs xs)(k:List Key){b:Addr}{y:V}{u:Value}(hb:H b=some (.tup (k.map kV)))(ry:RelV y u):
  KT H (putK kvs k y) (storedH xs k b u):=by
 have e:(kvs.any λkv=>decide (kv.1=k))=(atKey xs k).isSome:=by rw[oi,(r.val k).isSome_eq,Option.isSome_map]
 unfold putK storedH;rw[e];by_cases q:(atKey xs k).isSome=true
 ·rw[GH q,GH q];exact r.repl k ry
 ·rw[GG q,GG q];exact Paired.snoc r ⟨rfl,hb,ry⟩
def KT.keeps{H H':Hp}{kvs:List (List Key×V)}{xs:List (List Key×Addr×Value)}(r:KT H kvs xs)(ht:∀b ys,H b=some (.tup ys)->H' b=some (.tup ys)):KT H' kvs xs:=
 Paired.mapP r λ_ _ z=>⟨z.1,ht _ _ z.2.1,z.2.2⟩
section
variable {P:Program} {w:World} {H:Hp} {h:Heap} {a:Addr}
def sX{u:HO}(ok:bf P w H h)(e:Rd H a u):br P w H h a u:=e.ok ok
def xg{kvs:List (Key×V)}(ok:bf P w H h)(e:Rd H a (.dK kvs)):kvs.length<=sizeLine/\(a == sysModules)=false/\∃vs,KV kvs vs/\h.DictOf (aO P w) a vs:=
 show br P w H h a (.dK kvs)from sX ok e
def Bi{kvs:List (Key×V)}(ok:bf P w H h)(e:H a=some (.dK kvs)):kvs.length<=sizeLine/\(a == sysModules)=false/\∃vs,KV kvs vs/\h.DictOf (aO P w) a vs:=xg ok (.inl e)
def kf{ks:List Key}(ok:bf P w H h)(e:H a=some (.tup (ks.map kV))):(tupleKind (aO P w)).is h ks a:=by obtain⟨_,its,r,o,h1,h2,n,h3⟩:=(show br P w H h a (.tup (ks.map kV))from ok a _ e);exact⟨o,its.toArray,n,h1,h2,h3,by simpa using pB r⟩
def xI{kvs:List (List Key×V)}(ok:bf P w H h)(e:Rd H a (.dT kvs)):kvs.length<=sizeLine/\(a == sysModules)=false ∧
  ∃xs,KT H kvs xs/\h.DictOfH (tupleKind (aO P w)) a xs:=by
 obtain⟨z,y,xs,r,o,es,ep,h1,h2,h3,h4,h5⟩:=(show br P w H h a (.dT kvs)from sX ok e);refine⟨z,y,xs,r,o,es,ep,h1,h2,h3,h4,λx hx=>?_,h5⟩;have all:∀{l:List (List Key×V)} {m:List (List Key×Addr×Value)},KT H l m->∀x∈m,(tupleKind (aO P w)).is h x.1 x.2.1:=by
  intro l m q;induction q with
  | nil=>intro x hx;exact nomatch hx
  | @cons p q ps qs hq t ih=>
   intro x hx;rcases FX.mp hx with e|hx
   ·subst e;exact kf ok (by rw[←hq.1];exact hq.2.1)
   ·exact ih x hx
 exact all r x hx
def vk{kvs:List (List Key×V)}(ok:bf P w H h)(e:H a=some (.dT kvs)):kvs.length<=sizeLine/\(a == sysModules)=false ∧
  ∃xs,KT H kvs xs/\h.DictOfH (tupleKind (aO P w)) a xs:=xI ok (.inl e)
end
def ir(H:Hp)(a:Addr)(y:V)(r:Option V):Prop:=
 (∃kvs k,Rd H a (.dK kvs)/\y=kV k/\r=bO kvs k)\/∃kvs k b,Rd H a (.dT kvs)/\y=.ref b/\H b=some (.tup (k.map kV))/\r=bO kvs k
def iQ(H:Hp)(a:Addr)(y v:V)(H':Hp):Prop:=
 (∃kvs k,H a=some (.dK kvs)/\y=kV k/\kvs.length<sizeLine/\H'=upd H a (.dK (putK kvs k v))) ∨
 ∃kvs k b,H a=some (.dT kvs)/\y=.ref b/\H b=some (.tup (k.map kV))/\kvs.length<sizeLine/\H'=upd H a (.dT (putK kvs k v))
def ir.t{H:Hp}{a b:Addr}{kvs:List (List Key×V)}{k:List Key}(e:H a=some (.dT kvs))(eb:H b=some (.tup (k.map kV))):ir H a (.ref b) (bO kvs k):=.inr ⟨kvs,k,b,.inl e,rfl,eb,rfl⟩
def iQ.t{H:Hp}{a b:Addr}{kvs:List (List Key×V)}{k:List Key}{v:V}(e:H a=some (.dT kvs))(eb:H b=some (.tup (k.map kV)))(hl:kvs.length<sizeLine):
  iQ H a (.ref b) v (upd H a (.dT (putK kvs k v))):=.inr ⟨kvs,k,b,e,rfl,eb,hl,rfl⟩
section
variable {X:Cx} {pins:List (Addr×Obj)} {σ:St} {H:Hp} {s:Shared} {a:Addr} {y v:V} {u r:Value} {o:Option V} {A:Around} {E:Value->Shared->Prop}
def Inv.big(I:Inv X pins σ H s):sysModules<s.heap.objs.size:=by have h:mainGlobals<s.heap.objs.size:=(I.mod.glob.keeps I.bk).lt;exact Nat.lt_trans (by decide) h
def Cb{Q:Value->Shared->Prop}(hu:A.units+1<cLine)(I:Inv X pins σ H s)(g:ir H a y o)(ry:RelV y u)(h:∀s',Inv X pins σ H s'->Q (.bool (!o.isSome)) s'):
  wpAny (model X.prog X.w) A (compareOp .NotIn u (.ref a)) Q E s:=by
 rcases g with⟨kvs,k,e,ey,l⟩|⟨kvs,k,b,e,ey,eb,l⟩
 ·subst ey;obtain⟨z,hd,vs,rel,dd⟩:=xg I.hok e;refine wpAny_notIn_of (jI ry) hd dd.mapOf ?_;rw[←(rel.val k).isSome_eq,←l];exact h _ (I.tok _)
 ·subst ey;cases(show u=Value.ref b from ry);obtain⟨z,hd,xs,rel,dd⟩:=xI I.hok e;refine wpAny_notIn_heap (tupleKind_room_in1 hu) (kf I.hok eb) hd dd ?_;have q:=(rel.val k).isSome_eq;rw[Option.isSome_map]at q;rw[←q,←l];exact h _ (I.tok _)
def my{h':Heap}{t':Nat}{ob:HO}(I:Inv X pins σ H s)(mu:jP (H a))(hs:Heap.SameBut a s.heap h')(he:∃q,h'.get? a=some q)(new:br X.prog X.w (upd H a ob) h' a ob):
  Inv X pins σ (upd H a ob) { s with heap:=h',toks:=t' }:=
 I.write (x:=a) (e:=a) mu (.inl rfl) (λb q hb z=>(hs.2 b hb).trans z) he new
def zR{P:Program}{w:World}{H':Hp}{h':Heap}{kvs:List (Key×V)}{vs:List (Key×Value)}(z:kvs.length<=sizeLine)(hd:(a == sysModules)=false)(rel:KV kvs vs)(dd:h'.DictOf (aO P w) a vs):
  br P w H' h' a (.dK kvs):=⟨z,hd,vs,rel,dd⟩
def B3{H':Hp}{Q:Unit->Shared->Prop}(hu:A.units+1<cLine)(I:Inv X pins σ H s)(g:iQ H a y v H')(ry:RelV y u)(rv:RelV v r)(h:∀s',Inv X pins σ H' s'->Q () s'):
  wpAny (model X.prog X.w) A (setItem (.ref a) u r) Q E s:=by
 rcases g with⟨kvs,k,e,ey,l,eH⟩|⟨kvs,k,b,e,ey,eb,l,eH⟩
 ·subst ey eH;obtain⟨z,hd,vs,rel,dd⟩:=Bi I.hok e;have hz:vs.length<=sizeLine:=by rw[←rel.length];exact z
  have hl:(putK kvs k v).length<=sizeLine:=by have:=uz kvs k v;omega
  refine wpAny_setItem_pairs (hsz:=hz) (jI ry) dd λh' dd' hs=>h _ ?_;have he:∃q,h'.get? a=some q:=let ⟨q,_,_,hq,_⟩:=dd';⟨q,hq⟩;exact my I (by rw[e];exact True.intro) hs he (zR hl hd (rel.put k rv) dd')
 ·subst ey eH;cases(show u=Value.ref b from ry);obtain⟨z,hd,xs,rel,dd⟩:=vk I.hok e;have hz:xs.length<=sizeLine:=by rw[←Paired.length rel];exact z
  have hl:(putK kvs k v).length<=sizeLine:=by have:=uz kvs k v;omega
  refine wpAny_setItem_heap (hsz:=hz) (tupleKind_room_in1 hu) (kf I.hok eb) dd λh' dd' hs=>h _ ?_;obtain⟨q,es,ep,hq,h2,h3,h4,_,h5⟩:=dd';refine my I (by rw[e];exact True.intro) hs ⟨q,hq⟩ ⟨hl,hd,_,(rel.put k eb rv).keeps λc ys ec=>?_,q,es,ep,hq,h2,h3,h4,h5⟩;rw[aC (fj ec e (λz=>nomatch z))];exact ec
end
section
variable {X:Cx} {pins:List (Addr×Obj)} {σ:St} {H:Hp} {s:Shared} {a:Addr} {kvs:List (Key×V)} {k:Key} {u:Value} {A:Around} {E:Value->Shared->Prop}
end
def ym(i:Expr):Prop:=∀ov iv,subscripted i false ov iv=operate [ov,iv] (getItem ov iv)
def DE{prog:Program}{w:World}{A:Around}{E:Value->Shared->Prop}{s:Shared}{env:Env}{value slice:Expr}{pos:Pos}{T id:String}{Q:Value->Shared->Prop}
  (hl:typeLookup (.type T) "__getitem__" = pure (some (.builtin id))) (hs:ym slice)
  (h:wpAny (model prog w) A (eval value env) (λo s₁=>wpAny (model prog w) A (eval slice env) (λi s₂=>s₂.TypeIs o T/\wpAny (model prog w) A (getItem o i) Q E s₂) E s₁) E s) :
  wpAny (model prog w) A (eval (.Subscript value slice pos) env) Q E s:=by
 refine Subscript_ (wpAny_mono h (λo s₁ h₁=>wpAny_mono h₁ (λi s₂ h₂=>?_) λ_ _ x=>x) λ_ _ x=>x);obtain⟨hT,h₂⟩:=h₂;unfold subscriptTail;refine FA ?_;rw[getitemInPython_of_ne hT.not_modules];refine FA (wpAny_specialOf hT hl ?_);have fin:wpAny (model prog w) A (subscripted slice false o i) (λr s₃=>wpAny (model prog w) A (letTemporaryGo value o r >>= λ_=>pure r) Q E s₃) E s₂:=by rw[hs o i];exact wpAny_operating (wpAny_mono h₂ (λr s₃ h₃=>FA (wpAny_letTemporaryGo (FC h₃))) λ_ _ x=>x)
 first
  | exact FC (FA fin)
  | exact FA (FC (FA fin))
  | exact FA fin
def xB(ty td:TE):TE:=λσ H Q=>ty σ H λy H1=>td σ H1 λx H2=>∃a o,x=.ref a/\ir H2 a y o/\Q (.bl (!o.isSome)) H2
def ur(td ty tv:TE):TS:=λD σ H=>tv σ H λv H1=>td σ H1 λx H2=>ty σ H2 λy H3=>∃a H4,x=.ref a/\iQ H3 a y v H4/\D.nx σ H4
section
variable {X:Cx} {o i e value:Expr} {pos pos' tpos:Pos} {td ty tv:TE}
def Cw(hu:X.A.units+1<cLine)(hi:PE X i ty)(ho:PE X o td):PC X .NotIn i o (xB ty td):=by intro pins s σ H Q I h;refine ay (hi pins s σ H _ I h) λiv s1 ⟨y,H1,I1,ry,q1⟩=>ay (ho pins s1 σ H1 _ I1 q1) λu s2 ⟨x,H2,I2,rx,a,ov,ex,g,q2⟩=>?_;subst ex;obtain rfl:u=Value.ref a:=rx;exact Cb hu I2 g ry λs3 I3=>⟨.bl (!ov.isSome),H2,I3,rfl,q2⟩
def Dt(hu:X.A.units+1<cLine)(ho:PE X o td)(hi:PE X i ty)(hv:PE X value tv)(hs:swapsWith value (some (.Subscript o i pos')) pos.line X.env=pure false):
  PS X (.Assign [.Subscript o i pos'] value pos) (ur td ty tv):=by
 intro pins s σ H D I h;refine wpAny_Assign_Subscript (ay (hv pins s σ H _ I h) λr s1 ⟨v,H1,I1,rv,q1⟩=>ay (ho pins s1 σ H1 _ I1 q1) λu s2 ⟨x,H2,I2,rx,q2⟩=>ay (hi pins s2 σ H2 _ I2 q2) λiv s3 ⟨y,H3,I3,ry,a,H4,ex,g,q3⟩=>?_) hs;subst ex;obtain rfl:u=Value.ref a:=rx;exact B3 hu I3 g ry rv λs4 I4=>⟨σ,H4,I4,q3⟩
end
def CW{P:Program}{w:World}{H:Hp}(h:Heap)(hb:sysModules<h.objs.size):br P w H (h.push { cls:=.type "dict",data:=.dict #[] }) h.objs.size (.dT []):=
 ⟨Nat.zero_le _,beq_eq_false_iff_ne.mpr (Ne.symm (F4 hb)),[],.nil,_,#[],0,FF _ rfl,⟨rfl,rfl,rfl⟩,rfl,rfl,List.nodup_nil⟩
section
variable {X:Cx} {pos:Pos}
end
section
variable {X:Cx} {pins:List (Addr×Obj)} {σ:St} {H:Hp} {s:Shared} {a:Addr} {y d:V} {u r:Value} {o:Option V} {A:Around} {E:Value->Shared->Prop}
end
section
variable {X:Cx} {o e f:Expr} {apos cpos:Pos} {td ty tx:TE}
end
section
variable {X:Cx} {pins:List (Addr×Obj)} {σ:St} {H:Hp} {s:Shared} {a:Addr} {kvs:List (Key×V)} {A:Around} {E:Value->Shared->Prop}
end
section
variable {X:Cx} {pins:List (Addr×Obj)} {σ:St} {H:Hp} {s:Shared} {a:Addr} {y:V} {u:Value} {A:Around} {E:Value->Shared->Prop}
end
section
variable {X:Cx}
end
section
variable {κ:Type} [DecidableEq κ]
end
def Dj(o:Obj)(f:Array Value->Array Value):(o.mapFields f).dict=o.dict:=by unfold Obj.mapFields;split<;>rfl
def cy(h:Heap)(x:Addr)(dd:Option Addr):Prop:=∃o vs,h.get? x=some o/\o.data=.fields vs/\vs[2]?=some .none/\∀d,dd=some d->o.dict=some d
section
variable {prog:Program} {w:World} {A:Around} {E:Value->Shared->Prop} {s:Shared} {dd:Option Addr}
def cy.keeps{h h':Heap}{x:Addr}(a:cy h x dd)(k:∀b o,h.get? b=some o->h'.get? b=some o):cy h' x dd:=let ⟨o,vs,e,r⟩:=a;⟨o,vs,k _ _ e,r⟩
end
section
variable {M:Model} {A:Around} {E:Value->Shared->Prop} {s:Shared} {dd:Option Addr}
def cy.eq{h h':Heap}{x:Addr}(a:cy h x dd)(k:h'.get? x=h.get? x):cy h' x dd:=let ⟨o,vs,e,r⟩:=a;⟨o,vs,k.trans e,r⟩
def o4{B:Heap}{l:List Env}{e:Addr}{cls a0 fl:Value}{Q:Unit->Shared->Prop}(k:B.StaysIn s.heap)(hl:s.heap.FunFrames B l)(ht:s.heap.TracedAtW B e cls a0 fl)(al:cy s.heap e dd)
  (q:∀h',B.StaysIn h'->h'.FunFrames B l->h'.TracedW B e cls a0->s.heap.UpToSlots h'->cy h' e dd->Q () { s with heap:=h' }):wpAny M A (setFlight (.ref e) none) Q E s:=by
 obtain⟨oe,vs,T,oT,ts,g1,g2,g3,g4,g5,g6,g7,g8,g9⟩:=ht;have z:3<ts.size:=(Array.getElem?_eq_some_iff.mp g9).1;have S:=Heap.SameBut.update s.heap T (Obj.mapFields (·.setIfInBounds 3 ((none:Option Addr).elim Value.none λf=>rawInt f)));have nT:∀b o,s.heap.get? b=some o->(∀us,o.data≠.fields us)->b≠T:=by rintro b o hb hn rfl;rw[g7]at hb;cases hb;exact hn ts g8
 have n1:(Value.ref T != Value.none)=true:=by simp
 unfold setFlight;refine FA (wpAny_field g1 g3 g4 ?_);rw[GH n1];refine wpAny_setField g7 g8 z (q _ (λb o hb=>(S.2 b ?_).trans (k b o hb)) (hl.of_keeps λb o hb hn=>⟨o,(S.2 b (nT b o hb hn)).trans hb,rfl⟩) ?_ (λb o hb hn=>⟨o.slots,(S.2 b (nT b o hb hn)).trans hb⟩) (al.eq (S.2 e (Ne.symm g6))))
 ·rintro rfl;rw[g5]at hb;cases hb
 ·exact⟨oe,vs,T,_,_,(S.2 e (Ne.symm g6)).trans g1,g2,g3,g4,g5,g6,Heap.get?_update_self _ g7 (Obj.isFreed_of_fields (Obj.data_mapFields g8 _)),Obj.data_mapFields g8 _,by simp[z]⟩
def ux{B:Heap}{env:Env}{outer:List Env}{L e:Addr}{oe:Obj}{vs:Array Value}{head a0:Value}{more:Bool}{Q:Unit->Shared->Prop}(hfr:A.frames=some (env::outer))(hl:s.heap.FunFrames B (env::outer))(hf:env.frame=some L)
  (g1:s.heap.get? e=some oe) (k:B.StaysIn s.heap) (hen:B.get? e=none) (g3:oe.data=.fields vs) (z:1<vs.size) (h0:vs[0]?=some a0) (h2:vs[2]?=some .none) (hdd:∀d,dd=some d->oe.dict=some d)
  (q:∀h',Heap.NotedW B (env::outer) e oe.cls a0 (rawInt L) s.heap h'->cy h' e dd->Q () { s with heap:=h' }) :
  wpAny M A (frameOf env >>= λa=>entryPlaceOf L more >>= λpl=>EntryCells.newEntry head a .none (rawInt L) .none pl >>= λb=>setField (.ref e) 1 b) Q E s:=by
 have ne:e∉(env::outer).filterMap (·.frame):=λhm=>by obtain⟨_,o,ho,hn⟩:=hl.mem hm;rw[g1]at ho;cases ho;exact hn vs g3
 refine FA (wpAny_frameOf_fun hfr hl hf λh1 S1=>FA (wpAny_entryPlaceOf λpl hpl=>FA ?_));unfold EntryCells.newEntry newFields;refine wpAny_newObj_type ?_ (hpl.sizeOk5 _ _ _ _ _);have t3:(([head,.ref L,.none,rawInt L,.none]++(if pl.isEmpty then Gu 6 Value.none else pl)).toArray)[3]?=some (rawInt L):=by simp
 generalize ([head,.ref L,.none,rawInt L,.none]++(if pl.isEmpty then Gu 6 Value.none else pl)).toArray=ts at t3 ⊢;have e1:h1.get? e=some oe:=(S1.2.1 e ne).trans g1;have k1:B.StaysIn h1:=λb o hb=>(S1.2.1 b λhm=>by rw[(hl.mem hm).1]at hb;cases hb).trans (k b o hb);have nT:h1.objs.size≠e:=Nat.ne_of_gt (FG e1);have e2:=FE (h:=h1) { cls:=.type "traceback",dict:=none,data:=.fields ts } e1;have eT:=FF h1 (o:={ cls:=.type "traceback",dict:=none,data:=.fields ts }) rfl;refine wpAny_setField e2 g3 z (q _ ?_ ?_)
 all_goals
  have S2:=Heap.SameBut.update (h1.push { cls:=.type "traceback",dict:=none,data:=.fields ts }) e (Obj.mapFields (·.setIfInBounds 1 (Value.ref h1.objs.size)));have e3:=Heap.get?_update_self (Obj.mapFields (·.setIfInBounds 1 (Value.ref h1.objs.size))) e2 (Obj.isFreed_of_fields (Obj.data_mapFields g3 _));have d3:=Obj.data_mapFields g3 (·.setIfInBounds 1 (Value.ref h1.objs.size))
 ·have up:∀b o,s.heap.get? b=some o->(∀us,o.data≠.fields us)->∃sl,((h1.push { cls:=.type "traceback",dict:=none,data:=.fields ts }).update e (Obj.mapFields (·.setIfInBounds 1 (Value.ref h1.objs.size)))).get? b=some { o with slots:=sl }:=λb o hb hn=>by
   obtain⟨sl,hs⟩:=S1.2.2 b o hb;have nb:b≠e:=by rintro rfl;rw[g1]at hb;cases hb;exact hn vs g3
   exact⟨sl,(S2.2 b nb).trans (FE _ hs)⟩
  refine⟨λb o hb=>?_,hl.of_keeps λb o hb hn=>?_,⟨_,_,h1.objs.size,_,ts,e3,⟨Obj.cls_mapFields ..,?_⟩,d3,?_,k1.fresh,nT,(S2.2 _ nT).trans eT,rfl,t3⟩,up⟩
  ·have nb:b≠e:=by rintro rfl;rw[hen]at hb;cases hb
   exact(S2.2 b nb).trans (FE _ (k1 b o hb))
  ·obtain⟨sl,z⟩:=up b o hb hn;exact⟨_,z,rfl⟩
  ·rw[Array.getElem?_setIfInBounds_ne (by decide)];exact h0
  ·simp[z]
 ·refine⟨_,_,e3,d3,by rw[Array.getElem?_setIfInBounds_ne (by decide)];exact h2,λd z=>?_⟩;rw[←hdd d z];exact Dj ..
def xK{B:Heap}{env:Env}{outer:List Env}{L e:Addr}{cls a0:Value}{Q:Unit->Shared->Prop}(hfr:A.frames=some (env::outer))(hf:env.frame=some L)(fl:Heap.FlyingW B (env::outer) e cls a0 s.heap)(al:cy s.heap e dd)
  (q:∀h',Heap.HeldW B (env::outer) e cls a0 L h'->s.heap.UpToSlots h'->cy h' e dd->Q () { s with heap:=h' }):wpAny M A (noteFrame (.ref e) env) Q E s:=by
 obtain⟨k,hen,hl,oe,vs,T,oT,ts,g1,⟨rfl,h0⟩,g3,g4,g5,g6,g7,g8,g9⟩:=fl;have h2:vs[2]?=some .none/\∀d,dd=some d->oe.dict=some d:=by obtain⟨o',vs',x1,x2,x3⟩:=al;rw[g1]at x1;cases x1;rw[g3]at x2;cases x2;exact x3
 have z:3<ts.size:=(Array.getElem?_eq_some_iff.mp g9).1;have S:=Heap.SameBut.update s.heap T (Obj.mapFields (·.setIfInBounds 3 Value.none));have nT:∀b o,s.heap.get? b=some o->(∀us,o.data≠.fields us)->b≠T:=by rintro b o hb hn rfl;rw[g7]at hb;cases hb;exact hn ts g8
 have n1:(Value.ref T != Value.none)=true:=by simp
 have n2:¬((Value.none == rawInt L)=true):=by simp[rawInt]
 unfold noteFrame;simp only[hf];refine FA (wpAny_field g1 g3 g4 ?_);rw[GH n1];refine FA (wpAny_field g7 g8 g9 ?_);rw[GG n2];refine FA (wpAny_setField g7 g8 z ?_);refine ux hfr (hl.of_keeps λb o hb hn=>⟨o,(S.2 b (nT b o hb hn)).trans hb,rfl⟩) hf ((S.2 e (Ne.symm g6)).trans g1) (λb o hb=>(S.2 b ?_).trans (k b o hb)) hen g3 (Array.getElem?_eq_some_iff.mp g4).1 h0 h2.1 h2.2 λh' N al'=>?_
 ·rintro rfl;rw[g5]at hb;cases hb
 ·obtain⟨x1,x2,x3,x4⟩:=N;exact q h' ⟨x1,hen,x2,x3⟩ (λb o hb hn=>x4 b o ((S.2 b (nT b o hb hn)).trans hb) hn) al'
def xH{B:Heap}{l:List Env}{e:Addr}{cls a0:Value}{Q:Unit->Shared->Prop}{L:Addr}(fl:Heap.HeldW B l e cls a0 L s.heap)(al:cy s.heap e dd)
  (q:∀h',Heap.FlyingW B l e cls a0 h'->s.heap.UpToSlots h'->cy h' e dd->Q () { s with heap:=h' }):wpAny M A (setFlight (.ref e) none) Q E s:=
 o4 fl.1 fl.2.2.1 fl.2.2.2 al λh' a b c d f=>q h' ⟨a,fl.2.1,b,c⟩ d f
def Cc{B:Heap}{l:List Env}{e:Addr}{cls a0:Value}{Q:Unit->Shared->Prop}(fl:Heap.FlyingW B l e cls a0 s.heap)(al:cy s.heap e dd)
  (q:∀h',Heap.FlyingW B l e cls a0 h'->s.heap.UpToSlots h'->cy h' e dd->Q () { s with heap:=h' }):wpAny M A (setFlight (.ref e) none) Q E s:=
 o4 fl.1 fl.2.2.1 fl.2.2.2.at al λh' a b c d f=>q h' ⟨a,fl.2.1,b,c⟩ d f
def zU{B:Heap}{env:Env}{outer:List Env}{L e:Addr}{cls a0:Value}{Q:Unit->Shared->Prop}(hfr:A.frames=some (env::outer))(hf:env.frame=some L)(fl:Heap.FlyingW B (env::outer) e cls a0 s.heap)(al:cy s.heap e dd)
  (q:∀h',Heap.FlyingW B outer e cls a0 h'->s.heap.UpToSlots h'->cy h' e dd->Q () { s with heap:=h' }):wpAny M A (leaving env (.ref e)) Q E s:=by
 unfold leaving;refine FA (xK hfr hf fl al λh1 H1 u1 a1=>xH (s:={ s with heap:=h1 }) H1 a1 λh2 F2 u2 a2=>?_);obtain⟨x1,x2,⟨_,_,x3⟩,x4⟩:=F2;exact q h2 ⟨x1,x2,x3,x4⟩ (u1.trans u2) a2
structure MadeX(h h':Heap)(e:Addr)(cls:Value)(dd:Option Addr):Prop where
 keeps:∀b o,h.get? b=some o->h'.get? b=some o
 new:h.get? e=none
 there:∃oe vs t,h'.get? e=some oe/\oe.cls=cls/\oe.data=.fields vs/\vs[0]?=some (.ref t)/\vs[1]?=some .none/\vs[2]?=some .none/\1<vs.size/\∀d,dd=some d->oe.dict=some d
def MadeX.of{h h':Heap}{e:Addr}{cls:Value}{args:List Value}(hx:Heap.MadeExcOf h h' e cls args):MadeX h h' e cls none:=by obtain⟨t,he,_,_⟩:=hx.there;exact⟨hx.keeps,hx.new,_,_,t,he,rfl,rfl,rfl,rfl,rfl,by simp,λ_ z=>by cases z⟩
def CG{B h:Heap}{env:Env}{outer:List Env}{L e:Addr}{cls:Value}{Q:Unit->Shared->Prop}(hfr:A.frames=some (env::outer))(hf:env.frame=some L)(k:B.StaysIn h)(hl:h.FunFrames B (env::outer))(hx:MadeX h s.heap e cls dd)
  (q:∀h' a0,Heap.FlyingW B outer e cls a0 h'->s.heap.UpToSlots h'->cy h' e dd->Q () { s with heap:=h' }):wpAny M A (leaving env (.ref e)) Q E s:=by
 obtain⟨oe,vs,t,he,rfl,hd,h0,h1,h2,hz,hdd⟩:=hx.there;have fresh:∀b,h.get? b=none->B.get? b=none:=λb hb=>by
  cases hq:B.get? b with
  | none=>rfl
  | some o'=>exact absurd (k b o' hq) (by rw[hb];intro z;cases z)
 unfold leaving noteFrame;simp only[hf];refine FA (FA (wpAny_field (x:=.none) he hd h1 ?_));rw[GG (by decide)];refine ux (a0:=.ref t) hfr (hl.of_keeps λb o hb _=>⟨o,hx.keeps b o hb,rfl⟩) hf he (λb o hb=>hx.keeps b o (k b o hb)) (fresh e hx.new) hd hz h0 h2 hdd λh1 N a1=>?_;obtain⟨x1,x2,x3,x4⟩:=N;refine o4 (s:={ s with heap:=h1 }) x1 x2 x3 a1 λh2 y1 y2 y3 y4 y5=>?_;obtain⟨_,_,y2'⟩:=y2;exact q h2 _ ⟨y1,fresh e hx.new,y2',y3⟩ (Heap.UpToSlots.trans x4 y4) y5
end
def br.obj{P:Program}{w:World}{H:Hp}{h:Heap}{a:Addr}{o:HO}(x:br P w H h a o):∃ob,h.get? a=some ob:=by
 cases o with
 | lst xs=>obtain⟨_,_,_,_,e⟩:=x;exact⟨_,e⟩
 | tup xs=>obtain⟨_,_,_,ob,e,_⟩:=x;exact⟨_,e⟩
 | dK kvs=>obtain⟨_,_,_,_,ob,es,ep,e,_⟩:=x;exact⟨_,e⟩
 | dT kvs=>obtain⟨_,_,_,_,ob,es,ep,e,_⟩:=x;exact⟨_,e⟩
 | set S n=>obtain⟨ob,es,ep,t,e,_⟩:=x;exact⟨_,e⟩
 | ins C dx fs=>obtain⟨_,_,_,e,_⟩:=x;exact⟨_,e⟩
 | own y=>exact x
 | xd fs=>obtain⟨mA,hn,_⟩:=x;obtain⟨ob,es,ep,e,_⟩:=hn;exact⟨_,e⟩
 | rng lo hi=>obtain⟨_,_,_,e⟩:=x;exact⟨_,e⟩
 | frz ob u=>exact⟨_,x.1⟩
 | tbl ps=>exact⟨_,x⟩
 | met f y=>exact⟨_,x⟩
 | ext φ=>exact x.2.1
structure Fly(P:Program)(w:World)(outer:List Env)(H:Hp)(s:Shared)(x:Addr)(cls:Value)(da:Option Addr)(H':Hp)(s':Shared):Prop where
 os:s'.os=s.os
 bare:AllBare s'.gens
 un:Un (aX outer) [] H H' s.heap s'.heap
 hok:bf P w H' s'.heap
 new:H' x=none
 alone:cy s'.heap x da
 fly:∃B a0,Heap.FlyingW B outer x cls a0 s'.heap/\(∀b o,s'.heap.get? b=some o->H' b≠none->B.get? b=some o) ∧
  ∀b o o',s.heap.get? b=some o->b∉aX outer->s'.heap.get? b=some o'->B.get? b=some o'
def bU(P:Program)(w:World):fA:=λouter H s E e s'=>∃x cls da H',e=.ref x/\E cls da H'/\Fly P w outer H s x cls da H' s'
section
variable {P:Program} {w:World} {K:FD} {mg:Str->Option Value} {base:Heap} {N:List Str} {qual:Str} {scope:Scope} {f:Addr} {cd:Value} {A:Around} {outer:List Env} {s₀:Shared} {H₀:Hp} {E:XK}
def uo{l:List Env}{env:Env}{a:Addr}(h:env∈l)(e:env.frame=some a):a∈aX l:=List.mem_filterMap.mpr ⟨env,h,e⟩
def AD{pins:List (Addr×Obj)}{σ:St}{H:Hp}{s:Shared}{h1:Heap}{tk:Nat}{e:Addr}{cls:Value}{da:Option Addr}(I:Inv (bx (bU P w) P w K mg base N qual scope f cd A outer s₀ H₀ E) pins σ H s)
  (hx:MadeX s.heap h1 e cls da) (hE:E cls da H):(bx (bU P w) P w K mg base N qual scope f cd A outer s₀ H₀ E).xe (.ref e) { s with heap:=h1,toks:=tk }:=by
 have stk:(bx (bU P w) P w K mg base N qual scope f cd A outer s₀ H₀ E).stack=envOfC qual scope s₀.heap.objs.size f cd::outer:=rfl;have hL:∀b∈aX (envOfC qual scope s₀.heap.objs.size f cd::outer),b∈aX outer\/b=s₀.heap.objs.size:=λb hb=>by
  have:=I.stkSub b hb;rcases FX.mp this with z|z
  ·exact .inr z
  ·exact .inl z
 have hfr:∀env∈(envOfC qual scope s₀.heap.objs.size f cd::outer),∀a,env.frame=some a->a∈aX (envOfC qual scope s₀.heap.objs.size f cd::outer):=λenv he a ha=>uo he ha;have hff:=PySem.W.funFrames_hide I.stack hfr;have low:∀b o,s₀.heap.get? b=some o->b∉aX outer->b∉aX (envOfC qual scope s₀.heap.objs.size f cd::outer):=λb o hb hn hm=>by
  rcases hL b hm with z|z
  ·exact hn z
  ·exact absurd (FG hb) (by rw[z];exact Nat.lt_irrefl _)
 refine CG (B:=PySem.W.hideAll s.heap (aX (envOfC qual scope s₀.heap.objs.size f cd::outer))) (h:=s.heap) I.ok.frames rfl (λb o q=>PySem.W.of_hideAll _ q) hff hx λh' t x1 x4 x5=>?_;have up:∀b∈aX (envOfC qual scope s₀.heap.objs.size f cd::outer),∀o,s.heap.get? b=some o->∃sl,h'.get? b=some { o with slots:=sl }:=λb hb o ho=>by obtain⟨_,o',ho',hd⟩:=hff.mem hb;rw[ho]at ho';cases ho';exact x4 b o (hx.keeps b o ho) hd
 have stay:∀b o,b∉aX (envOfC qual scope s₀.heap.objs.size f cd::outer)->s.heap.get? b=some o->h'.get? b=some o:=λb o hn ho=>x1.1 b o (PySem.W.hideAll_get _ ho hn);have gg:∀b,H b≠none->b∉aX (envOfC qual scope s₀.heap.objs.size f cd::outer):=λb hb hm=>hb (I.stkFree b hm);have U:=I.base;have hnew:H e=none:=by
  cases hq:H e with
  | none=>rfl
  | some u=>
   obtain⟨ob,z⟩:=(I.hok e u hq).obj;rw[hx.new]at z;cases z
 refine⟨e,cls,da,H,rfl,hE,I.os,I.bare,⟨λb o q n hb _=>stay b o (low b o q hb) (U.keep b o q n hb (by intro z;cases z)),λb o q n hb _=>?_,λb o q n _=>U.free b o q n (by intro z;cases z),λb o q _=>?_,U.tups,U.frzs,U.tbls⟩,λa o q=>?_,hnew,x5,_,_,x1,λb o q hb=>?_,λb o o' q hb q'=>?_⟩
 ·obtain⟨sl,e1⟩:=U.slot b o q n hb (by intro z;cases z);obtain⟨sl',e2⟩:=up b (by show b∈List.filterMap _ (_::_);exact FK _ hb) _ e1;exact⟨sl',e2⟩
 ·obtain⟨o1,e1⟩:=U.there b o q (by intro z;cases z);by_cases hb:b∈aX (envOfC qual scope s₀.heap.objs.size f cd::outer)
  ·obtain⟨sl,e2⟩:=up b hb _ e1;exact⟨_,e2⟩
  ·exact⟨_,stay b _ hb e1⟩
 ·refine(I.hok a o q).stay (λb u hb z=>stay b u (gg b ?_) z) (λ_ z=>z) λ_ _ z=>z;rcases hb with rfl|hb
  ·rw[q];intro z;cases z
  ·rw[hb];intro z;cases z
 ·obtain⟨o1,e1⟩:∃o1,s.heap.get? b=some o1:=by
   cases hq:H b with
   | none=>exact absurd hq hb
   | some u=>exact(I.hok b u hq).obj
  have:=stay b o1 (gg b hb) e1;rw[q]at this;cases this;exact PySem.W.hideAll_get _ e1 (gg b hb)
 ·obtain⟨o1,e1⟩:=U.there b o q (by intro z;cases z);have hn:=low b o q hb;have:=stay b o1 hn e1;rw[q']at this;cases this;exact PySem.W.hideAll_get _ e1 hn
def Az{E':XK}(hEE:∀cls da H,E' cls da H->E cls da H):Passes (bU P w) (bx (bU P w) P w K mg base N qual scope f cd A outer s₀ H₀ E) E':=by
 intro pins σ H s e s' I h;obtain⟨x,cls,da,H',rfl,hE,F⟩:=h;obtain⟨B,a0,fl,f1,f2⟩:=F.fly;have hL:∀b∈aX (envOfC qual scope s₀.heap.objs.size f cd::outer),b∈aX outer\/b=s₀.heap.objs.size:=λb hb=>by
  rcases FX.mp (I.stkSub b hb)with z|z
  ·exact .inr z
  ·exact .inl z
 have low:∀b o,s₀.heap.get? b=some o->b∉aX outer->b∉aX (envOfC qual scope s₀.heap.objs.size f cd::outer):=λb o hb hn hm=>by
  rcases hL b hm with z|z
  ·exact hn z
  ·exact absurd (FG hb) (by rw[z];exact Nat.lt_irrefl _)
 have U:=I.base;have no:∀b:Addr,b∉([]:List Addr):=λb z=>by cases z
 refine zU I.ok.frames rfl fl F.alone λh' x1 x2 x3=>?_;have two:∀b o,s₀.heap.get? b=some o->∃o1 o2,s.heap.get? b=some o1/\s'.heap.get? b=some o2:=λb o q=>by obtain⟨o1,e1⟩:=U.there b o q (no b);obtain⟨o2,e2⟩:=F.un.there b o1 e1 (no b);exact⟨o1,o2,e1,e2⟩
 have stay:∀b o o2,s₀.heap.get? b=some o->b∉aX outer->s'.heap.get? b=some o2->B.get? b=some o2:=λb o o2 q hb q2=>by obtain⟨o1,o2',e1,e2⟩:=two b o q;exact f2 b o1 o2 e1 (low b o q hb) q2
 have hff:=fl.2.2.1;refine⟨x,cls,da,H',rfl,hEE _ _ _ hE,F.os.trans I.os,F.bare,⟨λb o q n hb _=>?_,λb o q n hb _=>?_,λb o q n _=>?_,λb o q _=>?_,λb xs q=>F.un.tups b xs (U.tups b xs q),λb o u q=>F.un.frzs b o u (U.frzs b o u q),λb ps q=>?_⟩,λa o q=>?_,F.new,x3,B,a0,x1,λb o q hb=>?_,λb o o' q hb q'=>?_⟩
 ·have e1:=U.keep b o q n hb (no b);have e2:=F.un.keep b o e1 (U.free b o q n (no b)) (low b o q hb) (no b);exact x1.1 b o (stay b o o q hb e2)
 ·obtain⟨sl,e1⟩:=U.slot b o q n hb (no b);have hb':b∈aX (envOfC qual scope s₀.heap.objs.size f cd::outer):=by show b∈List.filterMap _ (_::_);exact FK _ hb
  obtain⟨sl2,e2⟩:=F.un.slot b _ e1 (U.free b o q n (no b)) hb' (no b);obtain⟨_,o',ho',hd⟩:=hff.mem hb';rw[e2]at ho';cases ho';obtain⟨sl3,e3⟩:=x2 b _ e2 hd;exact⟨sl3,e3⟩
 ·obtain⟨o1,e1⟩:=U.there b o q (no b);exact F.un.free b o1 e1 (U.free b o q n (no b)) (no b)
 ·obtain⟨o1,o2,e1,e2⟩:=two b o q;by_cases hb:b∈aX outer
  ·have hb':b∈aX (envOfC qual scope s₀.heap.objs.size f cd::outer):=by show b∈List.filterMap _ (_::_);exact FK _ hb
   obtain⟨_,o',ho',hd⟩:=hff.mem hb';obtain⟨sl3,e3⟩:=x2 b _ ho' hd;exact⟨_,e3⟩
  ·exact⟨_,x1.1 b o2 (stay b o o2 q hb e2)⟩
 ·obtain⟨m1,e1⟩:=U.tbls b ps q;obtain⟨m2,e2⟩:=F.un.tbls b _ e1;exact⟨m1++m2,by rw[e2,Array.append_assoc]⟩
 ·refine(F.hok a o q).stay (λb u hb z=>x1.1 b u (f1 b u z ?_)) (λ_ z=>z) λ_ _ z=>z;rcases hb with rfl|hb
  ·rw[q];intro z;cases z
  ·rw[hb];intro z;cases z
 ·obtain⟨o1,e1⟩:∃o1,s'.heap.get? b=some o1:=by
   cases hq:H' b with
   | none=>exact absurd hq hb
   | some u=>exact(F.hok b u hq).obj
  have e2:=f1 b o1 e1 hb;have:=x1.1 b o1 e2;rw[q]at this;cases this;exact e2
 ·obtain⟨o1,o2,e1,e2⟩:=two b o q;have e3:=stay b o o2 q hb e2;have:=x1.1 b o2 e3;rw[q']at this;cases this;exact e3
end
section
variable {prog:Program} {w:World} {A:Around} {E:Value->Shared->Prop} {K:FD} {x D:Addr} {ox:Obj} {s:Shared}
structure InstC(h:Heap)(x:Addr)(ox:Obj)(D:Addr):Prop where
 at_:h.get? x=some ox
 cls:ox.cls=.ref D
def InstC.type{M:Model}{h:Heap}{y C:Addr}{oy:Obj}(I:InstC h y oy C):PySem.W.Looks M h (typeOf (.ref y)) (.ref C):=by
 have z:PySem.W.Looks M h (typeOf (.ref y)) oy.cls:=(PySem.W.Looks.ld I.at_).andThen .now
 rwa [I.cls]at z
def BQ{M:Model}{h:Heap}(X:K.In h)(ha:PySem.W.findIn K (.ref D) "__class__" = some (some (.builtin "object.__class__")))(hg:PySem.W.specialIn K (.builtin "object.__class__") "__get__" = some (some (.builtin "getset_descriptor.__get__")))
  (ht:PySem.W.takesIn K (.builtin "object.__class__")=some true):PySem.W.Looks M h (Builtin.ObjectAttr.find (.ref x) (.ref D) "__class__") (.bind (.builtin "getset_descriptor.__get__") (.builtin "object.__class__")):=by
 have L1:=PySem.W.looks_findIn (M:=M) X ha;have L2:PySem.W.Looks M h (Builtin.ObjectAttr.getOf (some (.builtin "object.__class__"))) (some (.builtin "getset_descriptor.__get__")):=PySem.W.looks_specialIn X hg;have L3:=PySem.W.looks_takesIn (M:=M) X ht;refine L1.andThen (L2.andThen ?_);refine PySem.W.Looks.andThen (a:=some (.builtin "getset_descriptor.__get__",.builtin "object.__class__")) (L3.andThen ?_) (PySem.W.Looks.tag .now);rw[GH rfl];exact .now
def Bu{tp:Value}{R:Result->Shared->Prop}(X:K.In s.heap)(I:InstC s.heap x ox D)(hm:PySem.W.mroIn K D (.type "object")=some true)(hq:R (.ok (.ret (.ref D))) s):
  codeAny (model prog w) A (.call (.builtin "getset_descriptor.__get__") ⟨[.builtin "object.__class__",.ref x,tp],[]⟩) R s:=by
 obtain⟨hh,g,d,t,os⟩:=s;have T0:=I.type (M:=model prog w);have T1:=PySem.W.looks_mroIn (M:=model prog w) X hm;refine codeAny_call_builtin PySem.W.KF.slot_gs.plain PySem.W.KF.entry_gs (PySem.W.KF.slot_gs.check _ _ _ _ _ _ _ _ PySem.W.KF.type_class (PySem.W.KF.args_gs _ _ _) ?_);unfold Builtin.«getset_descriptor.__get__» Builtin.Getset_descriptor.descrGet;rw[PySem.W.dga_obj];refine FA (FC ?_);unfold Builtin.Getset_descriptor.descrGetter Builtin.Getset_descriptor.descrCheckInstance Builtin.Getset_descriptor.descrNameAndClass isInstance;simp only[PySem.W.KF.owner_class];repeat lk
 refine⟨Code.quiet_builtin _ (by decide +kernel),codeAny_builtin PySem.W.KF.entry_class ?_⟩;unfold Builtin.«object.__class__» shownTypeOf;repeat lk
 exact hq
def yG{tk:Tok}{Q:Fin->Shared->Prop}(X:K.In s.heap)(I:InstC s.heap x ox D)(ha:PySem.W.findIn K (.ref D) "__class__" = some (some (.builtin "object.__class__")))(hg:PySem.W.specialIn K (.builtin "object.__class__") "__get__" = some (some (.builtin "getset_descriptor.__get__")))
  (ht:PySem.W.takesIn K (.builtin "object.__class__")=some true) (hm:PySem.W.mroIn K D (.type "object")=some true)
  (hq:Q (.done (.ret (.ref D))) s):wpAny (model prog w) A (Builtin.«object.__getattribute__» ⟨[.ref x,.str "__class__" tk],[]⟩) Q E s:=by
 obtain⟨hh,g,d,t,os⟩:=s;have L0:=I.type (M:=model prog w);have L1:=BQ (M:=model prog w) (x:=x) X ha hg ht;unfold Builtin.«object.__getattribute__»;refine FA (FC (FA (FC (FA (L0.at (FA (L1.at ?_)))))));show wpAny _ _ (holding [Value.builtin "object.__class__"] (call (Value.builtin "getset_descriptor.__get__") [.builtin "object.__class__",.ref x,.ref D]) >>= ret) _ _ _;exact FA (wpAny_holding (wpAny_call (Bu (s:=⟨hh,g,d,t,os⟩) X I hm (FC hq))))
def EC{nameV:Value}{M:Model}{Q:Unit->Shared->Prop}(X:K.In s.heap)(I:InstC s.heap x ox D)(hs:PySem.W.subIn K (.ref D) (.type "BaseException")=some true)(hq:Q () s):
  wpAny M A (checkBuiltinCall "BaseException.__getattribute__" ⟨[.ref x,nameV],[]⟩) Q E s:=by
 have k1:builtinKind "BaseException.__getattribute__" = some .slot:=by decide +kernel
 have k2:splitId "BaseException.__getattribute__" = some ("BaseException","__getattribute__"):=by decide +kernel
 have k3:=PySem.F.args_bexc_ga (.ref x) nameV;have LI:PySem.W.Looks M s.heap (isInstance (.ref x) (.type "BaseException")) true:=(I.type (M:=M)).andThen (PySem.W.looks_subIn X hs);obtain⟨hh,g,d,t,os⟩:=s;simp only[checkBuiltinCall,k1,k2];refine FA (LI.at ?_)
 repeat (any_goals (first|assumption|wp_step))
structure ExcK(K:FD)(D:Addr):Prop where
 lk:∃c d cd sl,K.lookup D=some ⟨c,d,.cls cd,sl⟩
 ga:PySem.W.findIn K (.ref D) "__getattribute__" = some (some (.builtin "BaseException.__getattribute__"))
 gt:PySem.W.findIn K (.ref D) "__getattr__" = some none
 sb:PySem.W.subIn K (.ref D) (.type "BaseException")=some true
 cf:PySem.W.findIn K (.ref D) "__class__" = some (some (.builtin "object.__class__"))
 cg:PySem.W.specialIn K (.builtin "object.__class__") "__get__" = some (some (.builtin "getset_descriptor.__get__"))
 ct:PySem.W.takesIn K (.builtin "object.__class__")=some true
 mo:PySem.W.mroIn K D (.type "object")=some true
def Fn{Q:Option Value->Shared->Prop}(X:K.In s.heap)(I:InstC s.heap x ox D)(F:ExcK K D)
  (h:Q (some (.ref D)) { s with toks:=s.toks+1 }):wpAny (model prog w) A (getAttr? (.ref x) "__class__") Q E s:=by
 obtain⟨hh,g,d,t,os⟩:=s;have L0:=I.type (M:=model prog w);have L1:=PySem.W.looks_findIn (M:=model prog w) X F.ga;have L2:=PySem.W.looks_findIn (M:=model prog w) X F.gt;unfold getAttr? getAttrBy? getAttrBy;refine FA (wpAny_mkText (FA (wpAny_attempt (wpAny_holding (FA (L0.at (FA (L1.at ?_))))))))
 repeat (any_goals (first|assumption|wp_step|lk))
 refine codeAny_call_builtin (PySem.F.excAttr_ValueError).ga.plain PySem.F.entry_bexc_ga (EC (s:=⟨hh,g,d,t+1,os⟩) X I F.sb (yG (s:=⟨hh,g,d,t+1,os⟩) X I F.cf F.cg F.ct F.mo ?_))
 repeat (any_goals (first|assumption|wp_step|lk))
def o5(F:ExcK K D):PySem.W.KitX K (.ref x) (.ref D) (λh=>InstC h x ox D) where
 ty:=λ_ _ _ I=>I.type
 it:=λM h X _=>by obtain⟨c,d,cd,sl,ho⟩:=F.lk;intro A' Q' E' s' k q;unfold isType loadHead;exact FA (wpAny_loadPart (k _ _ (X _ _ ho)) (FC q))
 ne:=λh tp dd its n sl X htp=>by obtain⟨c,d,cd,sl',ho⟩:=F.lk;rw[Bool.eq_false_iff];intro q;cases(show D=tp from Value.ref.inj (eq_of_beq q));have z:=X _ _ ho;rw[htp]at z;cases z
 ca:=λX I k=>Fn X I F k
end
abbrev bR(X:Cx)(x:Addr)(oe:Obj):Cx:={ X with A:=X.A.mark (some (.ref x)),calm:=false,pn:=(x,oe)::X.pn,xe:=λ_ _=>False }
abbrev qF(X:Cx)(x:Addr):Cx:={ X with A:=X.A.mark (some (.ref x)),calm:=false,xe:=λ_ _=>False }
section
variable {X:Cx} {pins:List (Addr×Obj)} {σ:St} {H:Hp} {s:Shared} {x:Addr} {oe:Obj}
def Cx.Ok.marked(ok:X.Ok)(x:Addr):(qF X x).Ok:=
 ⟨ok.mod,ok.kind,ok.glob,ok.blt,ok.above,ok.inj,ok.has,ok.cab,(λz=>Bool.noConfusion z),ok.frames,ok.stk,ok.exf,ok.bs,ok.bsz,ok.noex,ok.exfs,ok.funs,ok.frf⟩
def Inv.marked(I:Inv X pins σ H s)(x:Addr):Inv (qF X x) pins σ H s:=⟨I.ok.marked x,I.os,I.bare,I.base,I.loc,I.cell,I.free,I.freeC,I.pin,I.hok,I.len⟩
def Inv.pinH(I:Inv X pins σ H s)(h1:s.heap.get? x=some oe)(h2:H x=none)(h3:x≠X.env.locals)(h4:x∉X.fs)(h5:∀v,oe.data≠.cell v):Inv (bR X x oe) pins σ H s:=
  ⟨⟨I.ok.mod,I.ok.kind,I.ok.glob,I.ok.blt,I.ok.above,I.ok.inj,I.ok.has,I.ok.cab,(λz=>Bool.noConfusion z),I.ok.frames,I.ok.stk,I.ok.exf,I.ok.bs,I.ok.bsz,I.ok.noex,I.ok.exfs,I.ok.funs,I.ok.frf⟩,I.os,I.bare,I.base,I.loc,I.cell,I.free,I.freeC,
    λp hp=>by
      rcases FX.mp hp with rfl|hp
      · exact ⟨h1,h2,h3,h4,h5⟩
      · exact I.pin p hp,I.hok,I.len⟩
def Inv.unpinH(ok:X.Ok)(I:Inv (bR X x oe) pins σ H s):Inv X pins σ H s:=⟨ok,I.os,I.bare,I.base,I.loc,I.cell,I.free,I.freeC,λp hp=>I.pin p (FK _ hp),I.hok,I.len⟩
def kM(K:FD)(x D:Addr):List V->Hp->VK->Prop:=λxs H Q=>∃b:Bool,((∃C,xs=[.ref x,.ref C]/\PySem.W.kitOne K (.ref D) (.ref C)=some b)\/(∃T,xs=[.ref x,.ty T]/\PySem.W.kitOne K (.ref D) (.type T)=some b) ∨
 ∃(p:Addr) (Cs:List Addr),xs=[.ref x,.ref p]/\H p=some (.tup (Cs.map V.ref))/\PySem.W.kitAny K (.ref D) (Cs.map Value.ref)=some b)/\Q (.bl b) H
def rL:∀{Cs:List Addr} {us:List Value},Vals (Cs.map V.ref) us->us=Cs.map Value.ref
 | [],_,r=>by cases r;rfl
 | _::_,_,r=>by
  cases r with
  | cons r t=>cases r;rw[rL t];rfl
def gN{D:Addr}(F:ExcK X.K D)(hc:oe.cls=.ref D):cJ (bR X x oe) (.builtin "isinstance") (kM X.K x D):=by
 intro pins s σ H xs us Q I r h;obtain⟨b,h,q⟩:=h;have p:=(I.pin (x,oe) (Gs _ FO)).1;have J:InstC s.heap x oe D:=⟨p,hc⟩;rcases h with⟨C,rfl,hk⟩|⟨T,rfl,hk⟩|⟨tp,Cs,rfl,ht,hk⟩
 ·obtain⟨u,w',rfl,r1,r2⟩:=vals2 r;cases(show u=Value.ref x from r1);cases(show w'=Value.ref C from r2);exact PySem.W.kia_one (o5 F) I.kIn J hk (λz=>nomatch z) λtk=>⟨.bl b,H,I.tok tk,rfl,q⟩
 ·obtain⟨u,w',rfl,r1,r2⟩:=vals2 r;cases(show u=Value.ref x from r1);cases(show w'=Value.type T from r2);exact PySem.W.kia_one (o5 F) I.kIn J hk (λz=>nomatch z) λtk=>⟨.bl b,H,I.tok tk,rfl,q⟩
 ·obtain⟨u,w',rfl,r1,r2⟩:=vals2 r;cases(show u=Value.ref x from r1);cases(show w'=Value.ref tp from r2);obtain⟨its,rv,⟨⟨cls,dd,data,sl⟩,ho,hcl,n,hdt⟩,_⟩:=I.tuple (ao.of ht);simp only at hcl hdt;subst hcl hdt;rw[rL rv]at ho;exact PySem.W.kia_tup (o5 F) I.kIn J ho hk (λz=>nomatch z) λtk=>⟨.bl b,H,I.tok tk,rfl,q⟩
end
def wX(cls:Value)(E:XK)(t:TA):TS:=λ_ σ H=>t σ H λvs H1=>vs.length<=sizeLine/\E cls none H1
def DR{K:FD}{h:Heap}{mg:Str->Option Value}{x:Str}{C:Addr}{bm:List Value}{nid:String}(X:K.In h)(G:h.Ns mainGlobals mg)(e:PySem.W.nsIn K mainGlobals x=some (some (.ref C)))(q:PySem.W.excIn K C bm nid=true):OwnCls x C bm nid mg h:=by
 constructor
 ·exact PySem.W.mg_of X G e
 ·unfold PySem.W.excIn at q;cases hl:K.lookup C with
  | none=>rw[hl]at q;cases q
  | some o=>
   rw[hl]at q;obtain⟨cl,dd,data,sl⟩:=o;split at q
   ·rename_i hh;cases hh;split at q
    ·rename_i _ cd _ _ C' bm' k0 k1 k2 k3 n k5 hm hs;simp only[Gn,beq_iff_eq,Bool.not_eq_true']at q;obtain⟨⟨⟨⟨⟨rfl,rfl⟩,d0⟩,t0⟩,o0⟩,i0⟩:=q;obtain⟨nm,bs,mro,ns,qn,hd,sn,sub,ab,col,del⟩:=cd
     try dsimp only at hm d0 o0 i0
     subst hm d0;obtain⟨l⟩:=sl;simp only at hs;subst hs;exact⟨_,_,_,_,_,_,_,_,_,_,_,_,_,_,_,_,_,X _ _ hl,.of_isNs (PySem.W.isNs_of_in X o0),PySem.W.nsMap_none_of_in X o0 i0,PySem.W.tail_of_in X t0⟩
    ·cases q
   ·cases q
section
variable {P:Program} {w:World} {K:FD} {mg:Str->Option Value} {base:Heap} {N:List Str} {qual:Str} {scope:Scope} {f:Addr} {cd:Value} {A:Around} {outer:List Env} {s₀:Shared} {H₀:Hp} {E:XK}
def ke{x:Str}{C:Addr}{B nid iid:String}{bm:List Value}{np cpos pos:Pos}{e:Expr}{es:List Expr}{t:TA}(O:OwnCls x C bm nid mg base)(FB:ExcBaseFacts B nid iid bm)
  (ha:PA (bx (bU P w) P w K mg base N qual scope f cd A outer s₀ H₀ E) (e::es) t) (hg:Gl (bx (bU P w) P w K mg base N qual scope f cd A outer s₀ H₀ E) x:=by rfl) (hd:(x == ("__debug__":Str))=false:=by decide)
  (he:starEach (e::es) (bx (bU P w) P w K mg base N qual scope f cd A outer s₀ H₀ E).env=(false,eval e (bx (bU P w) P w K mg base N qual scope f cd A outer s₀ H₀ E).env)::starEach es (bx (bU P w) P w K mg base N qual scope f cd A outer s₀ H₀ E).env:=by rfl)
  (hpl:(backTo cpos (starEach es (bx (bU P w) P w K mg base N qual scope f cd A outer s₀ H₀ E).env)).any (·.1)=false:=by rfl) :
  PS (bx (bU P w) P w K mg base N qual scope f cd A outer s₀ H₀ E) (.Raise (some (.Call (.Name x np) (e::es) [] cpos)) none pos) (wX (.ref C) E t):=by
 intro pins s σ H D I h;obtain⟨tl,Nn,nm,q,bs,hdct,sn,sub,ab,col,dd,k0,k1,k2,k3,k5,mN,hC,hN,hni,T⟩:=O.obj;refine wpAny_Raise_call_subT (newId:=nid) (k5:=k5) (k3:=k3) (k2:=k2) (k1:=k1) (k0:=k0) (dd:=dd) (col:=col) (ab:=ab) (sub:=sub) (sn:=sn) (hdct:=hdct) (bs:=bs) (q:=q) (nm:=nm) (C:=C) (N:=Nn) (bm:=tl) FB (mN:=mN) (T.hasType FB.hasBase) (I.ok.hd rfl) (by rw[he];show(false || (backTo cpos (starEach es _)).any (·.1))=false;rw[hpl];rfl) hni (f7 I hg O.bound ⟨rfl,?_⟩ hd);rw[he];have ha':=ha cpos pins s σ H _ I h;rw[he]at ha';exact Calls.evalArgs_plain (ay ha' λus s1 ⟨vs,H1,I1,r,z,q⟩=>⟨rfl,by rw[←r.length];exact z,I1.bk _ _ hC,hN.keeps I1.bk,T.keeps I1.bk,λh' e hx=>AD (tk:=s1.toks) I1 (MadeX.of hx) q⟩)
end
def rg(a:Str)(te:TE):TE:=λσ H Q=>te σ H λv H1=>∃i:Int,v=.int i/\i.natAbs.log2<1920/\(Str.empty++a++(toString i:Str)).length<=sizeLine/\∀z,Q (.str z) H1
def wM{X:Cx}{a:Str}{j:Nat}{e:Expr}{te:TE}{p1 p2 pos:Pos}(he:PE X e te)(hz:(Str.empty++a).length<=sizeLine:=by decide +kernel):PE X (.JoinedStr [.Constant (.str a) j p1,.FormattedValue e (-1) none p2] pos) (rg a te):=by intro pins s σ H Q I h;refine JoinedStr_many (joinParts_cons (ay ((az:PE X (.Constant (.str a) j p1) (tC (.str a))) pins s σ H (λv H1=>v=V.str a/\H1=H) I ⟨rfl,rfl⟩) λv s1 ⟨x,H1,I1,r1,q1,q2⟩=>?_));subst q1 q2;obtain⟨t,rfl⟩:=r1;refine⟨hz,joinParts_cons (FormattedValue_plain (ay (he pins s1 σ H1 _ I1 h) λv s2 ⟨y,H2,I2,r2,i,e2,hl,hz2,q⟩=>?_))⟩;subst e2;obtain⟨t2,rfl⟩:=r2;refine formatField_int_small hl ⟨hz2,joinParts_nil ⟨.str _,H2,I2.tok _,⟨_,rfl⟩,q _⟩ hz2⟩
def lM{X:Cx}{pins:List (Addr×Obj)}{σ:St}{H:Hp}{s:Shared}{M:Model}{A:Around}{E:Value->Shared->Prop}{i:Nat}{x:Str}{pos:Pos}{Q:Unit->Shared->Prop}(I:Inv X pins σ H s)(hN:X.N.Nodup)(hi:X.N[i]?=some x)(hk:X.env.kindOf x=some .local)
  (h:∀s',Inv X pins (σ.set i none) H s'->Q () s'):wpAny M A (do bindName X.env x .none;unbindBehindTheSuite X.env x pos) Q E s:=by
 obtain⟨m,hn,hl⟩:=id I.loc;have hiσ:i<σ.length:=by rw[I.len];exact(FQ.mp hi).1
 have cne:=I.cne;refine wpAny_nameGoes_keeps hk hn (by rw[I.ok.kind];rfl) λh' v hn' hs=>?_;obtain⟨oL,_,_,hoL,_⟩:=id hn;have low:∀{b:Addr} {o:Obj},X.s₀.heap.get? b=some o->b≠X.env.locals:=λe=>F4 (Gg (FG e) I.ok.above);refine h _ ⟨I.ok,I.os,I.bare,⟨λb o e n hb hx=>(hs.2 b (low e)).trans (I.base.keep b o e n hb hx),λb o e n hb hx=>?_,I.base.free,λb o e hx=>?_,I.base.tups,I.base.frzs,I.base.tbls⟩,⟨_,hn',λj y v' e1 e2 e3=>?_⟩,λy c e=>?_,I.free,I.freeC,λp hp=>?_,λb ob e=>?_,by simpa using I.len⟩
 ·obtain⟨sl,e1⟩:=I.base.slot b o e n hb hx;exact⟨sl,(hs.2 b (low e)).trans e1⟩
 ·obtain⟨o',e1⟩:=I.base.there b o e hx;exact⟨o',(hs.2 b (low e)).trans e1⟩
 ·by_cases hj:j=i
  ·subst hj;rw[List.getElem?_set_self hiσ]at e2;cases e2
  ·rw[List.getElem?_set_ne (Ne.symm hj)]at e2;obtain⟨u',r',q⟩:=hl j y v' e1 e2 e3;refine⟨u',r',?_⟩;rcases q with⟨k,e⟩|⟨k,c,e,z⟩
   ·refine .inl ⟨k,?_⟩;have:y≠x:=λe=>hj (oj hN e1 (e ▸ hi));simp[this,e]
   ·exact .inr ⟨k,c,e,z.sameBut hs (cne y c e)⟩
 ·obtain⟨w',z⟩:=I.cell y c e;exact⟨w',z.sameBut hs (cne y c e)⟩
 ·obtain⟨e,n,ne,nf,d⟩:=I.pin p hp;exact⟨(hs.2 p.1 ne).trans e,n,ne,nf,d⟩
 ·refine(I.hok b ob e).stay (λc w' hc q=>(hs.2 c ?_).trans q) (λ_ q=>q) λ_ _ q=>q;rintro rfl;rcases hc with rfl|hc
  ·rw[I.free]at e;cases e
  ·rw[I.free]at hc;cases hc
section
def PB(Y:Cx)(st:Stmt)(t:Ends->(St->XK)->St->Hp->Prop):Prop:=
 ∀(pins:List (Addr×Obj)) (s:Shared) (σ:St) (H:Hp) (D:Ends) (E:St->XK),Inv Y.nox pins σ H s->t D E σ H →
  wpAny (model Y.prog Y.w) Y.A (exec st Y.env) (SP Y.nox pins D) (λe s'=>∃σ1 H1 s1,Inv Y.nox pins σ1 H1 s1/\bU Y.prog Y.w Y.stack H1 s1 (E σ1) e s') s
def ip(Y:Cx)(st:List Stmt)(t:Ends->(St->XK)->St->Hp->Prop):Prop:=
 ∀(pins:List (Addr×Obj)) (s:Shared) (σ:St) (H:Hp) (D:Ends) (E:St->XK),Inv Y.nox pins σ H s->t D E σ H →
  wpAny (model Y.prog Y.w) Y.A (execs st Y.env) (SP Y.nox pins D) (λe s'=>∃σ1 H1 s1,Inv Y.nox pins σ1 H1 s1/\bU Y.prog Y.w Y.stack H1 s1 (E σ1) e s') s
def xb:Ends->(St->XK)->St->Hp->Prop:=λD _ σ H=>D.nx σ H
def fZ{Y:Cx}:ip Y [] xb:=λ_ _ σ H _ _ I h=>wpAny_execs_nil ⟨σ,H,I,h⟩
def uq(t u:Ends->(St->XK)->St->Hp->Prop):Ends->(St->XK)->St->Hp->Prop:=λD E σ H=>t ⟨u D E,D.rt,D.bk,D.ct⟩ E σ H
def fI{Y:Cx}{st:Stmt}{rest:List Stmt}{t u:Ends->(St->XK)->St->Hp->Prop}(h1:PB Y st t)(h2:ip Y rest u):ip Y (st::rest) (uq t u):=by
 intro pins s σ H D E I h;refine wpAny_execs_cons (ay (h1 pins s σ H ⟨u D E,D.rt,D.bk,D.ct⟩ E I h) λf s1 q=>?_);cases f with
 | next=>
  obtain⟨σ',H',I',q⟩:=q;exact h2 pins s1 σ' H' D E I' q
 | brk=>exact q
 | cont=>exact q
 | ret v=>exact q
def yf(c:TT)(t u:Ends->(St->XK)->St->Hp->Prop):Ends->(St->XK)->St->Hp->Prop:=λD E σ H=>c σ H λb H1=>if b=true then t D E σ H1 else u D E σ H1
def lr{Y:Cx}{c:Expr}{a b:List Stmt}{tc:TT}{t u:Ends->(St->XK)->St->Hp->Prop}{pos:Pos}(hc:PT Y.nox c tc)(ha:ip Y a t)(hb:ip Y b u):PB Y (.If c a b pos) (yf tc t u):=by
 intro pins s σ H D E I h;refine wpAny_If (wpAny_mono (hc pins s σ H _ I h) (λk s1 ⟨H1,I1,q⟩=>?_) λ_ _ z=>z.elim);cases k with
 | true=>exact ha pins s1 σ H1 D E I1 (by simpa using q)
 | false=>exact hb pins s1 σ H1 D E I1 (by simpa using q)
def sv(sp:Sp)(t:TA):Ends->(St->XK)->St->Hp->Prop:=λD E σ H=>t σ H λvs H1=>sp vs H1 (λ_ H2=>D.nx σ H2) (E σ)
end
structure CalX(P:Program)(w:World)(K:FD)(mg:Str->Option Value)(base:Heap)(x:Str)(k:Nat)(ps:List Str)(sp:Sp):Prop where
 ex:∃(f:Addr) (fd:FuncData),mg x=some (.ref f)/\PySem.W.keepIn K (.ref f)=true/\Binds K fd ps []/\FnOk P w K mg base (bU P w) k f fd ps sp
def jl{Y:Cx}{x:Str}{k j:Nat}{ps:List Str}{sp:Sp}{e:Expr}{es:List Expr}{t:TA}{p pos pos2:Pos}(C:CalX Y.prog Y.w Y.K Y.mg Y.base x j ps sp)(hr:Room k Y.A)(ha:PA Y.nox (e::es) t)(hjk:j<=k:=by decide)(hg:Gl Y x:=by rfl)(hdb:(x == ("__debug__":Str))=false:=by decide)
  (he:starEach (e::es) Y.env=(false,eval e Y.env)::starEach es Y.env:=by rfl) (hpl:(backTo pos (starEach es Y.env)).any (·.1)=false:=by rfl) (hs:swapsWith (.Call (.Name x p) (e::es) [] pos) none pos2.line Y.env=pure false:=by rfl) :
  PB Y (.Expr (.Call (.Name x p) (e::es) [] pos) pos2) (sv sp t):=by
 intro pins s σ H D E I h;obtain⟨f,fd,hm,hk,hb,F⟩:=C.ex;refine wpAny_Expr_any (wpAny_Call_Name_kw (f7 (X:=Y.nox) I hg hm ?_ hdb)) I.quiet hs;refine PySem.W.callWith_K (h₀:=Y.base) I.ok.mod.kin hk (wpAny_mono (ha pos pins s σ H _ I h) (λus s1 ⟨vs,H1,I1,r,q⟩=>⟨I1.kIn,?_⟩) λ_ _ z=>z.elim) he hpl;have hl:us.length=ps.length:=by rw[←r.length];exact F.len _ _ _ _ q
 have hb':=hb s1 us I1.kIn (by rw[List.append_nil];exact hl);rw[List.append_nil]at hb';refine wpAny_call (codeAny_mono (F.run Y.A Y.stack s1 H1 ⟨us,[]⟩ us vs _ (E σ) (hr.mono hjk) I1.env0 hb' r q) λr s' hq=>?_);cases r with
 | error e=>exact⟨σ,H1,s1,I1,hq⟩
 | ok fl=>
  cases fl with
  | ret u=>
   obtain⟨v,H2,I2,_,q2⟩:=I1.after hq;exact⟨σ,H2,I2,q2⟩
  | next=>exact False.elim hq
  | brk=>exact False.elim hq
  | cont=>exact False.elim hq
def Fly.lands{P:Program}{w:World}{l:List Env}{H:Hp}{s:Shared}{x:Addr}{cls a0:Value}{H':Hp}{s':Shared}{B h5:Heap}{da:Option Addr}(F:Fly P w l H s x cls da H' s')(fl:Heap.FlyingW B l x cls a0 s'.heap)(f1:∀b o,s'.heap.get? b=some o->H' b≠none->B.get? b=some o)
  (f2:∀b o o',s.heap.get? b=some o->b∉aX l->s'.heap.get? b=some o'->B.get? b=some o') (fl5:Heap.FlyingW B l x cls a0 h5) (sm:s'.heap.UpToSlots h5):Un (aX l) [] H H' s.heap h5/\bf P w H' h5:=by
 have no:∀b:Addr,b∉([]:List Addr):=λb z=>by cases z
 have hff:=fl.2.2.1;have up:∀b∈aX l,∀o,s'.heap.get? b=some o->∃sl,h5.get? b=some { o with slots:=sl }:=λb hb o ho=>by obtain⟨_,o',ho',hd⟩:=hff.mem hb;rw[ho]at ho';cases ho';exact sm b o ho hd
 refine⟨⟨λb o q n hb _=>fl5.1 b o (f2 b o o q hb (F.un.keep b o q n hb (no b))),λb o q n hb _=>?_,F.un.free,λb o q _=>?_,F.un.tups,F.un.frzs,F.un.tbls⟩,λa o q=>?_⟩
 ·obtain⟨sl,e1⟩:=F.un.slot b o q n hb (no b);obtain⟨sl',e2⟩:=up b hb _ e1;exact⟨sl',e2⟩
 ·obtain⟨o2,e2⟩:=F.un.there b o q (no b);by_cases hb:b∈aX l
  ·obtain⟨sl,e3⟩:=up b hb _ e2;exact⟨_,e3⟩
  ·exact⟨_,fl5.1 b o2 (f2 b o o2 q hb e2)⟩
 ·refine(F.hok a o q).stay (λb u hb z=>fl5.1 b u (f1 b u z ?_)) (λ_ z=>z) λ_ _ z=>z;rcases hb with rfl|hb
  ·rw[q];intro z;cases z
  ·rw[hb];intro z;cases z
def xD(K:FD)(C:Addr)(i:Nat)(tb:Ends->(St->XK)->St->Hp->Prop)(ts:Addr->Addr->Option Addr->TS):TS:=λD σ H=>
 tb D (λσ1 cls da H1=>∃Dx,cls=.ref Dx/\PySem.W.exmOne K (.ref Dx) (.ref C)=some true/\ExcK K Dx/\∀x,H1 x=none →
  ts x Dx da ⟨λσ' H'=>D.nx (σ'.set i none) H',D.rt,λσ' H'=>D.bk (σ'.set i none) H',λσ' H'=>D.ct (σ'.set i none) H'⟩ (σ1.set i (some (.ref x))) H1) σ H
def DV{Y:Cx}{i:Nat}{c n:Str}{C:Addr}{body:List Stmt}{b0:Stmt}{suite:List Stmt}{np hpos pos:Pos}{tb:Ends->(St->XK)->St->Hp->Prop}{ts:Addr->Addr->Option Addr->TS}
  (hstk:Y.stack=Y.env::Y.outer) (hfrm:Y.env.frame=some Y.env.locals) (hN:Y.N.Nodup) (hi:Y.N[i]?=some n) (hk:Y.env.kindOf n=some .local) (hx:Y.env.scope.names.lookup n=some .local) (hm:Y.mg c=some (.ref C)) (hg:Gl Y c) (hd:(c == ("__debug__":Str))=false)
  (hb:ip Y body tb) (hs:∀(x:Addr) (oe:Obj) (Dx:Addr) (da:Option Addr),ExcK Y.K Dx->oe.cls=.ref Dx->(∃vs,oe.data=.fields vs/\vs[2]?=some .none)->(∀d,da=some d->oe.dict=some d)->b6 (bR Y x oe) (b0::suite) (ts x Dx da)) :
  PS Y.nox (.Try body [.ExceptHandler (some (.Name c np)) (some n) (b0::suite) hpos] [] [] pos) (xD Y.K C i tb ts):=by
 intro pins s σ H D I h;refine wpAny_Try_except (wpAny_mono (hb pins s σ H _ _ I h) (λf s1 q=>?_) λe s1 q=>?_)
 ·cases f with
  | next=>exact wpAny_execs_nil q
  | brk=>exact q
  | cont=>exact q
  | ret v=>exact q
 obtain⟨σ1,H1,s2,I1,x,cls,da,H',rfl,⟨Dx,rfl,hex,hK,hts⟩,F⟩:=q;obtain⟨B,a0,fl,f1,f2⟩:=F.fly;have ok:Y.nox.Ok:=I1.ok;have hfr:Y.A.frames=some (Y.env::Y.outer):=by rw[←hstk];exact ok.frames
 have fl':Heap.FlyingW B (Y.env::Y.outer) x (.ref Dx) a0 s1.heap:=by rw[←hstk];exact fl
 refine xK hfr hfrm fl' F.alone λh4 hd4 sm4 al4=>xH (s:={ s1 with heap:=h4 }) hd4 al4 λh5 fl5 sm5 al5=>?_;have sm45:s1.heap.UpToSlots h5:=sm4.trans sm5;have lnd:∀h6,Heap.FlyingW B (Y.env::Y.outer) x (.ref Dx) a0 h6->s1.heap.UpToSlots h6->∀g tk dr,g=s1.gens->Inv Y.nox pins σ1 H' ⟨h6,g,dr,tk,s1.os⟩:=λh6 fl6 sm6 g tk dr eg=>by obtain⟨un,hok⟩:=F.lands fl f1 f2 (by rw[hstk];exact fl6) sm6;exact I1.call' (s':=⟨h6,g,dr,tk,s1.os⟩) F.os un hok (by rw[eg];exact F.bare) (λb z=>by cases z)
 have I5:=lnd h5 fl5 sm45 s1.gens s1.toks s1.drawn rfl;have ty5:PySem.W.Looks (model Y.prog Y.w) h5 (typeOf (.ref x)) (.ref Dx):=by obtain⟨ob,hob,hc⟩:=fl5.there;exact InstC.type ⟨hob,hc⟩
 refine wpAny_handleBy_cons (codeAny_handlers_test ?_) (by intro q;cases q);refine f7 (X:=qF Y.nox x) (I5.marked x) hg hm ?_ hd;refine(PySem.W.exm_one (M:=model Y.prog Y.w) I5.kIn ty5 hex).here ?_;dsimp only;rw[GH rfl];refine codeAny_handlers_suite_as (Cc (s:={ s1 with heap:=h5 }) fl5 al5 λh6 fl6 sm6 al6=>?_);have I6:=lnd h6 fl6 (sm45.trans sm6) s1.gens s1.toks s1.drawn rfl;obtain⟨oe,vs,he,hc,hdt,_⟩:=fl6.first;have nfr:x∉aX (Y.env::Y.outer):=λhm'=>by obtain⟨_,o,ho,hnf⟩:=fl6.2.2.1.mem hm';rw[he]at ho;cases ho;exact hnf vs hdt
 have I7:=I6.pinH (x:=x) he F.new (λz=>nfr (uo (env:=Y.env) FO (by rw[hfrm,z]))) (λz=>nfr (by show x∈List.filterMap _ _;rw[List.filterMap_cons,hfrm];exact FK _ z)) (λv z=>by rw[hdt]at z;cases z);refine iC (X:=bR Y.nox x oe) (v:=.ref x) I7 hN hi (.inl hx) rfl (λs8 I8=>?_) (.inr hx);refine wpAny_mono (hs x oe Dx da hK hc (by obtain⟨o',vs',x1,x2,x3,_⟩:=al6;rw[he]at x1;cases x1;exact⟨vs',x2,x3⟩) (by obtain⟨o',vs',x1,_,_,x4⟩:=al6;rw[he]at x1;cases x1;exact x4) pins s8 _ H' _ I8 (hts x F.new)) (λf s9 q=>?_) λ_ _ z=>z.elim;cases f with
 | next=>
  obtain⟨σ',H9,I9,q⟩:=q;exact lM (X:=Y.nox) (Inv.unpinH ok I9) hN hi hk λs10 I10=>⟨_,H9,I10,q⟩
 | brk=>
  obtain⟨σ',H9,I9,q⟩:=q;exact lM (X:=Y.nox) (Inv.unpinH ok I9) hN hi hk λs10 I10=>⟨_,H9,I10,q⟩
 | cont=>
  obtain⟨σ',H9,I9,q⟩:=q;exact lM (X:=Y.nox) (Inv.unpinH ok I9) hN hi hk λs10 I10=>⟨_,H9,I10,q⟩
 | ret u=>
  obtain⟨v,σ',H9,I9,rv,q⟩:=q;exact lM (X:=Y.nox) (Inv.unpinH ok I9) hN hi hk λs10 I10=>⟨v,_,H9,I10,rv,q⟩
def Dfn.okX{P:Program}{w:World}{K:FD}{mg:Str->Option Value}{base:Heap}{x:Str}{st:Stmt}{N ps:List Str}{k:Nat}{sp:Sp}(D:Dfn K mg x st ps)(S:FnScope N ps (aA st))(len:∀vs H Q E,sp vs H Q E->vs.length=ps.length)
  (hbody:∀(f:Addr) (cdv:Value) (A:Around) (outer:List Env) (s:Shared) (H:Hp) (vs:List V) (Q:VK) (E:XK),Room k (A.deeper (envOfC x (aA st) s.heap.objs.size f cdv))->sp vs H Q E →
   ∃t,b6 (bx (bU P w) P w K mg base N x (aA st) f cdv A outer s H E) (dy st) t/\t { nx:=λ_ H'=>Q .non H',rt:=Q } (start N vs) H):CalX P w K mg base x (k+1) ps sp:=by
 obtain⟨f,fd,hm,F,hb⟩:=D.ex;obtain⟨oc,od,kV,doc,pm,an,cdv,ct,osl,rfl,lk,hcd⟩:=F.ex;exact⟨f,_,hm,F.kp,hb,lG lk hcd S len λA outer s H vs Q E hr h=>hbody f cdv A outer s H vs Q E hr h⟩
section
variable {P:Program} {w:World} {K:FD} {mg:Str->Option Value} {base:Heap} {N:List Str} {qual:Str} {scope:Scope} {f:Addr} {cd:Value} {A:Around} {outer:List Env} {s₀:Shared} {H₀:Hp} {E:XK}
def iN{x:Str}{k j:Nat}{ps:List Str}{sp:Sp}{e:Expr}{es:List Expr}{t:TA}{p pos:Pos}(C:CalX P w K mg base x j ps sp)(hr:Room k (bx (bU P w) P w K mg base N qual scope f cd A outer s₀ H₀ E).A)
  (ha:PA (bx (bU P w) P w K mg base N qual scope f cd A outer s₀ H₀ E) (e::es) t) (hjk:j<=k:=by decide) (hg:Gl (bx (bU P w) P w K mg base N qual scope f cd A outer s₀ H₀ E) x:=by rfl) (hdb:(x == ("__debug__":Str))=false:=by decide)
  (he:starEach (e::es) (bx (bU P w) P w K mg base N qual scope f cd A outer s₀ H₀ E).env=(false,eval e (bx (bU P w) P w K mg base N qual scope f cd A outer s₀ H₀ E).env)::starEach es (bx (bU P w) P w K mg base N qual scope f cd A outer s₀ H₀ E).env:=by rfl)
  (hpl:(backTo pos (starEach es (bx (bU P w) P w K mg base N qual scope f cd A outer s₀ H₀ E).env)).any (·.1)=false:=by rfl) :
  PE (bx (bU P w) P w K mg base N qual scope f cd A outer s₀ H₀ E) (.Call (.Name x p) (e::es) [] pos) (iH sp [] E t):=by
 obtain⟨f',fd,hm,hk,hb,F⟩:=C.ex;exact xc F (hr.mono hjk) hg hm hk hb .nil (Az λ_ _ _ h=>h) ha hdb he hpl
end
abbrev me:List Value:=[.type "ValueError",.type "Exception",.type "BaseException",.type "object"]
def cA(K:FD)(x:Str):Addr:=match PySem.W.nsIn K mainGlobals x with
 | some (some (.ref C))=>C
 | _=>0
def oE(K:FD)(x:Str):Bool:=
 PySem.W.excIn K (cA K x) me "ValueError.__new__" && (match K.lookup (cA K x)with|some ⟨_,_,.cls _,_⟩=>true|_=>false) && PySem.W.findIn K (.ref (cA K x)) "__getattribute__" == some (some (.builtin "BaseException.__getattribute__")) &&
 PySem.W.findIn K (.ref (cA K x)) "__getattr__" == some none && PySem.W.subIn K (.ref (cA K x)) (.type "BaseException") == some true && PySem.W.findIn K (.ref (cA K x)) "__class__" == some (some (.builtin "object.__class__")) &&
 PySem.W.specialIn K (.builtin "object.__class__") "__get__" == some (some (.builtin "getset_descriptor.__get__")) && PySem.W.takesIn K (.builtin "object.__class__") == some true && PySem.W.mroIn K (cA K x) (.type "object") == some true
structure Xf(K:FD)(mg:Str->Option Value)(base:Heap)(all raised:List Str):Prop where
 cl:∀x∈all,mg x=some (.ref (cA K x))
 own:∀x∈raised,OwnCls x (cA K x) me "ValueError.__new__" mg base
 exk:∀x∈raised,ExcK K (cA K x)
 up:∀x∈raised,PySem.W.exmOne K (.ref (cA K x)) (.ref (cA K "StairError"))=some true
 kv:∀x∈raised,PySem.W.kitOne K (.ref (cA K x)) (.type "ValueError")=some true
 kc:∀x∈raised,∀y∈all,PySem.W.kitOne K (.ref (cA K x)) (.ref (cA K y))=some (x == y || y == ("StairError":Str))
def mJ(K:FD)(all raised:List Str):Bool:=
 all.all (λx=>PySem.W.nsIn K mainGlobals x == some (some (.ref (cA K x)))) && raised.all (λx=>all.contains x && oE K x && PySem.W.exmOne K (.ref (cA K x)) (.ref (cA K "StairError")) == some true && PySem.W.kitOne K (.ref (cA K x)) (.type "ValueError") == some true &&
  all.all λy=>PySem.W.kitOne K (.ref (cA K x)) (.ref (cA K y)) == some (x == y || y == ("StairError":Str)))
def yP{K:FD}{mg:Str->Option Value}{base:Heap}{all raised:List Str}(X:K.In base)(G:base.Ns mainGlobals mg)(h:mJ K all raised=true):Xf K mg base all raised:=by
 unfold mJ at h;rw[Gn,Gj,Gj]at h;obtain⟨h1,h2⟩:=h;have n1:∀x∈all,PySem.W.nsIn K mainGlobals x=some (some (.ref (cA K x))):=λx hx=>eq_of_beq (h1 x hx);have h3:∀x∈raised,((((x∈all/\oE K x=true)/\PySem.W.exmOne K (.ref (cA K x)) (.ref (cA K "StairError"))=some true)/\PySem.W.kitOne K (.ref (cA K x)) (.type "ValueError")=some true)/\∀y∈all,PySem.W.kitOne K (.ref (cA K x)) (.ref (cA K y))=some (x == y || y == ("StairError":Str))):=λx hx=>by have:=h2 x hx;simp only[Gn,beq_iff_eq,List.contains_iff_mem,Gj]at this;exact this
 have e1:∀x∈raised,PySem.W.excIn K (cA K x) me "ValueError.__new__" = true/\ExcK K (cA K x):=λx hx=>by
  have:=(h3 x hx).1.1.1.2;unfold oE at this;simp only[Gn,beq_iff_eq]at this;obtain⟨⟨⟨⟨⟨⟨⟨⟨a1,a2⟩,a3⟩,a4⟩,a5⟩,a6⟩,a7⟩,a8⟩,a9⟩:=this;refine⟨a1,?_,a3,a4,a5,a6,a7,a8,a9⟩;cases hl:K.lookup (cA K x)with
  | none=>rw[hl]at a2;cases a2
  | some o=>
   rw[hl]at a2;obtain⟨c,d,data,sl⟩:=o;cases data<;>first|exact ⟨_,_,_,_,rfl⟩|cases a2
 exact⟨λx hx=>PySem.W.mg_of X G (n1 x hx),λx hx=>DR X G (n1 x (h3 x hx).1.1.1.1) (e1 x hx).1,λx hx=>(e1 x hx).2,λx hx=>(h3 x hx).1.1.2,λx hx=>(h3 x hx).1.2,λx hx=>(h3 x hx).2⟩
def jA{K:FD}{t:Value}:∀{Cs:List Addr},(∀C∈Cs,PySem.W.kitOne K t (.ref C)=some false)->PySem.W.kitAny K t (Cs.map Value.ref)=some false
 | [],_=>rfl
 | C::Cs,h=>by show(match PySem.W.kitOne K t (.ref C)with|some true=>some true|some false=>PySem.W.kitAny K t (Cs.map Value.ref)|none=>none)=some false;rw[h C FO];exact jA λD hD=>h D (FK _ hD)
section
variable {K:FD} {D:Ends} {σ:St} {H:Hp} {Q:VK} {E:XK} {C x:Addr}
def rd_raise{t:TA}{cls:Value}(h:t σ H λvs H1=>vs.length<=sizeLine/\E cls none H1):wX cls E t D σ H:=h
def rd_fs{a:Str}{te:TE}(h:te σ H λv H1=>∃i:Int,v=.int i/\i.natAbs.log2<1920/\(Str.empty++a++(toString i:Str)).length<=sizeLine/\∀z,Q (.str z) H1):rg a te σ H Q:=h
def cc{C':Addr}{b:Bool}(hk:PySem.W.kitOne K (.ref C) (.ref C')=some b)(h:Q (.bl b) H):kM K x C [.ref x,.ref C'] H Q:=⟨b,.inl ⟨C',rfl,hk⟩,h⟩
def lI{T:String}{b:Bool}(hk:PySem.W.kitOne K (.ref C) (.type T)=some b)(h:Q (.bl b) H):kM K x C [.ref x,.ty T] H Q:=⟨b,.inr (.inl ⟨T,rfl,hk⟩),h⟩
def lL{p:Addr}{Cs:List Addr}{b:Bool}(ht:H p=some (.tup (Cs.map V.ref)))(hk:PySem.W.kitAny K (.ref C) (Cs.map Value.ref)=some b)(h:Q (.bl b) H):kM K x C [.ref x,.ref p] H Q:=⟨b,.inr (.inr ⟨p,Cs,rfl,ht,hk⟩),h⟩
end
def CalX.cal{P:Program}{w:World}{K:FD}{mg:Str->Option Value}{base:Heap}{x:Str}{k:Nat}{ps:List Str}{sp:Sp}(C:CalX P w K mg base x k ps sp):Cal P w K mg base x k ps (λvs H Q _=>sp vs H Q E0):=by
 obtain⟨f,fd,hm,hk,hb,F⟩:=C.ex;refine⟨f,fd,hm,hk,hb,λvs H Q E h=>F.len vs H Q E0 h,λA outer s H args us vs Q E hr he hbt hv hs=>codeAny_mono (F.run A outer s H args us vs Q E0 hr he hbt hv hs) λr s' hq=>?_⟩;cases r with
 | error e=>
  obtain⟨_,_,_,_,_,hE,_⟩:=hq;exact hE.elim
 | ok fl=>cases fl<;>exact hq
section
variable {K:FD} {D:Ends} {σ:St} {H:Hp} {E:St->XK} {C:Addr} {i:Nat} {t u tb:Ends->(St->XK)->St->Hp->Prop} {ts:Addr->Addr->Option Addr->TS} {c:TT}
def rd_bseq(h:t ⟨u D E,D.rt,D.bk,D.ct⟩ E σ H):uq t u D E σ H:=h
def rd_bnext(h:D.nx σ H):xb D E σ H:=h
def rd_bif(h:c σ H λb H1=>if b=true then t D E σ H1 else u D E σ H1):yf c t u D E σ H:=h
def rd_bcall{sp:Sp}{a:TA}(h:a σ H λvs H1=>sp vs H1 (λ_ H2=>D.nx σ H2) (E σ)):sv sp a D E σ H:=h
end
end L2
namespace Tb
open PySem
def nx(m i:Nat):Nat:=(i*5+1) % (m+1)
def it(m:Nat):Nat->Nat->Nat
 | 0,i=>i
 | n+1,i=>it m n (nx m i)
def hV(m:Nat):∀a b i,it m (a+b) i=it m b (it m a i)
 | 0,b,i=>by rw[Nat.zero_add];rfl
 | a+1,b,i=>by rw[Nat.succ_add];exact hV m a b (nx m i)
def Aq(m n i:Nat):it m (n+1) i=nx m (it m n i):=by rw[hV m n 1 i];rfl
def oQ(m:Nat):Nat->Nat->List Nat
 | 0,_=>[]
 | n+1,i=>i::oQ m n (nx m i)
def wj{m:Nat}:∀{n i j:Nat},j∈oQ m n i->∃k,k<n/\it m k i=j
 | 0,_,_,h=>by cases h
 | n+1,i,j,h=>by
  rcases FX.mp h with rfl|h
  ·exact⟨0,Nat.succ_pos _,rfl⟩
  ·obtain⟨k,hk,e⟩:=wj h;exact⟨k+1,Nat.succ_lt_succ hk,e⟩
def good(m:Nat):Bool:=(GC (m+1)).all (λj=>(oQ m (m+1) 0).contains j) && it m (m+1) 0 == 0
def BG:good 7=true:=by decide +kernel
def Ap:good 31=true:=by decide +kernel
def zi:good 127=true:=by decide +kernel
def Bd:good 511=true:=by decide +kernel
def Full(N:Nat):Prop:=(∀j,j<N->∃k,k<N/\it (N-1) k 0=j)/\it (N-1) N 0=0
def kY{m:Nat}(h:good m=true):Full (m+1):=by unfold Tb.good at h;rw[Gn,Gj]at h;refine⟨λj hj=>?_,eq_of_beq h.2⟩;have h1:=h.1 j (List.mem_range.mpr hj);rw[List.contains_iff_mem]at h1;exact wj h1
def co:Nat->Nat
 | 0=>0
 | n+1=>5*co n+1
def wH(m:Nat):∀n i,it m n i % (m+1)=(5 ^ n*i+co n) % (m+1)
 | 0,i=>by simp[it,co]
 | n+1,i=>by
  rw[Aq];unfold nx;rw[Nat.mod_mod,Nat.add_mod,Nat.mul_mod,wH m n i,←Nat.mul_mod,←Nat.add_mod];congr 1;show(5 ^ n*i+co n)*5+1=5 ^ (n+1)*i+(5*co n+1);rw[Nat.pow_succ,Nat.add_mul];have:5 ^ n*i*5=5 ^ n*5*i:=by rw[Nat.mul_assoc,Nat.mul_comm i 5,Nat.mul_assoc]
  omega
def ou(m:Nat):∀n i,i<=m->it m n i<=m
 | 0,i,h=>h
 | n+1,i,h=>by refine ou m n _ ?_;unfold nx;have:=Nat.mod_lt (i*5+1) (show 0<m+1 by omega);omega
def w6{m n i:Nat}(h:i<=m):it m n i=(5 ^ n*i+co n) % (m+1):=by rw[←wH,Nat.mod_eq_of_lt (Nat.lt_succ_of_le (ou m n i h))]
def zE(n:Nat):5 ^ n % 2=1:=by
 induction n with
 | zero=>rfl
 | succ n ih=>rw[Nat.pow_succ,Nat.mul_mod,ih]
def uE:∀n,4*co n+1=5 ^ n
 | 0=>rfl
 | n+1=>by have:=uE n;show 4*(5*co n+1)+1=5 ^ (n+1);rw[Nat.pow_succ];omega
def zx{a N:Nat}(h:a % 2=1)(r:Nat):(a*N+r) % (2*N)=(N+r) % (2*N):=by
 obtain⟨c,rfl⟩:∃c,a=2*c+1:=⟨a / 2,by omega⟩;have:(2*c+1)*N+r=(N+r)+2*N*c:=by rw[Nat.add_mul,Nat.one_mul,Nat.mul_assoc,Nat.mul_comm c N,←Nat.mul_assoc];omega
 rw[this,Nat.add_mul_mod_self_left]
def two{x N:Nat}(h:x<2*N)(hN:0<N):x=x % N\/x=N+x % N:=by
 rcases Gw x N with a|a
 ·exact .inl (Nat.mod_eq_of_lt a).symm
 ·refine .inr ?_;rw[Nat.mod_eq_sub_mod a,Nat.mod_eq_of_lt (by omega)];omega
def Full.double{N:Nat}(hN:0<N)(h:Full N)(hc:co N % (2*N)=N):Full (2*N):=by
 obtain⟨h1,h2⟩:=h;have hm:2*N-1+1=2*N:=by omega
 have hm1:N-1+1=N:=by omega
 have val:∀n i,i<=2*N-1->it (2*N-1) n i=(5 ^ n*i+co n) % (2*N):=λn i hi=>by rw[w6 hi,hm]
 have eN:it (2*N-1) N 0=N:=by rw[val N 0 (by omega),Nat.mul_zero,Nat.zero_add,hc]
 have up:∀k,it (2*N-1) (N+k) 0=(N+it (2*N-1) k 0) % (2*N):=λk=>by rw[hV,eN,val k N (by omega),val k 0 (by omega),Nat.mul_zero,Nat.zero_add,zx (zE k)];rw[Nat.add_mod_mod]
 refine⟨λj hj=>?_,?_⟩
 ·obtain⟨k,hk,ek⟩:=h1 (j % N) (Nat.mod_lt _ hN);have e1:it (2*N-1) k 0 % N=j % N:=by rw[val k 0 (by omega),Nat.mul_zero,Nat.zero_add,Nat.mod_mul_left_mod,←ek,w6 (Nat.zero_le _),hm1,Nat.mul_zero,Nat.zero_add]
  have e2:it (2*N-1) k 0<2*N:=by have:=ou (2*N-1) k 0 (Nat.zero_le _);omega
  by_cases e:it (2*N-1) k 0=j
  ·exact⟨k,by omega,e⟩
  ·refine⟨N+k,by omega,?_⟩;rw[up k];have t1:=two hj hN;have t2:=two e2 hN;rw[e1]at t2;generalize it (2*N-1) k 0=x at *;generalize j % N=r at *;rcases t1 with a|a<;>rcases t2 with b|b
   ·omega
   ·have:N+x=j+2*N:=by omega
    rw[this,Nat.add_mod_right,Nat.mod_eq_of_lt hj]
   ·have:N+x=j:=by omega
    rw[this,Nat.mod_eq_of_lt hj]
   ·omega
 ·rw[show 2*N=N+N by omega,show N+N-1=2*N-1 by omega,up N,eN,show N+N=2*N by omega,Nat.mod_self]
def jV{N c:Nat}(h:4*c+1=5 ^ N):co N=c:=by have:=uE N;omega
def zW:Full 8:=kY BG
def AV:Full 32:=kY Ap
def BL:Full 128:=kY zi
def xJ:Full 512:=kY Bd
def DS:co 512 % (2*512)=512:=by rw[jV (c:=(5 ^ 512-1) / 4) (by decide +kernel)];decide +kernel
def AJ:co 1024 % (2*1024)=1024:=by rw[jV (c:=(5 ^ 1024-1) / 4) (by decide +kernel)];decide +kernel
def zA:co 2048 % (2*2048)=2048:=by rw[jV (c:=(5 ^ 2048-1) / 4) (by decide +kernel)];decide +kernel
def BN:co 4096 % (2*4096)=4096:=by rw[jV (c:=(5 ^ 4096-1) / 4) (by decide +kernel)];decide +kernel
def ya:Full 2048:=Full.double (N:=1024) (by decide) (xJ.double (by decide) DS) AJ
def E5:Full 8192:=Full.double (N:=4096) (by decide) (ya.double (by decide) zA) BN
def Mask(m:Nat):Prop:=m=7\/m=31\/m=127\/m=511\/m=2047\/m=8191
def Mask.full{m:Nat}(h:Mask m):Full (m+1):=by
 rcases h with rfl|rfl|rfl|rfl|rfl|rfl
 ·exact zW
 ·exact AV
 ·exact BL
 ·exact xJ
 ·exact ya
 ·exact E5
def rf{m:Nat}(h:Mask m){j:Nat}(hj:j<=m):∃k,k<=m/\it m k 0=j:=by obtain⟨k,hk,e⟩:=h.full.1 j (by omega);exact⟨k,by omega,e⟩
def round0{m:Nat}(h:Mask m):it m (m+1) 0=0:=h.full.2
def reach{m:Nat}(h:Mask m){i j:Nat}(hi:i<=m)(hj:j<=m):∃k,k<=m/\it m k i=j:=by
 obtain⟨a,ha,ea⟩:=rf h hi;obtain⟨b,hb,eb⟩:=rf h hj;rcases Gw b a with hlt|hge
 ·refine⟨m+1-a+b,by omega,?_⟩;rw[←ea,←hV,show a+(m+1-a+b)=(m+1)+b by omega,hV,round0 h];exact eb
 ·refine⟨b-a,by omega,?_⟩;rw[←ea,←hV,show a+(b-a)=b by omega];exact eb
def lp(m:Nat):Nat->Nat×Nat->Nat×Nat
 | 0,s=>s
 | n+1,s=>lp m n (SetTable.leap m s.1 s.2)
def ny(m:Nat):∀n s,lp m (n+1) s=SetTable.leap m (lp m n s).1 (lp m n s).2
 | 0,s=>rfl
 | n+1,s=>by show lp m (n+1) (SetTable.leap m s.1 s.2)=_;rw[ny m n];rfl
def wa(m:Nat):∀n s,(lp m n s).2=s.2 / 32 ^ n
 | 0,s=>by simp[lp]
 | n+1,s=>by rw[ny m n s];show(lp m n s).2 / 32=_;rw[wa m n s,Nat.div_div_eq_div_mul,Nat.pow_succ]
def ye(m:Nat):∀n s,s.1<=m->(lp m n s).1<=m
 | 0,s,h=>h
 | n+1,s,h=>by rw[ny m n s];show(_ % (m+1))<=m;have:=Nat.mod_lt ((lp m n s).1*5+1+(lp m n s).2 / 32) (show 0<m+1 by omega);omega
def rP(m:Nat):∀n i,(lp m n (i,0)).1=it m n i
 | 0,i=>rfl
 | n+1,i=>by show(lp m n (SetTable.leap m i 0)).1=it m n (nx m i);have:SetTable.leap m i 0=(nx m i,0):=rfl;rw[this];exact rP m n _
def u9(m:Nat):∀a b s,lp m (a+b) s=lp m b (lp m a s)
 | 0,b,s=>by rw[Nat.zero_add];rfl
 | a+1,b,s=>by rw[Nat.succ_add];exact u9 m a b _
def qX{m:Nat}(h:Mask m){i p j:Nat}(hi:i<=m)(hp:p<2 ^ 64)(hj:j<=m):∃n,n<=m+13/\(lp m n (i,p)).1=j:=by
 have hz:(lp m 13 (i,p)).2=0:=by rw[wa];exact Nat.div_eq_of_lt (Gg hp (by decide))
 obtain⟨k,hk,e⟩:=reach h (ye m 13 (i,p) hi) hj;refine⟨13+k,by omega,?_⟩;rw[u9];have:lp m 13 (i,p)=((lp m 13 (i,p)).1,0):=by rw[←hz]
 rw[this,rP];exact e
def xZ(h:Int):SetTable.bits h<2 ^ 64:=by unfold SetTable.bits;have h1:=Int.emod_lt_of_pos h (show(0:Int)<2 ^ 64 by decide);have h2:=Int.emod_nonneg h (show(2:Int) ^ 64≠0 by decide);omega
def aK(t:SetTable):Nat->SetTable.Probe->SetTable.Probe
 | 0,p=>p
 | n+1,p=>aK t n (t.advance p)
def gK(t:SetTable):∀a b p,aK t (a+b) p=aK t b (aK t a p)
 | 0,b,p=>by rw[Nat.zero_add];rfl
 | a+1,b,p=>by rw[Nat.succ_add];exact gK t a b _
def at_(t:SetTable)(s:Nat×Nat):SetTable.Probe:={ j:=s.1,more:=SetTable.runEnd t.mask s.1-s.1,i:=s.1,perturb:=s.2,dummy:=none }
def mY(t:SetTable):∀(r:Nat) (p:SetTable.Probe),p.more=r->aK t (r+1) p={ p with j:=(SetTable.leap t.mask p.i p.perturb).1,more:=SetTable.runEnd t.mask (SetTable.leap t.mask p.i p.perturb).1-(SetTable.leap t.mask p.i p.perturb).1,i:=(SetTable.leap t.mask p.i p.perturb).1,perturb:=(SetTable.leap t.mask p.i p.perturb).2 }
 | 0,p,h=>by show t.advance p=_;unfold SetTable.advance;rw[GG (by omega)]
 | r+1,p,h=>by
  show aK t (r+1) (t.advance p)=_;have e:t.advance p={ p with j:=p.j+1,more:=p.more-1 }:=by unfold SetTable.advance;rw[GH (by omega)]
  rw[e,mY t r _ (by show p.more-1=r;omega)]
def Be(t:SetTable)(s:Nat×Nat):∃k,k<=10/\aK t k (at_ t s)=at_ t (SetTable.leap t.mask s.1 s.2):=by
 refine⟨SetTable.runEnd t.mask s.1-s.1+1,?_,?_⟩
 ·unfold SetTable.runEnd;split<;>omega
 ·exact(mY t (SetTable.runEnd t.mask s.1-s.1) (at_ t s) rfl).trans rfl
def yt(t:SetTable):∀(n:Nat) (s:Nat×Nat),∃k,k<=10*n/\aK t k (at_ t s)=at_ t (lp t.mask n s)
 | 0,s=>⟨0,F5 _,rfl⟩
 | n+1,s=>by obtain⟨k1,h1,e1⟩:=Be t s;obtain⟨k2,h2,e2⟩:=yt t n (SetTable.leap t.mask s.1 s.2);refine⟨k1+k2,by omega,?_⟩;rw[gK,e1,e2];rfl
def Ez(t:SetTable)(h:Int):t.probeStart h=at_ t (SetTable.bits h % (t.mask+1),SetTable.bits h):=rfl
def Ay{t:SetTable}(hm:Mask t.mask){j:Nat}(hj:j<=t.mask)(h:Int):∃K,K<10*SetTable.turns t.mask/\(aK t K (t.probeStart h)).j=j:=by
 have h1:SetTable.bits h % (t.mask+1)<=t.mask:=by have:=Nat.mod_lt (SetTable.bits h) (show 0<t.mask+1 by omega);omega
 obtain⟨n,hn,e⟩:=qX hm h1 (xZ h) hj;obtain⟨K,hK,eK⟩:=yt t n (SetTable.bits h % (t.mask+1),SetTable.bits h);refine⟨K,by unfold SetTable.turns;omega,?_⟩;rw[Ez,eK];exact e
def kK{t:SetTable}{j i:Nat}(h:t.slot j=.live i):t.place[i]?=some j:=by
 unfold SetTable.slot at h;dsimp only at h;split at h
 ·rename_i hq;cases h;exact eq_of_beq hq
 ·split at h<;>cases h
def uh(j:Nat):SetTable.has #[] j=false:=rfl
def qK{t:SetTable}(hd:t.dummies = #[])(j:Nat):t.slot j=.empty\/∃i,t.slot j=.live i:=by
 unfold SetTable.slot;dsimp only;split
 ·exact .inr ⟨_,rfl⟩
 ·rw[hd,uh];exact .inl rfl
def yq:∀(n:Nat) (l:List Nat),(∀j,j<n->j∈l)->n<=l.length
 | 0,l,_=>Nat.zero_le _
 | n+1,l,h=>by have hn:=h n (Nat.lt_succ_self n);have:=yq n (l.erase n) λj hj=>(List.mem_erase_of_ne (by omega)).mpr (h j (by omega));rw[List.length_erase_of_mem hn]at this;have:0<l.length:=List.length_pos_of_mem hn;omega
def EV{t:SetTable}(hd:t.dummies = #[])(h:t.place.size<=t.mask):∃j,j<=t.mask/\t.slot j=.empty:=by
 rcases Classical.em (∃j,j<=t.mask/\t.slot j=.empty)with h1|h1
 ·exact h1
 ·exfalso;have:=yq (t.mask+1) t.place.toList λj hj=>by
   rcases qK hd j with h2|⟨i,h2⟩
   ·exact absurd ⟨j,by omega,h2⟩ h1
   ·have:=kK h2;rw[←Array.getElem?_toList]at this;exact FR this
  rw[FL]at this;omega
def jM(t:SetTable):∀n p,(aK t n p).dummy=p.dummy
 | 0,p=>rfl
 | n+1,p=>by show(aK t n (t.advance p)).dummy=_;rw[jM t n];unfold SetTable.advance;split<;>rfl
def xw{α:Type}:∀{l:List (Option α)} {j:Nat} {k:α},l[j]?=some none->((l.set j (some k)).filterMap id).Perm (k::l.filterMap id)
 | [],j,k,h=>by cases h
 | x::l,0,k,h=>by
  have:x=none:=by simpa using h
  subst this;exact .refl _
 | x::l,j+1,k,h=>by
  have h':l[j]?=some none:=by simpa using h
  have ih:=xw (k:=k) h';cases x with
  | none=>exact ih
  | some y=>exact(List.Perm.cons y ih).trans (.swap _ _ _)
def Fi{α:Type}(l:List (Option α)):(l.filterMap id).length+(l.filter (·.isNone)).length=l.length:=by
 induction l with
 | nil=>rfl
 | cons x l ih=>
  cases x<;>simp at ih ⊢<;>omega
def Bf{m:Nat}(hm:Mask m)(owner:Array (Option Nat))(hz:owner.size=m+1){j:Nat}(hj:owner[j]?=some none):∀(fuel n i p:Nat),i<=m->n<fuel->(lp m n (i,p)).1=j →
  ∃j',SetTable.layClean.free m owner fuel i p=some j'/\owner[j']?=some none:=by
 intro fuel;induction fuel with
 | zero=>intro n i p _ h;omega
 | succ fuel ih=>
  intro n i p hi hn he;unfold SetTable.layClean.free;split
  ·rename_i k hk;have h1:=List.find?_some hk;have h2:=List.mem_range.mp (List.mem_of_find?_eq_some hk);refine⟨i+k,rfl,?_⟩;have hb:i+k<owner.size:=by rw[hz];unfold SetTable.runEnd at h2;split at h2<;>omega
   rw[Array.getElem?_eq_getElem hb];have:owner.getD (i+k) (some 0)=owner[i+k]:=by rw[Array.getD_eq_getD_getElem?,Array.getElem?_eq_getElem hb];rfl
   rw[this]at h1;congr 1;cases hq:owner[i+k]with
   | none=>rfl
   | some y=>rw[hq]at h1;cases h1
  ·rename_i hk;cases n with
   | zero=>
    exfalso;have h0:i=j:=he;have:=List.find?_eq_none.mp hk 0 (List.mem_range.mpr (by unfold SetTable.runEnd;split<;>omega));rw[Nat.add_zero,h0,Array.getD_eq_getD_getElem?,hj]at this;simp at this
   | succ n=>
    have:=ye m 1 (i,p) hi;exact ih n (SetTable.leap m i p).1 (SetTable.leap m i p).2 this (by omega) he
def jX(mask:Nat)(acc:Option (Array (Option Nat)×Nat))(h:Int):Option (Array (Option Nat)×Nat):=do
 let (owner,k) ←acc;let j ←SetTable.layClean.free mask owner (SetTable.turns mask) (SetTable.bits h % (mask+1)) (SetTable.bits h)
 pure (owner.setIfInBounds j (some k),k+1)
def Ea{l:List (Option Nat)}(h:(l.filterMap id).length<l.length):∃j:Nat,l[j]?=some none:=by
 have:=Fi l;have h1:0<(l.filter (·.isNone)).length:=by omega
 obtain⟨x,hx⟩:=List.exists_mem_of_length_pos h1;obtain⟨hx1,hx2⟩:=List.mem_filter.mp hx;have:x=none:=by cases x<;>simp_all
 subst this;obtain⟨j,hj⟩:=Gx hx1;exact⟨j,hj⟩
def oW{α:Type}(xs:Array α)(p:Nat)(x:α):(SetTable.insertAt xs p x).size=xs.size+1:=by unfold SetTable.insertAt;simp;omega
def Cv{α:Type}{xs:Array α}{p:Nat}{x e:α}(h:e∈(SetTable.insertAt xs p x).toList):e=x\/e∈xs.toList:=by
 unfold SetTable.insertAt at h;simp only[Array.toList_append,Array.toList_push,Array.toList_extract,F8,FT]at h;rcases h with(h|h)|h
 ·exact .inr (List.mem_of_mem_take (by simpa using h))
 ·exact .inl h
 ·exact .inr (List.mem_of_mem_drop (List.mem_of_mem_take h))
def Bk:SetTable.sizeAbove 20-1=31:=by decide +kernel
def DC:SetTable.sizeAbove 76-1=127:=by decide +kernel
def zh:SetTable.sizeAbove 308-1=511:=by decide +kernel
def zw:SetTable.sizeAbove 1228-1=2047:=by decide +kernel
def Du:SetTable.sizeAbove 4916-1=8191:=by decide +kernel
end Tb
namespace Tb
open PySem
def least{P:Nat->Prop}:∀n,P n->∃m,m<=n/\P m/\∀k,k<m->¬P k:=by
 intro n;induction n using Nat.strongRecOn with
 | ind n ih=>
  intro h;rcases Classical.em (∃k,k<n/\P k)with⟨k,hk,pk⟩|hn
  ·obtain⟨m,h1,h2,h3⟩:=ih k hk pk;exact⟨m,by omega,h2,h3⟩
  ·exact⟨n,F5 _,h,λk hk pk=>hn ⟨k,hk,pk⟩⟩
def ml{xs:Array Nat}(h:xs.toList.Pairwise (· < ·)){a b x y:Nat}(ha:xs[a]?=some x)(hb:xs[b]?=some y)(hab:a<b):x<y:=by obtain⟨h1,e1⟩:=Array.getElem?_eq_some_iff.mp ha;obtain⟨h2,e2⟩:=Array.getElem?_eq_some_iff.mp hb;have:=List.pairwise_iff_getElem.mp h a b (by simpa using h1) (by simpa using h2) hab;simp only[Array.getElem_toList]at this;rw[e1,e2]at this;exact this
def oK(xs:Array Nat)(j:Nat)(hs:xs.toList.Pairwise (· < ·)):∀fuel lo hi,hi-lo<=fuel->lo<=hi->hi<=xs.size->(∀k x,k<lo->xs[k]?=some x->x<j)->(∀k x,hi<=k->xs[k]?=some x->j<=x) →
  SetTable.below.go xs j fuel lo hi<=xs.size/\(∀k x,k<SetTable.below.go xs j fuel lo hi->xs[k]?=some x->x<j)/\(∀k x,SetTable.below.go xs j fuel lo hi<=k->xs[k]?=some x->j<=x)
 | 0,lo,hi,h1,h2,h3,h4,h5=>by
  have:lo=hi:=by omega
  subst this;exact⟨h3,h4,h5⟩
 | fuel+1,lo,hi,h1,h2,h3,h4,h5=>by
  unfold SetTable.below.go;by_cases hlt:lo<hi
  ·rw[GH hlt];dsimp only;have hm:(lo+hi) / 2<xs.size:=by omega
   have em:xs[(lo+hi) / 2]?=some xs[(lo+hi) / 2]:=getElem?_pos xs _ hm;have eg:xs.getD ((lo+hi) / 2) j=xs[(lo+hi) / 2]:=by rw[Array.getD_eq_getD_getElem?,em];rfl
   rw[eg];by_cases hc:xs[(lo+hi) / 2]<j
   ·rw[GH hc];refine oK xs j hs fuel _ _ (by omega) (by omega) h3 (λk x hk ek=>?_) h5;rcases Gw k ((lo+hi) / 2)with a|a
    ·have:=ml hs ek em a;omega
    ·have:k=(lo+hi) / 2:=by omega
     subst this;rw[em]at ek;cases ek;exact hc
   ·rw[GG hc];refine oK xs j hs fuel _ _ (by omega) (by omega) (by omega) h4 (λk x hk ek=>?_);rcases Gw ((lo+hi) / 2) k with a|a
    ·have:=ml hs em ek a;omega
    ·have:k=(lo+hi) / 2:=by omega
     subst this;rw[em]at ek;cases ek;omega
  ·rw[GG hlt];have:lo=hi:=by omega
   subst this;exact⟨h3,h4,h5⟩
def oh{xs:Array Nat}(hs:xs.toList.Pairwise (· < ·))(j:Nat):SetTable.below xs j<=xs.size/\(∀k x,k<SetTable.below xs j->xs[k]?=some x->x<j)/\(∀k x,SetTable.below xs j<=k->xs[k]?=some x->j<=x):=
 oK xs j hs xs.size 0 xs.size (by omega) (Nat.zero_le _) (F5 _) (λk x hk=>by omega) (λk x hk e=>by have:=(Array.getElem?_eq_some_iff.mp e).1;omega)
def slot_mem{t:SetTable}(hs:t.place.toList.Pairwise (· < ·)){j i:Nat}(h:t.place[i]?=some j):t.slot j=.live i:=by
 obtain⟨h1,h2,h3⟩:=oh hs j;have e:SetTable.below t.place j=i:=by
  have hi:=(Array.getElem?_eq_some_iff.mp h).1;rcases Gw i (SetTable.below t.place j)with a|a
  ·have:=h2 i j a h;omega
  ·rcases Gw (SetTable.below t.place j) i with b|b
   ·have eb:t.place[SetTable.below t.place j]?=some t.place[SetTable.below t.place j]:=getElem?_pos t.place _ (by omega);have c1:=h3 _ _ (F5 _) eb;have c2:=ml hs eb h b;omega
   ·omega
 unfold SetTable.slot;dsimp only;rw[e,h,GH (beq_self_eq_true _)]
def iw{α:Type}(xs:Array α)(p:Nat)(x:α):(SetTable.insertAt xs p x).toList=xs.toList.take p++(x::xs.toList.drop p):=by unfold SetTable.insertAt;rw[Array.toList_append,Array.toList_push,Array.toList_extract,Array.toList_extract];show List.take (p-0) (xs.toList.drop 0)++[x]++List.take (xs.size-p) (xs.toList.drop p)=_;rw[List.take_of_length_le (l:=xs.toList.drop p) (by rw[List.length_drop,FL];exact F5 _),List.append_assoc];rfl
def vK{α:Type}(xs:Array α){p:Nat}(hp:p<=xs.size)(x:α)(i:Nat):(SetTable.insertAt xs p x)[i]?=if i<p then xs[i]? else if i=p then some x else xs[i-1]?:=by
 rw[←Array.getElem?_toList,iw,List.getElem?_append,Gz,FL,show min p xs.size=p by omega];by_cases h:i<p
 ·rw[GH h,GH h,List.getElem?_take_of_lt h,Array.getElem?_toList]
 ·rw[GG h,GG h];by_cases e:i=p
  ·rw[GH e,e,Nat.sub_self];rfl
  ·rw[GG e];obtain⟨k,rfl⟩:∃k,i=p+(k+1):=⟨i-p-1,by omega⟩;rw[show p+(k+1)-p=k+1 by omega,List.getElem?_cons_succ,List.getElem?_drop,Array.getElem?_toList];congr 1
def Aw{xs:Array Nat}(hs:xs.toList.Pairwise (· < ·)){j:Nat}(hn:j∉xs.toList):(SetTable.insertAt xs (SetTable.below xs j) j).toList.Pairwise (· < ·):=by
 obtain⟨h1,h2,h3⟩:=oh hs j;rw[iw];have hs':=hs;rw[←List.take_append_drop (SetTable.below xs j) xs.toList,List.pairwise_append]at hs';rw[List.pairwise_append,List.pairwise_cons];refine⟨hs'.1,⟨λy hy=>?_,hs'.2.1⟩,λx hx y hy=>?_⟩
 ·obtain⟨k,hk,e⟩:=List.mem_iff_getElem.mp hy;rw[List.length_drop,FL]at hk;rw[List.getElem_drop,Array.getElem_toList]at e;have ex:xs[SetTable.below xs j+k]?=some y:=by rw[getElem?_pos xs _ (by omega),e]
  have:=h3 _ _ (by omega) ex;have ne:y≠j:=λz=>hn (by rw[←z];exact Array.mem_toList_iff.mpr (Array.mem_of_getElem? ex));omega
 ·have hxj:x<j:=by obtain⟨k,hk,e⟩:=List.mem_iff_getElem.mp hx;rw[Gz,FL]at hk;rw[List.getElem_take,Array.getElem_toList]at e;exact h2 k x (by omega) (by rw[getElem?_pos xs _ (by omega),e])
  rcases FX.mp hy with rfl|hy
  ·exact hxj
  ·exact hs'.2.2 x hx y hy
abbrev tM(m:Nat):SetTable:={ mask:=m,place:=#[],dummies:=#[],finger:=0,led:=false,moves:=0,plain:=false }
def pm(m:Nat)(h:Int)(k:Nat):Nat:=(aK (tM m) k ((tM m).probeStart h)).j
def tU(t:SetTable):∀k p,aK t k p=aK (tM t.mask) k p
 | 0,p=>rfl
 | k+1,p=>tU t k _
def tW(t:SetTable)(h:Int)(k:Nat):(aK t k (t.probeStart h)).j=pm t.mask h k:=by rw[tU];rfl
structure TOk(m:Nat)(pl:Array Nat)(hs:Array Int):Prop where
 len:pl.size=hs.size
 inc:pl.toList.Pairwise (· < ·)
 rch:∀(i j:Nat) (h:Int),pl[i]?=some j->hs[i]?=some h->∃K,K<10*SetTable.turns m/\pm m h K=j/\∀k,k<K->pm m h k∈pl.toList
def TOk.nil(m:Nat):TOk m #[] #[]:=⟨rfl,.nil,λi j h e=>by simp at e⟩
def TOk.put{m:Nat}{pl:Array Nat}{hs:Array Int}(T:TOk m pl hs){h:Int}{K:Nat}(hK:K<10*SetTable.turns m)(hn:pm m h K∉pl.toList)(hb:∀k,k<K->pm m h k∈pl.toList):
  TOk m (SetTable.insertAt pl (SetTable.below pl (pm m h K)) (pm m h K)) (SetTable.insertAt hs (SetTable.below pl (pm m h K)) h):=by
 have hle:=(oh T.inc (pm m h K)).1;have more:∀x,x∈pl.toList->x∈(SetTable.insertAt pl (SetTable.below pl (pm m h K)) (pm m h K)).toList:=λx hx=>by
  rw[iw];rw[←List.take_append_drop (SetTable.below pl (pm m h K)) pl.toList]at hx;rcases F8.mp hx with a|a
  ·exact Gs _ a
  ·exact Gr _ (FK _ a)
 have old:∀(i j:Nat) (h':Int),pl[i]?=some j->hs[i]?=some h'->∃K',K'<10*SetTable.turns m/\pm m h' K'=j/\∀k,k<K'->pm m h' k∈(SetTable.insertAt pl (SetTable.below pl (pm m h K)) (pm m h K)).toList:=λi j h' e1 e2=>by obtain⟨K',h1,h2,h3⟩:=T.rch i j h' e1 e2;exact⟨K',h1,h2,λk hk=>more _ (h3 k hk)⟩
 refine⟨by rw[oW,oW,T.len],Aw T.inc hn,λi j h' e1 e2=>?_⟩;rw[vK pl hle]at e1;rw[vK hs (by rw[←T.len];exact hle)]at e2;by_cases c1:i<SetTable.below pl (pm m h K)
 ·rw[GH c1]at e1 e2;exact old i j h' e1 e2
 ·rw[GG c1]at e1 e2;by_cases c2:i=SetTable.below pl (pm m h K)
  ·rw[GH c2]at e1 e2;cases e1;cases e2;exact⟨K,hK,rfl,λk hk=>more _ (hb k hk)⟩
  ·rw[GG c2]at e1 e2;exact old _ j h' e1 e2
def yS{t:SetTable}(hd:t.dummies = #[]){j:Nat}(h:t.slot j≠.empty):j∈t.place.toList:=by
 rcases qK hd j with e|⟨i,e⟩
 ·exact absurd e h
 ·exact Array.mem_toList_iff.mpr (Array.mem_of_getElem? (kK e))
def uV{t:SetTable}(hs:t.place.toList.Pairwise (· < ·)){j:Nat}(h:j∈t.place.toList):∃i,t.slot j=.live i/\t.place[i]?=some j:=by obtain⟨i,hi⟩:=Gx h;rw[Array.getElem?_toList]at hi;exact⟨i,slot_mem hs hi,hi⟩
def Fe{t:SetTable}(hs:t.place.toList.Pairwise (· < ·)){j:Nat}(h:t.slot j=.empty):j∉t.place.toList:=λhm=>by obtain⟨i,e,_⟩:=uV hs hm;rw[h]at e;cases e
def BM{t:SetTable}(hd:t.dummies = #[])(hm:Mask t.mask)(hp:t.place.size<=t.mask)(h:Int):∃K,K<10*SetTable.turns t.mask/\t.slot (pm t.mask h K)=.empty/\∀k,k<K->t.slot (pm t.mask h k)≠.empty:=by obtain⟨j0,hj0,hs0⟩:=EV hd hp;obtain⟨N,hN,eN⟩:=Ay hm hj0 h;rw[tW]at eN;obtain⟨K,h1,h2,h3⟩:=least (P:=λn=>t.slot (pm t.mask h n)=.empty) N (by show t.slot (pm t.mask h N)=_;rw[eN];exact hs0);exact⟨K,by omega,h2,h3⟩
def wF{t:SetTable}(hd:t.dummies = #[])(hash:Nat->Int)(h:Int):∀(K fuel:Nat) (p:SetTable.Probe),K<fuel->p.dummy=none->(∀k,k<K->t.slot (aK t k p).j≠.empty) →
  (∃k i,k<K/\SetTable.probe.go t hash h fuel p=some (.candidate (aK t k p).j i (aK t (k+1) p))/\t.slot (aK t k p).j=.live i)\/SetTable.probe.go t hash h fuel p=SetTable.probe.go t hash h (fuel-K) (aK t K p):=by
 intro K;induction K with
 | zero=>intro fuel p _ _ _;exact .inr rfl
 | succ K ih=>
  intro fuel p hf hp hs;obtain⟨f,rfl⟩:∃f,fuel=f+1:=⟨fuel-1,by omega⟩;have h0:t.slot p.j≠.empty:=hs 0 (by omega);rcases qK hd p.j with h1|⟨i,h1⟩
  ·exact absurd h1 h0
  ·by_cases hq:(hash i == h)=true
   ·refine .inl ⟨0,i,by omega,?_,h1⟩
    conv=>lhs;unfold SetTable.probe.go
    rw[h1];dsimp only;rw[GH hq];rfl
   ·have e:SetTable.probe.go t hash h (f+1) p=SetTable.probe.go t hash h f (t.advance p):=by
     conv=>lhs;unfold SetTable.probe.go
     rw[h1];dsimp only;rw[GG hq]
    rw[e];have hp':(t.advance p).dummy=none:=by have:=jM t 1 p;rw[hp]at this;exact this
    rcases ih f (t.advance p) (by omega) hp' (λk hk=>hs (k+1) (by omega))with⟨k,i',hk,e',hl⟩|e'
    ·exact .inl ⟨k+1,i',by omega,e',hl⟩
    ·refine .inr ?_;rw[e',show f+1-(K+1)=f-K by omega];rfl
def DN{t:SetTable}(hd:t.dummies = #[])(hash:Nat->Int)(h:Int){K fuel:Nat}{p:SetTable.Probe}(hf:K<fuel)(hp:p.dummy=none)(hs:∀k,k<K->t.slot (aK t k p).j≠.empty)(he:t.slot (aK t K p).j=.empty):
  (∃k i,k<K/\SetTable.probe.go t hash h fuel p=some (.candidate (aK t k p).j i (aK t (k+1) p))/\t.slot (aK t k p).j=.live i)\/SetTable.probe.go t hash h fuel p=some (.empty (aK t K p).j none):=by
 rcases wF hd hash h K fuel p hf hp hs with a|a
 ·exact .inl a
 ·refine .inr ?_;rw[a];obtain⟨f,hf'⟩:∃f,fuel-K=f+1:=⟨fuel-K-1,by omega⟩;rw[hf'];unfold SetTable.probe.go;rw[he];dsimp only;rw[jM,hp]
def Cg{t:SetTable}(hd:t.dummies = #[])(hash:Nat->Int)(h:Int){K fuel i0:Nat}{p:SetTable.Probe}(hf:K<fuel)(hp:p.dummy=none)(hs:∀k,k<K->t.slot (aK t k p).j≠.empty)(he:t.slot (aK t K p).j=.live i0)(hh:hash i0=h):
  ∃k i,k<=K/\SetTable.probe.go t hash h fuel p=some (.candidate (aK t k p).j i (aK t (k+1) p))/\t.slot (aK t k p).j=.live i:=by
 rcases wF hd hash h K fuel p hf hp hs with⟨k,i,hk,e,hl⟩|a
 ·exact⟨k,i,by omega,e,hl⟩
 ·refine⟨K,i0,F5 _,?_,he⟩;rw[a];obtain⟨f,hf'⟩:∃f,fuel-K=f+1:=⟨fuel-K-1,by omega⟩;rw[hf']
  conv=>lhs;unfold SetTable.probe.go
  rw[he];dsimp only;rw[GH (by rw[hh];exact beq_self_eq_true _)];rw[gK];rfl
def vq(t:SetTable):∀(k:Nat) (p:SetTable.Probe),k<=p.more->aK t k p={ p with j:=p.j+k,more:=p.more-k }
 | 0,p,h=>rfl
 | k+1,p,h=>by
  show aK t k (t.advance p)=_;have e:t.advance p={ p with j:=p.j+1,more:=p.more-1 }:=by unfold SetTable.advance;rw[GH (by omega)]
  rw[e,vq t k _ (by show k<=p.more-1;omega)];simp only[SetTable.Probe.mk.injEq,true_and,and_true];omega
def DD{m i:Nat}(h:i<=m):SetTable.runEnd m i<=m/\i<=SetTable.runEnd m i/\SetTable.runEnd m i<=i+9:=by unfold SetTable.runEnd;split<;>omega
def qM{t:SetTable}{i p k:Nat}(h:k<=SetTable.runEnd t.mask i-i):(aK t k (at_ t (i,p))).j=i+k:=by rw[vq t k _ h];rfl
def uy{owner:Array (Option Nat)}{j:Nat}(hj:j<owner.size)(h:(owner.getD j (some 0)).isNone=false):∃x,owner[j]?=some (some x):=by
 rw[Array.getD_eq_getD_getElem?,getElem?_pos owner j hj]at h;rw[getElem?_pos owner j hj];cases e:owner[j]with
 | none=>rw[e]at h;cases h
 | some x=>exact⟨x,rfl⟩
def sO{t:SetTable}(owner:Array (Option Nat))(hz:owner.size=t.mask+1):∀(fuel i p j':Nat),i<=t.mask->SetTable.layClean.free t.mask owner fuel i p=some j' →
  ∃K,K<10*fuel/\(aK t K (at_ t (i,p))).j=j'/\∀k,k<K->∃x,owner[(aK t k (at_ t (i,p))).j]?=some (some x)
 | 0,i,p,j',hi,h=>by cases h
 | fuel+1,i,p,j',hi,h=>by
  obtain⟨r1,r2,r3⟩:=DD hi;unfold SetTable.layClean.free at h;split at h
  ·rename_i k0 hk;cases h;rw[List.find?_range_eq_some]at hk;obtain⟨hk1,hk2,hk3⟩:=hk;have hk2:=List.mem_range.mp hk2;refine⟨k0,by omega,qM (by omega),λk hk=>?_⟩;rw[qM (by omega)];refine uy (by omega) ?_;have:=hk3 k hk;simpa using this
  ·rename_i hk;rw[List.find?_range_eq_none]at hk;have hnx:(SetTable.leap t.mask i p).1<=t.mask:=by show(_ % (t.mask+1))<=t.mask;have:=Nat.mod_lt (i*5+1+p / 32) (show 0<t.mask+1 by omega);omega
   obtain⟨K,h1,h2,h3⟩:=sO owner hz fuel _ _ j' hnx h;have hr:aK t (SetTable.runEnd t.mask i-i+1) (at_ t (i,p))=at_ t (SetTable.leap t.mask i p):=(mY t (SetTable.runEnd t.mask i-i) (at_ t (i,p)) rfl).trans rfl;refine⟨SetTable.runEnd t.mask i-i+1+K,by omega,?_,λk hk'=>?_⟩
   ·rw[gK,hr];exact h2
   ·rcases Gw k (SetTable.runEnd t.mask i-i+1)with a|a
    ·rw[qM (by omega)];refine uy (by omega) ?_;have:=hk k (by omega);simpa using this
    ·obtain⟨k',rfl⟩:∃k',k=SetTable.runEnd t.mask i-i+1+k':=⟨k-(SetTable.runEnd t.mask i-i+1),by omega⟩;rw[gK,hr];exact h3 k' (by omega)
def nL(m:Nat)(F:Nat->Int)(owner:Array (Option Nat)):Prop:=∀j x:Nat,owner[j]?=some (some x)->∃K,K<10*SetTable.turns m/\pm m (F x) K=j/\∀k,k<K->∃y,owner[pm m (F x) k]?=some (some y)
def sI{m:Nat}(hm:Mask m)(F:Nat->Int):∀(hs:List Int) (owner:Array (Option Nat)) (k:Nat),owner.size=m+1->(owner.toList.filterMap id).Perm (GC k)->k+hs.length<=m->(∀i h,hs[i]?=some h->F (k+i)=h)->nL m F owner →
  ∃owner',hs.foldl (jX m) (some (owner,k))=some (owner',k+hs.length)/\owner'.size=m+1/\(owner'.toList.filterMap id).Perm (GC (k+hs.length))/\nL m F owner'
 | [],owner,k,h1,h2,h3,h4,h5=>⟨owner,rfl,h1,h2,h5⟩
 | h::hs,owner,k,h1,h2,h3,h4,h5=>by
  rw[Ge]at h3 ⊢;have hlt:(owner.toList.filterMap id).length<owner.toList.length:=by rw[h2.length_eq,List.length_range,FL,h1];omega
  obtain⟨j,hj⟩:=Ea hlt;rw[Array.getElem?_toList]at hj;have hjm:j<=m:=by have:=(Array.getElem?_eq_some_iff.mp hj).1;omega
  have hi:SetTable.bits h % (m+1)<=m:=by have:=Nat.mod_lt (SetTable.bits h) (show 0<m+1 by omega);omega
  obtain⟨n,hn,en⟩:=qX hm hi (xZ h) hjm;obtain⟨j',e',hj'⟩:=Bf hm owner h1 hj (SetTable.turns m) n _ _ hi (by unfold SetTable.turns;omega) en;obtain⟨K,K1,K2,K3⟩:=sO (t:=tM m) owner h1 (SetTable.turns m) _ _ j' hi e';have step:jX m (some (owner,k)) h=some (owner.setIfInBounds j' (some k),k+1):=by unfold jX;simp[e']
  rw[List.foldl_cons,step];have hp:((owner.setIfInBounds j' (some k)).toList.filterMap id).Perm (GC (k+1)):=by rw[Array.toList_setIfInBounds];rw[←Array.getElem?_toList]at hj';refine(xw hj').trans ?_;rw[List.range_succ];exact(List.Perm.cons k h2).trans (List.perm_append_comm (l₁:=[k]) (l₂:=GC k))
  have hj's:j'<owner.size:=(Array.getElem?_eq_some_iff.mp hj').1;have keep:∀i x,owner[i]?=some (some x)->(owner.setIfInBounds j' (some k))[i]?=some (some x):=λi x e=>by
   rw[Array.getElem?_setIfInBounds,GG]
   ·exact e
   ·rintro rfl;rw[hj']at e;cases e
  have hR:nL m F (owner.setIfInBounds j' (some k)):=λi x e=>by
   rw[Array.getElem?_setIfInBounds]at e;by_cases c:j'=i
   ·rw[GH c,GH hj's]at e;cases e;have eF:F k=h:=by
     have:=h4 0 h rfl
     rwa [Nat.add_zero]at this
    rw[eF];refine⟨K,K1,?_,λk' hk'=>?_⟩
    ·rw[←c];exact K2
    ·obtain⟨y,hy⟩:=K3 k' hk';exact⟨y,keep _ _ hy⟩
   ·rw[GG c]at e;obtain⟨K',q1,q2,q3⟩:=h5 i x e;refine⟨K',q1,q2,λk' hk'=>?_⟩;obtain⟨y,hy⟩:=q3 k' hk';exact⟨y,keep _ _ hy⟩
  obtain⟨o',f1,f2,f3,f4⟩:=sI hm F hs (owner.setIfInBounds j' (some k)) (k+1) (by simpa using h1) hp (by omega) (λi h' e=>by
   have:=h4 (i+1) h' e
   rwa [show k+(i+1)=k+1+i by omega]at this) hR
  exact⟨o',by rw[f1];congr 2;omega,f2,by rw[show k+(hs.length+1)=k+1+hs.length by omega];exact f3,f4⟩
def oC{α:Type}(es:Array α):∀(l:List Nat),(∀i∈l,i<es.size)->∀n:Nat,(l.filterMap (es[·]?))[n]?=(l[n]?).bind (es[·]?)
 | [],_,n=>by simp
 | x::l,h,n=>by
  have hx:=h x FO;have e:(x::l).filterMap (es[·]?)=es[x]::l.filterMap (es[·]?):=by rw[List.filterMap_cons];simp[hx]
  rw[e];cases n with
  | zero=>simp[hx]
  | succ n=>simpa using oC es l (λi hi=>h i (FK _ hi)) n
def qY{f:Nat->Option (Nat×Nat)}(hf:∀j x,f j=some x->x.1=j):∀(l:List Nat),(∀x∈(l.filterMap f),f x.1=some x)/\((l.filterMap f).map (·.1))=l.filter (λj=>(f j).isSome)
 | []=>⟨λx hx=>(by cases hx),rfl⟩
 | a::l=>by
  obtain⟨i1,i2⟩:=qY hf l;cases e:f a with
  | none=>
   rw[List.filterMap_cons_none e,List.filter_cons_of_neg (by rw[e];simp)];exact⟨i1,i2⟩
  | some x=>
   rw[List.filterMap_cons_some e,List.filter_cons_of_pos (by rw[e];rfl),List.map_cons,i2,hf a x e];refine⟨λy hy=>?_,rfl⟩;rcases FX.mp hy with rfl|hy
   ·rw[hf a y e];exact e
   ·exact i1 y hy
def CO(t:SetTable){es:Array (Int×Value)}{wanted m:Nat}(hm:Mask m)(hw:SetTable.sizeAbove wanted-1=m)(hn:es.size<=m):
  ∃t' order,t.relaid (es.map (·.1)) wanted=some (t',order)/\t'.place.size=es.size/\t'.dummies = #[]/\t'.mask=m/\order.toList.Perm (GC es.size)/\t'.led=t.led/\t'.plain=t.plain/\TOk m t'.place ((order.filterMap (es[·]?)).map (·.1)):=by
 obtain⟨o',f1,f2,f3,f4⟩:=sI hm (λi=>((es[i]?).map (·.1)).getD 0) (es.map (·.1)).toList (Array.replicate (m+1) none) 0 (by simp) (by simp) (by rw[FL,Array.size_map];omega) (λi h e=>by
   rw[Array.getElem?_toList,Array.getElem?_map]at e;show((es[0+i]?).map (·.1)).getD 0=h;rw[Nat.zero_add,e];rfl) (λj x e=>by
   rw[Array.getElem?_replicate]at e;split at e<;>cases e)
 rw[FL,Nat.zero_add,Array.size_map]at f1 f3;have hlay:SetTable.layClean m (es.map (·.1))=some o':=by show((es.map (·.1)).foldl (jX m) (some (Array.replicate (m+1) none,0))).map (·.1)=some o';rw[←Array.foldl_toList,f1];rfl
 have hsnd:((GC (m+1)).filterMap λj=>(o'.getD j none).map (j,·)).map (·.2)=o'.toList.filterMap id:=by
  rw[List.map_filterMap];have:o'.toList=(GC (m+1)).map λj=>o'.getD j none:=by
   apply List.ext_getElem
   ·rw[FL,FH,List.length_range,f2]
   ·intro i h1 h2;rw[FL]at h1;simp[h1]
  rw[this,List.filterMap_map];congr 1;funext j;show((o'.getD j none).map (j,·)).map (·.2)=o'.getD j none;cases o'.getD j none<;>rfl
 have hrel:t.relaid (es.map (·.1)) wanted=some (({ mask:=m,place:=(((GC (m+1)).filterMap λj=>(o'.getD j none).map (j,·)).map (·.1)).toArray,dummies:=#[],finger:=t.finger,led:=t.led,moves:=t.movedTo m,plain:=t.plain }:SetTable),(((GC (m+1)).filterMap λj=>(o'.getD j none).map (j,·)).map (·.2)).toArray):=by unfold SetTable.relaid;rw[hw];unfold SetTable.laid;rw[hlay];rfl
 obtain⟨lv1,lv2⟩:=qY (f:=λj=>(o'.getD j none).map (j,·)) (λj x e=>by obtain⟨y,_,rfl⟩:=FU.mp e;rfl) (GC (m+1))
 have hlen:((GC (m+1)).filterMap λj=>(o'.getD j none).map (j,·)).length=es.size:=by
  have:=congrArg List.length hsnd
  rwa [FH,f3.length_eq,List.length_range]at this
 have hall:∀i∈((GC (m+1)).filterMap λj=>(o'.getD j none).map (j,·)).map (·.2),i<es.size:=λi hi=>by rw[hsnd]at hi;exact List.mem_range.mp (f3.mem_iff.mp hi)
 refine⟨_,_,hrel,?_,rfl,rfl,?_,rfl,rfl,?_⟩
 ·show(((GC (m+1)).filterMap λj=>(o'.getD j none).map (j,·)).map (·.1)).toArray.size=_;rw[FN,FH,hlen]
 ·show(((GC (m+1)).filterMap λj=>(o'.getD j none).map (j,·)).map (·.2)).toArray.toList.Perm _;rw[List.toList_toArray,hsnd];exact f3
 ·generalize hlv:((GC (m+1)).filterMap λj=>(o'.getD j none).map (j,·))=lv at lv1 lv2 hlen hall;show TOk m (lv.map (·.1)).toArray (((lv.map (·.2)).toArray.filterMap (es[·]?)).map (·.1));have mem:∀j,(∃y,o'[j]?=some (some y))->j∈(lv.map (·.1)).toArray.toList:=λj ⟨y,hy⟩=>by rw[List.toList_toArray,lv2,List.mem_filter];have hj:=(Array.getElem?_eq_some_iff.mp hy).1;refine⟨List.mem_range.mpr (by omega),?_⟩;rw[Array.getD_eq_getD_getElem?,hy];rfl
  have hes:∀n:Nat,((((lv.map (·.2)).toArray.filterMap (es[·]?)).map (·.1)))[n]?=(((lv.map (·.2))[n]?).bind (es[·]?)).map (·.1):=λn=>by rw[Array.getElem?_map,←Array.getElem?_toList,Array.toList_filterMap,List.toList_toArray,oC es _ hall]
  refine⟨?_,?_,λi j h e1 e2=>?_⟩
  ·rw[Array.size_map,←FL,←FL,Array.toList_filterMap,List.toList_toArray,List.toList_toArray,FH];have key:∀l:List Nat,(∀i∈l,i<es.size)->(l.filterMap (es[·]?)).length=l.length:=by
    intro l;induction l with
    | nil=>intro _;rfl
    | cons x l ih=>
     intro hl;have hx:=hl x FO;rw[List.filterMap_cons,getElem?_pos es x hx,Ge,Ge,ih λi hi=>hl i (FK _ hi)]
   rw[key _ hall,FH]
  ·rw[List.toList_toArray,lv2];exact List.Pairwise.filter _ List.pairwise_lt_range
  ·rw[hes]at e2;rw[List.getElem?_toArray,FJ]at e1;rw[FJ]at e2;obtain⟨⟨j',x⟩,hx,rfl⟩:=FU.mp e1;rw[hx]at e2;have hf:=lv1 _ (FR hx);have hx':o'.getD j' none=some x:=by obtain⟨y,hy,ey⟩:=FU.mp hf;cases ey;exact hy
   have ho:o'[j']?=some (some x):=by
    rw[Array.getD_eq_getD_getElem?]at hx';cases q:o'[j']? with
    | none=>rw[q]at hx';cases hx'
    | some y=>rw[q]at hx';cases hx';rfl
   obtain⟨K,q1,q2,q3⟩:=f4 j' x ho;have eF:((es[x]?).map (·.1)).getD 0=h:=by have:(es[x]?).map (·.1)=some h:=e2;rw[this];rfl
   dsimp only at q2 q3;rw[eF]at q2 q3;exact⟨K,q1,q2,λk hk=>mem _ (q3 k hk)⟩
end Tb
namespace L2
open PySem PySem.Spec PyProof.Rows
section
variable {P:Program} {w:World} {A:Around} {E:Value->Shared->Prop} {s:Shared} {K:Type} [DecidableEq K] {knd:KeyKind P w K}
def qA{ks:List K}{vs:List Value}(h:ItemsAre knd ks vs):∀v∈vs,∀b,v≠.ref b:=λv hv b e=>by have:=h.byValue v hv;subst e;cases this
def EB(n:Nat){v:Value}(h:∀b,v≠.ref b):ofAClassStatement n v=pure false:=by
 cases v with
 | ref b=>exact absurd rfl (h b)
 | _=>unfold ofAClassStatement;rfl
def wU{ks:List K}{b:Addr}{Q:Bool->Shared->Prop}(hk:IsTupleKey knd s.heap ks b)(h:Q false s):wpAny (model P w) A (ofAClassStatement 8 (.ref b)) Q E s:=by
 have hT:=hk.typeIs;obtain⟨o,items,n,ho,hc,hd,hi⟩:=hk;unfold ofAClassStatement;refine FA (wpAny_typeOf hT ?_);dsimp only;refine FA (FC ?_);simp only[Bool.not_true,Gv,if_false];refine FA (wpAny_seqItems ho hd ?_);dsimp only;refine FA ?_;rw[←Array.forIn_toList];refine wpAny_forIn_list _ (λrest r s'=>r.1=none/\s'=s/\∀v∈rest,∀b,v≠.ref b) _ ?_ ?_ _ _ ⟨rfl,rfl,qA hi⟩
 ·rintro v rest r s' ⟨hr,rfl,hall⟩;rw[EB _ (hall v FO)];refine FA (FC ?_);simp only[Gv,if_false];exact FC ⟨rfl,rfl,λu hu=>hall u (FK _ hu)⟩
 ·rintro⟨r1,r2⟩ s' ⟨hr,rfl,_⟩;simp only at hr;subst hr;exact FC h
def uw{ks:List K}{b:Addr}{l:List Value}{Q:Bool->Shared->Prop}(hk:IsTupleKey knd s.heap ks b)(hl:∀y∈l,∃b' k',y=.ref b'/\IsTupleKey knd s.heap k' b')(h:Q false s):wpAny (model P w) A (searchCouldBeSeen (.ref b) l) Q E s:=by
 unfold searchCouldBeSeen;refine FA ?_;refine wpAny_forIn_list _ (λrest r s'=>r.1=none/\s'=s/\∀y∈rest,∃b' k',y=.ref b'/\IsTupleKey knd s.heap k' b') _ ?_ ?_ _ _ ⟨rfl,rfl,hl⟩
 ·rintro v rest r s' ⟨hr,rfl,hall⟩;obtain⟨b',k',rfl,hk'⟩:=hall v FO;have next:∀y∈rest,∃b' k',y=.ref b'/\IsTupleKey knd s'.heap k' b':=λy hy=>hall y (FK _ hy)
  dsimp only;split
  ·exact FC ⟨rfl,rfl,next⟩
  ·refine FA (wpAny_eqIsQuiet_tuple hk ?_);simp only[Bool.not_true,Gv,if_false];refine FA (wpAny_eqIsQuiet_tuple hk' ?_);simp only[Bool.not_true,Gv,if_false];refine FA (wU hk ?_);simp only[Gv,if_false];refine FA (wU hk' ?_);simp only[Gv,if_false];exact FC ⟨rfl,rfl,next⟩
 ·rintro⟨r1,r2⟩ s' ⟨hr,rfl,_⟩;simp only at hr;subst hr;exact FC h
def ue{t:SetTable}(hm:Tb.Mask t.mask):t.gaveWay=false:=by unfold SetTable.gaveWay;rcases hm with e|e|e|e|e|e<;>rw[e]<;>rfl
def EE{a b:Addr}{k:List K}{h:Int}{o:Obj}{es:Array (Int×Value)}{ep:Nat}{t:SetTable}(hu:A.units<cLine)(hk:IsTupleKey knd s.heap k b)(ho:s.heap.get? a=some o)(hd:o.data=.set es ep t)(hf:t.fits es.size=true)(hm:Tb.Mask t.mask)(hdm:t.dummies = #[])
  (hall:∀e∈es.toList,∃b' k',e.2=.ref b'/\IsTupleKey knd s.heap k' b'/\k'≠k) {Q:SetFound->Shared->Prop} :
  ∀(K fuel:Nat) (stand:Option SetTable.Probe),K<fuel->K<10*SetTable.turns t.mask->(stand.getD (t.probeStart h)).dummy=none->(∀k',k'<K->t.slot (Tb.aK t k' (stand.getD (t.probeStart h))).j≠.empty)->t.slot (Tb.aK t K (stand.getD (t.probeStart h))).j=.empty →
   Q (.free (Tb.aK t K (stand.getD (t.probeStart h))).j false) s->wpAny (model P w) A (setSearchFrom a (.ref b) h true fuel stand) Q E s:=by
 intro K;induction K using Nat.strongRecOn with
 | ind K ih=>
  intro fuel stand hfu hK hdu hne hs hQ;obtain⟨f,rfl⟩:∃f,fuel=f+1:=⟨fuel-1,by omega⟩;unfold setSearchFrom;refine FA (GA ho hd hf ?_);dsimp only;have hg:=ue hm;have hsz:t.place.size=es.size:=by simp only[SetTable.fits,Gn,beq_iff_eq]at hf;exact hf.1
  have hsm:t.sameMemory t.moves t.mask=some true:=by unfold SetTable.sameMemory;rw[GH (beq_self_eq_true _)]
  rw[hg];simp only[Gv,if_false];generalize hr:t.probe _ h (stand.getD (t.probeStart h))=r;obtain⟨g,hr⟩:∃g,SetTable.probe.go t g h (10*SetTable.turns t.mask) (stand.getD (t.probeStart h))=r:=⟨_,hr⟩;rcases Tb.DN hdm g h hK hdu hne hs with⟨k',i,hk',e,hl⟩|e
  ·rw[e]at hr;subst hr;have hpl:=Tb.kK hl;have hi:i<es.size:=by rw[←hsz];exact(Array.getElem?_eq_some_iff.mp hpl).1
   have hmem:es[i]∈es.toList:=by simp
   obtain⟨b',k2,hy,hk2,hne2⟩:=hall _ hmem;have hes:es[i]?=some (es[i].1,.ref b'):=by rw[Array.getElem?_eq_getElem hi,←hy]
   have hst:∀y∈((es.filter λx=>x.1 == h).toList.map λx=>x.2),∃b' k',y=Value.ref b'/\IsTupleKey knd s.heap k' b':=λy hy=>by
    obtain⟨e0,he0,rfl⟩:=List.mem_map.mp hy;have he1:e0∈es.toList:=by have:=Array.mem_toList_iff.mp he0;exact Array.mem_toList_iff.mpr (Array.mem_filter.mp this).1
    obtain⟨b3,k3,h1,h2,_⟩:=hall e0 he1;exact⟨b3,k3,h1,h2⟩
   have eK:∀x,Tb.aK t (k'+1+x) (stand.getD (t.probeStart h))=Tb.aK t x (Tb.aK t (k'+1) (stand.getD (t.probeStart h))):=λx=>Tb.gK t _ _ _;have again:wpAny (model P w) A (setSearchFrom a (.ref b) h true f (some (Tb.aK t (k'+1) (stand.getD (t.probeStart h))))) Q E s:=by
    refine ih (K-(k'+1)) (by omega) f _ (by omega) (by omega) ?_ (λx hx=>?_) ?_ ?_
    ·show(Tb.aK t (k'+1) _).dummy=none;rw[Tb.jM];exact hdu
    ·show t.slot (Tb.aK t x (Tb.aK t (k'+1) _)).j≠_;rw[←eK];exact hne _ (by omega)
    ·show t.slot (Tb.aK t (K-(k'+1)) (Tb.aK t (k'+1) _)).j=_;rw[←eK,show k'+1+(K-(k'+1))=K by omega];exact hs
    ·show Q (.free (Tb.aK t (K-(k'+1)) (Tb.aK t (k'+1) _)).j false) s;rw[←eK,show k'+1+(K-(k'+1))=K by omega];exact hQ
   have same:isSame (Value.ref b') (Value.ref b')=pure true:=by unfold isSame;simp
   dsimp only;cases hled:t.led
   ·simp only[Bool.not_false,if_true];refine FA (uw hk hst ?_);simp only[Gv,if_false];rw[hes];dsimp only;refine FA (wpAny_holding (wpAny_eqBool_tuple hu hk2 hk ?_));rw[GD hne2];refine FA (GA ho hd hf ?_);dsimp only;simp only[Bool.and_false,Gv,if_false,hsm,if_true,hl,hes,same];exact FA (FC (FA (FC again)))
   ·simp only[Bool.not_true,Gv,if_false];rw[hes];dsimp only;refine FA (wpAny_holding (wpAny_eqBool_tuple hu hk2 hk ?_));rw[GD hne2];refine FA (GA ho hd hf ?_);dsimp only;simp only[Bool.and_false,Gv,if_false,hsm,if_true,hl,hes,same];exact FA (FC (FA (FC again)))
  ·rw[e]at hr;subst hr;exact FC hQ
def A8{a b:Addr}{k:List K}{h:Int}{o:Obj}{es:Array (Int×Value)}{ep i0:Nat}{t:SetTable}(hu:A.units<cLine)(hk:IsTupleKey knd s.heap k b)(ho:s.heap.get? a=some o)(hd:o.data=.set es ep t)(hf:t.fits es.size=true)(hm:Tb.Mask t.mask)(hdm:t.dummies = #[])
  (hall:∀e∈es.toList,∃b' k',e.2=.ref b'/\IsTupleKey knd s.heap k' b') (hi0:∃b0,es[i0]?=some (h,.ref b0)/\IsTupleKey knd s.heap k b0) {Q:SetFound->Shared->Prop} (hQ:Q (.there none) s) :
  ∀(K fuel:Nat) (stand:Option SetTable.Probe),K<fuel->K<10*SetTable.turns t.mask->(stand.getD (t.probeStart h)).dummy=none->(∀k',k'<K->t.slot (Tb.aK t k' (stand.getD (t.probeStart h))).j≠.empty)->t.slot (Tb.aK t K (stand.getD (t.probeStart h))).j=.live i0 →
   wpAny (model P w) A (setSearchFrom a (.ref b) h true fuel stand) Q E s:=by
 obtain⟨b0,hb0,hkb0⟩:=hi0;intro K;induction K using Nat.strongRecOn with
 | ind K ih=>
  intro fuel stand hfu hK hdu hne hs;obtain⟨f,rfl⟩:∃f,fuel=f+1:=⟨fuel-1,by omega⟩;unfold setSearchFrom;refine FA (GA ho hd hf ?_);dsimp only;have hg:=ue hm;have hsz:t.place.size=es.size:=by simp only[SetTable.fits,Gn,beq_iff_eq]at hf;exact hf.1
  have hsm:t.sameMemory t.moves t.mask=some true:=by unfold SetTable.sameMemory;rw[GH (beq_self_eq_true _)]
  rw[hg];simp only[Gv,if_false];generalize hr:t.probe _ h (stand.getD (t.probeStart h))=r;obtain⟨g,hgi,hr⟩:∃g:Nat->Int,g i0=h/\SetTable.probe.go t g h (10*SetTable.turns t.mask) (stand.getD (t.probeStart h))=r:=⟨_,by show((es[i0]?).map (·.1)).getD 0=h;rw[hb0];rfl,hr⟩;obtain⟨k',i,hk',e,hl⟩:=Tb.Cg hdm g h hK hdu hne hs hgi;rw[e]at hr;subst hr;have hpl:=Tb.kK hl;have hi:i<es.size:=by rw[←hsz];exact(Array.getElem?_eq_some_iff.mp hpl).1
  have hmem:es[i]∈es.toList:=by simp
  obtain⟨b',k2,hy,hk2⟩:=hall _ hmem;have hes:es[i]?=some (es[i].1,.ref b'):=by rw[Array.getElem?_eq_getElem hi,←hy]
  have hst:∀y∈((es.filter λx=>x.1 == h).toList.map λx=>x.2),∃b' k',y=Value.ref b'/\IsTupleKey knd s.heap k' b':=λy hy=>by
   obtain⟨e0,he0,rfl⟩:=List.mem_map.mp hy;have he1:e0∈es.toList:=by have:=Array.mem_toList_iff.mp he0;exact Array.mem_toList_iff.mpr (Array.mem_filter.mp this).1
   obtain⟨b3,k3,h1,h2⟩:=hall e0 he1;exact⟨b3,k3,h1,h2⟩
  have eK:∀x,Tb.aK t (k'+1+x) (stand.getD (t.probeStart h))=Tb.aK t x (Tb.aK t (k'+1) (stand.getD (t.probeStart h))):=λx=>Tb.gK t _ _ _;have again:k2≠k->wpAny (model P w) A (setSearchFrom a (.ref b) h true f (some (Tb.aK t (k'+1) (stand.getD (t.probeStart h))))) Q E s:=λhne2=>by
   have hlt:k'<K:=by
    rcases Gw k' K with q|q
    ·exact q
    ·have:k'=K:=by omega
     subst this;rw[hs]at hl;cases hl;rw[hb0]at hes;cases hes;obtain⟨o1,i1,n1,z1,_,z2,z3⟩:=hk2;obtain⟨o2,i2,n2,y1,_,y2,y3⟩:=hkb0;rw[z1]at y1;cases y1;rw[z2]at y2;cases y2;exact absurd (z3.inj y3) hne2
   refine ih (K-(k'+1)) (by omega) f _ (by omega) (by omega) ?_ (λx hx=>?_) ?_
   ·show(Tb.aK t (k'+1) _).dummy=none;rw[Tb.jM];exact hdu
   ·show t.slot (Tb.aK t x (Tb.aK t (k'+1) _)).j≠_;rw[←eK];exact hne _ (by omega)
   ·show t.slot (Tb.aK t (K-(k'+1)) (Tb.aK t (k'+1) _)).j=_;rw[←eK,show k'+1+(K-(k'+1))=K by omega];exact hs
  have same:isSame (Value.ref b') (Value.ref b')=pure true:=by unfold isSame;simp
  have fin:wpAny (model P w) A (do
    let equal ←holding [Value.ref b'] (eqBool (.ref b') (.ref b));let (es',_,t') ←setState a
    if(true && equal)=true then return SetFound.there none
    let some same:=t'.sameMemory t.moves t.mask|unsupported "set.changed-during-lookup:is-the-new-block-at-the-old-address"
    let still ←match (if same=true then t'.slot (Tb.aK t k' (stand.getD (t.probeStart h))).j else .empty)with
     | .live i'=>match es'[i']? with
      | some (_,y')=>do pure (if ←isSame y' (.ref b')then some i' else none)
      | none=>pure none
     | _=>pure none
    match still with
    | none=>rule "set.search.anew";setSearchFrom a (.ref b) h true f none
    | some i'=>if equal=true then return .there (some i')else setSearchFrom a (.ref b) h true f (some (Tb.aK t (k'+1) (stand.getD (t.probeStart h))))) Q E s:=by
   refine FA (wpAny_holding (wpAny_eqBool_tuple hu hk2 hk ?_));refine FA (GA ho hd hf ?_);dsimp only;by_cases hq:k2=k
   ·rw[GF hq];simp only[Bool.and_self,if_true];exact FC hQ
   ·rw[GD hq];simp only[Bool.and_false,Gv,if_false,hsm,if_true,hl,hes,same];exact FA (FC (FA (FC (again hq))))
  dsimp only;cases hled:t.led
  ·simp only[Bool.not_false,if_true];refine FA (uw hk hst ?_);simp only[Gv,if_false];rw[hes];exact fin
  ·simp only[Bool.not_true,Gv,if_false];rw[hes];exact fin
def jz{h h':Heap}{a b:Addr}{k:List K}{o:Obj}{es:Array (Int×Value)}{ep:Nat}{t:SetTable}(hk:IsTupleKey knd h k b)(ho:h.get? a=some o)(hd:o.data=.set es ep t)(hs:Heap.SameBut a h h'):IsTupleKey knd h' k b:=by
 obtain⟨o',items,n,ho',hc,hd',hi⟩:=hk;have hne:b≠a:=by rintro rfl;rw[ho]at ho';cases ho';rw[hd]at hd';cases hd'
 exact⟨o',items,n,(hs.2 b hne).trans ho',hc,hd',hi⟩
def uA(n:Nat){v:Value}(h:∀b,v≠.ref b):∃c,hashByValue n v=pure c:=by
 cases v with
 | ref b=>exact absurd rfl (h b)
 | _=>exact⟨_,by cases n<;>unfold hashByValue<;>rfl⟩
def yH{ks:List K}{b:Addr}{Q:Bool->Shared->Prop}(hk:IsTupleKey knd s.heap ks b)(h:∀c,Q c s):wpAny (model P w) A (hashByValue 8 (.ref b)) Q E s:=by
 have hT:=hk.typeIs;obtain⟨o,items,n,ho,hc,hd,hi⟩:=hk;unfold hashByValue;refine FA (wpAny_specialOf hT F.slot_tuple_hash.lookup ?_);dsimp only;refine FA (wpAny_seqItems ho hd ?_);dsimp only[Option.getD_some];refine FA ?_;rw[←Array.forIn_toList];refine wpAny_forIn_list _ (λrest r s'=>(r.1=none\/∃c,r.1=some c)/\s'=s/\∀v∈rest,∀b,v≠.ref b) _ ?_ ?_ _ _ ⟨.inl rfl,rfl,qA hi⟩
 ·rintro v rest r s' ⟨hr,rfl,hall⟩;obtain⟨c,hc'⟩:=uA 7 (hall v FO);rw[hc'];refine FA (FC ?_);cases c
  ·show wpAny _ _ (pure (ForInStep.done (some false,()))) _ _ _;exact FC (FC (h false))
  ·simp only[Bool.not_true,Gv,if_false];exact FC ⟨.inl rfl,rfl,λu hu=>hall u (FK _ hu)⟩
 ·rintro⟨r1,r2⟩ s' ⟨hr,rfl,_⟩;simp only at hr;rcases hr with rfl|⟨c,rfl⟩
  ·exact FC (h true)
  ·exact FC (h c)
def yL{α:Type}{es:Array α}{order:Array Nat}(h:order.toList.Perm (GC es.size)):(order.filterMap (es[·]?)).size=es.size/\∀e∈(order.filterMap (es[·]?)).toList,e∈es.toList:=by
 have key:∀l:List Nat,(∀i∈l,i<es.size)->(l.filterMap (es[·]?)).length=l.length/\∀e∈l.filterMap (es[·]?),e∈es.toList:=by
  intro l;induction l with
  | nil=>intro _;exact⟨rfl,λe he=>by cases he⟩
  | cons x l ih=>
   intro hl;obtain⟨i1,i2⟩:=ih λi hi=>hl i (FK _ hi);have hx:=hl x FO;have e:(x::l).filterMap (es[·]?)=es[x]::l.filterMap (es[·]?):=by rw[List.filterMap_cons];simp[hx]
   rw[e];refine⟨by rw[Ge,Ge,i1],λy hy=>?_⟩;rcases FX.mp hy with rfl|hy
   ·simp
   ·exact i2 y hy
 have hlt:∀i∈order.toList,i<es.size:=λi hi=>List.mem_range.mp (h.mem_iff.mp hi);obtain⟨k1,k2⟩:=key order.toList hlt;rw[Array.toList_filterMap];refine⟨?_,k2⟩;rw[←FL,Array.toList_filterMap,k1,h.length_eq,List.length_range]
def BX{α:Type}{es:Array α}{order:Array Nat}(h:order.toList.Perm (GC es.size)):(order.filterMap (es[·]?)).toList.Perm es.toList:=by
 rw[Array.toList_filterMap];have e:(GC es.size).filterMap (es[·]?)=es.toList:=by
  apply List.ext_getElem?;intro n;have e0:es.toList[n]?=es[n]?:=Array.getElem?_toList;rw[e0,Tb.oC es _ (λi hi=>List.mem_range.mp hi)];by_cases hn:n<es.size
  ·rw[List.getElem?_range hn];rfl
  ·have e1:(GC es.size)[n]?=none:=List.getElem?_eq_none (by rw[List.length_range];omega);rw[e1,Array.getElem?_eq_none (by omega)];rfl
 rw[←e];exact h.filterMap _
end
section
variable {P:Program} {w:World} {A:Around} {E:Value->Shared->Prop} {s:Shared}
def items_str{ks:List Key}{vs:List Value}(h:ItemsAre (aO P w) ks vs){x:Str}(hx:Sum.inr x∈ks):∃t,Value.str x t∈vs:=by
 induction h with
 | nil=>cases hx
 | @cons k v ks vs hk _ ih=>
  rcases FX.mp hx with rfl|hx
  ·rcases ft (show gL (.inr x) v=true from hk)with⟨i,t,e,_⟩|⟨y,t,e,rfl⟩
   ·cases e
   ·cases e;exact⟨t,FO⟩
  ·obtain⟨t,ht⟩:=ih hx;exact⟨t,FK _ ht⟩
def CJ{ks:List Key}{b:Addr}{x:Str}{Q:Bool->Shared->Prop}(hk:IsTupleKey (aO P w) s.heap ks b)(hx:Sum.inr x∈ks)(h:Q false s):wpAny (model P w) A (hashByValue 8 (.ref b)) Q E s:=by
 have hT:=hk.typeIs;obtain⟨o,items,n,ho,hc,hd,hi⟩:=hk;unfold hashByValue;refine FA (wpAny_specialOf hT F.slot_tuple_hash.lookup ?_);dsimp only;refine FA (wpAny_seqItems ho hd ?_);dsimp only[Option.getD_some];refine FA ?_;rw[←Array.forIn_toList];refine wpAny_forIn_list _ (λrest r s'=>r.1=none/\s'=s/\(∀v∈rest,∀b,v≠.ref b)/\∃t,Value.str x t∈rest) _ ?_ ?_ _ _ ⟨rfl,rfl,qA hi,items_str hi hx⟩
 ·rintro v rest r s' ⟨hr,rfl,hall,t,ht⟩;obtain⟨c,hc'⟩:=uA 7 (hall v FO);rw[hc'];refine FA (FC ?_);cases c
  ·show wpAny _ _ (pure (ForInStep.done (some false,()))) _ _ _;exact FC (FC h)
  ·simp only[Bool.not_true,Gv,if_false];refine FC ⟨rfl,rfl,λu hu=>hall u (FK _ hu),t,?_⟩;rcases FX.mp ht with rfl|ht
   ·exact absurd hc' (λz=>by
     have:hashByValue 7 (Value.str x t)=pure false:=by unfold hashByValue;rfl
     rw[this]at z;injection z with z
     cases z)
   ·exact ht
 ·rintro⟨r1,r2⟩ s' ⟨hr,rfl,_,t,ht⟩;cases ht
def eC(P:Program)(w:World)(B:Addr->List Key->Prop)(h:Heap)(a:Addr)(ks:List (List Key)):Prop:=ks.Nodup ∧
 ∃o es ep t,h.get? a=some o/\o.ExactSet/\o.data=.set es ep t/\t.dummies = #[]/\Tb.Mask t.mask/\es.size*5<t.mask*3/\es.size=ks.length/\Tb.TOk t.mask t.place (es.map (·.1)) ∧
  (∀e∈es.toList,∃b k,e=(tupleKeyHash (aO P w) k,.ref b)/\k∈ks/\IsTupleKey (aO P w) h k b/\B b k)/\(∀k∈ks,∃b,(tupleKeyHash (aO P w) k,.ref b)∈es.toList/\IsTupleKey (aO P w) h k b)/\((∀k∈ks,∃x,Sum.inr x∈k)->ks=[]\/t.plain=false)
def A9{B:Addr->List Key->Prop}{a:Addr}{o:Obj}{es es1:Array (Int×Value)}{ep n:Nat}{t t1:SetTable}{ks1:List (List Key)}{Q:Bool->Shared->Prop}(hnd:ks1.Nodup)(ho:s.heap.get? a=some o)(hex:o.ExactSet)(hd:o.data=.set es ep t)(hs1:es1.size=n+1)(hdm1:t1.dummies = #[])
  (hm1:Tb.Mask t1.mask) (hfull:n*5<t1.mask*3) (hn:n<1400) (hlen:ks1.length=n+1) (hT1:Tb.TOk t1.mask t1.place (es1.map (·.1))) (hall1:∀e∈es1.toList,∃b k,e=(tupleKeyHash (aO P w) k,.ref b)/\k∈ks1/\IsTupleKey (aO P w) s.heap k b/\B b k)
  (hin1:∀k∈ks1,∃b,(tupleKeyHash (aO P w) k,.ref b)∈es1.toList/\IsTupleKey (aO P w) s.heap k b) (hpl1:(∀k∈ks1,∃x,Sum.inr x∈k)->t1.plain=false)
  (h:∀h',Heap.SameBut a s.heap h'->eC P w B h' a ks1->Q true { s with heap:=h' }) :
  wpAny (model P w) A (do
   storeSet a es1 t1
   if(!false && t1.tooFull)=true then do
    setRelay a (SetTable.grown (n+1))
    pure true
   else pure true) Q E s:=by
 have hline:n+1<=sizeLine:=Gh (show n+1<=10000 by omega) (by decide);have hp1:t1.place.size=es1.size:=by rw[hT1.len,Array.size_map]
 refine FA (wpAny_storeSet_of ho hd ?_ (by omega));have ho1:(s.heap.update a (Obj.putSet es1 t1)).get? a=some { o with data:=.set es1 (ep+1) t1 }:=by have:=Heap.get?_update_self (Obj.putSet es1 t1) ho (by rw[putSet_of es1 t1 hd];rfl);rw[putSet_of es1 t1 hd]at this;exact this
 have hsb1:=Heap.SameBut.update s.heap a (Obj.putSet es1 t1);generalize s.heap.update a (Obj.putSet es1 t1)=h1 at ho1 hsb1;have hall2:∀e∈es1.toList,∃b k,e=(tupleKeyHash (aO P w) k,.ref b)/\k∈ks1/\IsTupleKey (aO P w) h1 k b/\B b k:=λe he=>by obtain⟨b,k,z1,z2,z3,z4⟩:=hall1 e he;exact⟨b,k,z1,z2,jz z3 ho hd hsb1,z4⟩
 have hin2:∀k∈ks1,∃b,(tupleKeyHash (aO P w) k,.ref b)∈es1.toList/\IsTupleKey (aO P w) h1 k b:=λk hk=>by obtain⟨b,z1,z2⟩:=hin1 k hk;exact⟨b,z1,jz z2 ho hd hsb1⟩
 have hfill:t1.fill=n+1:=by unfold SetTable.fill;rw[hdm1,hp1,hs1];rfl
 by_cases hq:t1.tooFull=true
 ·rw[hq];simp only[Bool.not_false,Bool.and_self,if_true];have hq':t1.mask*3<=(n+1)*5:=by unfold SetTable.tooFull at hq;rw[hfill]at hq;simpa using hq
  obtain⟨m,hm,hw,hmn,hlt⟩:∃m,Tb.Mask m/\SetTable.sizeAbove (SetTable.grown (n+1))-1=m/\n+1<=m/\(n+1)*5<m*3/\SetTable.sizeAbove (SetTable.grown (n+1))<=sizeLine:=by
   have hg:SetTable.grown (n+1)=(n+1)*4:=by unfold SetTable.grown;rw[GG (by omega)]
   rw[hg];rcases hm1 with e|e|e|e|e|e<;>rw[e]at hfull hq'
   ·obtain rfl:n=4:=by omega
    exact⟨31,.inr (.inl rfl),Tb.Bk,by omega,by omega,by decide +kernel⟩
   ·obtain rfl:n=18:=by omega
    exact⟨127,.inr (.inr (.inl rfl)),Tb.DC,by omega,by omega,by decide +kernel⟩
   ·obtain rfl:n=76:=by omega
    exact⟨511,.inr (.inr (.inr (.inl rfl))),Tb.zh,by omega,by omega,by decide +kernel⟩
   ·obtain rfl:n=306:=by omega
    exact⟨2047,.inr (.inr (.inr (.inr (.inl rfl)))),Tb.zw,by omega,by omega,by decide +kernel⟩
   ·obtain rfl:n=1228:=by omega
    exact⟨8191,.inr (.inr (.inr (.inr (.inr rfl)))),Tb.Du,by omega,by omega,by decide +kernel⟩
   ·omega
  have hfit1:t1.fits es1.size=true:=by simp only[SetTable.fits,Gn,beq_iff_eq,decide_eq_true_eq];refine⟨hp1,?_⟩;rw[hfill];rcases hm1 with e|e|e|e|e|e<;>omega
  obtain⟨t2,order,hrel,hp2,hd2,hm2,hperm,_,hpl2,hT2⟩:=Tb.CO t1 (es:=es1) hm hw (by omega);obtain⟨r1,r2⟩:=yL hperm;have r3:=BX hperm;refine FA ?_;unfold setRelay;refine FA (GA (s:={ s with heap:=h1 }) ho1 rfl hfit1 ?_);dsimp only;rw[GG (Nat.not_lt.mpr hlt.2),hrel];refine FA ?_;show wpAny _ _ (do
   if(order.filterMap (es1[·]?)).size != es1.size then unsupported "internal:set-table-lost-an-element"
   pure (order.filterMap (es1[·]?),t2)) _ _ _
  rw[r1];simp only[bne_self_eq_false,Gv,if_false];refine FC ?_;dsimp only;refine wpAny_storeSet_of (s:={ s with heap:=h1 }) ho1 rfl ?_ (by rw[r1];omega);have ho2:(h1.update a (Obj.putSet (order.filterMap (es1[·]?)) t2)).get? a=some { o with data:=.set (order.filterMap (es1[·]?)) (ep+1+1) t2 }:=by have:=Heap.get?_update_self (Obj.putSet (order.filterMap (es1[·]?)) t2) ho1 (by rw[putSet_of _ _ (o:={ o with data:=.set es1 (ep+1) t1 }) rfl];rfl);rw[putSet_of _ _ (o:={ o with data:=.set es1 (ep+1) t1 }) rfl]at this;exact this
  have hsb2:=Heap.SameBut.update h1 a (Obj.putSet (order.filterMap (es1[·]?)) t2);refine FC (h _ (hsb1.trans hsb2) ⟨hnd,_,_,_,t2,ho2,hex,rfl,hd2,by rw[hm2];exact hm,by rw[r1,hm2,hs1];exact hlt.1,by rw[r1,hs1,hlen],by rw[hm2];exact hT2,λe he=>?_,λk hk=>?_,λhx=>.inr (hpl2.trans (hpl1 hx))⟩)
  ·obtain⟨b,k,z1,z2,z3,z4⟩:=hall2 e (r2 e he);exact⟨b,k,z1,z2,jz z3 ho1 rfl hsb2,z4⟩
  ·obtain⟨b,z1,z2⟩:=hin2 k hk;exact⟨b,r3.mem_iff.mpr z1,jz z2 ho1 rfl hsb2⟩
 ·have hq0:t1.tooFull=false:=by simpa using hq
  rw[hq0];simp only[Bool.and_false,Gv,if_false];have hq':(n+1)*5<t1.mask*3:=by unfold SetTable.tooFull at hq0;rw[hfill]at hq0;simpa using hq0
  exact FC (h h1 hsb1 ⟨hnd,_,es1,_,t1,ho1,hex,rfl,hdm1,hm1,by rw[hs1];exact hq',by rw[hs1,hlen],hT1,hall2,hin2,λhx=>.inr (hpl1 hx)⟩)
def r9{α:Type}{xs:Array α}{p:Nat}{x e:α}(h:e=x\/e∈xs.toList):e∈(SetTable.insertAt xs p x).toList:=by
 rw[Tb.iw];rcases h with rfl|h
 ·exact Gr _ FO
 ·rw[←List.take_append_drop p xs.toList]at h;rcases F8.mp h with a|a
  ·exact Gs _ a
  ·exact Gr _ (FK _ a)
def ins_map{α β:Type}(f:α->β)(xs:Array α)(p:Nat)(x:α):(SetTable.insertAt xs p x).map f=SetTable.insertAt (xs.map f) p (f x):=by apply Array.toList_inj.mp;rw[Array.toList_map,Tb.iw,Tb.iw,Array.toList_map];simp
def El{B:Addr->List Key->Prop}{a b:Addr}{k:List Key}{ks:List (List Key)}{Q:Bool->Shared->Prop}(hu:A.units<cLine)(hk:IsTupleKey (aO P w) s.heap k b)(hB:B b k)(hS:eC P w B s.heap a ks)(hsz:ks.length<1400)
  (h:∀h' r ks',Heap.SameBut a s.heap h'->eC P w B h' a ks'->ks'.length<=ks.length+1->(∀x,x∈ks'↔x∈ks\/x=k)->Q r { s with heap:=h' }):wpAny (model P w) A (setAddHashed a (.ref b) (tupleKeyHash (aO P w) k)) Q E s:=by
 obtain⟨hnd,o,es,ep,t,ho,hex,hd,hdm,hm,hfull,hlen,hT,hall,hin,hpl⟩:=id hS;have hp:t.place.size=es.size:=by rw[hT.len,Array.size_map]
 have hle:es.size<=t.mask:=by omega
 have hf:t.fits es.size=true:=by simp only[SetTable.fits,Gn,beq_iff_eq,decide_eq_true_eq];refine⟨hp,?_⟩;unfold SetTable.fill;rw[hdm,hp];simpa using hle
 have hturn:10*SetTable.turns t.mask<100000:=by unfold SetTable.turns;rcases hm with e|e|e|e|e|e<;>rw[e]<;>decide
 have hst:∀x,(Tb.aK t x (Option.getD none (t.probeStart (tupleKeyHash (aO P w) k)))).j=Tb.pm t.mask (tupleKeyHash (aO P w) k) x:=λx=>Tb.tW t _ x;unfold setAddHashed setAddHashedIn;refine wpAny_holding (FA (GA ho hd hf ?_));dsimp only;have hsc:byScan (.ref b) es=false:=rfl;rw[hsc];simp only[Gv,if_false];unfold setSearch;rcases Classical.em (k∈ks)with hold|hold
 ·obtain⟨b0,hb0,hkb0⟩:=hin k hold;obtain⟨i0,hi0⟩:=Gx hb0;rw[Array.getElem?_toList]at hi0;have hi0s:=(Array.getElem?_eq_some_iff.mp hi0).1;obtain⟨j0,hj0⟩:∃j0,t.place[i0]?=some j0:=⟨_,getElem?_pos t.place i0 (by omega)⟩;obtain⟨K,q1,q2,q3⟩:=hT.rch i0 j0 (tupleKeyHash (aO P w) k) hj0 (by rw[Array.getElem?_map,hi0];rfl);refine FA (A8 hu hk ho hd hf hm hdm (λe he=>?_) ⟨b0,hi0,hkb0⟩ ?_ K 100000 none (by omega) q1 rfl (λx hx=>?_) ?_)
  ·obtain⟨b',k',e1,_,e3,_⟩:=hall e he;exact⟨b',k',by rw[e1],e3⟩
  ·dsimp only;refine FC ?_;have e:s={ s with heap:=s.heap }:=by cases s;rfl
   rw[e];exact h s.heap _ ks (Heap.SameBut.refl a s.heap) hS (Nat.le_succ _) λx=>⟨.inl,λz=>z.elim id λe=>e ▸ hold⟩
  ·rw[hst];obtain⟨i,e,_⟩:=Tb.uV hT.inc (q3 x hx);rw[e];intro z;cases z
  ·rw[hst,q2];exact Tb.slot_mem hT.inc hj0
 ·obtain⟨K,q1,q2,q3⟩:=Tb.BM hdm hm (by rw[hp];exact hle) (tupleKeyHash (aO P w) k);have hall':∀e∈es.toList,∃b' k',e.2=.ref b'/\IsTupleKey (aO P w) s.heap k' b'/\k'≠k:=λe he=>by obtain⟨b',k',h1,h2,h3,_⟩:=hall e he;exact⟨b',k',by rw[h1],h3,λz=>hold (z ▸ h2)⟩
  refine FA (EE hu hk ho hd hf hm hdm hall' K 100000 none (by omega) q1 rfl (λx hx=>by rw[hst];exact q3 x hx) (by rw[hst];exact q2) ?_);rw[hst];dsimp only;refine FA (GA ho hd hf ?_);dsimp only;have hnm:=Tb.Fe hT.inc q2;have hTp:=hT.put q1 hnm (λx hx=>Tb.yS hdm (q3 x hx));have hput:(t.put (Tb.pm t.mask (tupleKeyHash (aO P w) k) K)).1.dummies = #[]:=by show(if SetTable.has t.dummies _=true then _ else t.dummies) = #[];rw[hdm,Tb.uh];rfl
  generalize Tb.pm t.mask (tupleKeyHash (aO P w) k) K=j at hTp hput;have hT1:Tb.TOk t.mask (t.put j).1.place ((SetTable.insertAt es (t.put j).2 (tupleKeyHash (aO P w) k,Value.ref b)).map (·.1)):=by rw[ins_map];exact hTp
  have hins:∀e∈(SetTable.insertAt es (t.put j).2 (tupleKeyHash (aO P w) k,Value.ref b)).toList,∃b' k',e=(tupleKeyHash (aO P w) k',.ref b')/\k'∈k::ks/\IsTupleKey (aO P w) s.heap k' b'/\B b' k':=λe he=>by
   rcases Tb.Cv he with rfl|he
   ·exact⟨b,k,rfl,FO,hk,hB⟩
   ·obtain⟨b',k',z1,z2,z3,z4⟩:=hall e he;exact⟨b',k',z1,FK _ z2,z3,z4⟩
  have hin':∀k'∈k::ks,∃b',(tupleKeyHash (aO P w) k',Value.ref b')∈(SetTable.insertAt es (t.put j).2 (tupleKeyHash (aO P w) k,Value.ref b)).toList/\IsTupleKey (aO P w) s.heap k' b':=λk' hk'=>by
   rcases FX.mp hk' with rfl|hk'
   ·exact⟨b,r9 (.inl rfl),hk⟩
   ·obtain⟨b',z1,z2⟩:=hin k' hk';exact⟨b',r9 (.inr z1),z2⟩
  have hnd':(k::ks).Nodup:=List.nodup_cons.mpr ⟨hold,hnd⟩;have h':∀h',Heap.SameBut a s.heap h'->eC P w B h' a (k::ks)->Q true { s with heap:=h' }:=λh2 sb hS'=>h h2 true _ sb hS' (F5 _) λx=>by rw[FX];exact⟨λz=>z.symm,λz=>z.symm⟩
  have fin:∀c:Bool,((∀k'∈k::ks,∃x,Sum.inr x∈k')->(t.put j).1.plain=false\/c=false)->wpAny (model P w) A (do
    storeSet a (SetTable.insertAt es (t.put j).2 (tupleKeyHash (aO P w) k,Value.ref b)) (if c=true then(t.put j).1 else{ (t.put j).1 with plain:=false })
    if(!false && (if c=true then(t.put j).1 else{ (t.put j).1 with plain:=false }).tooFull)=true then do
     setRelay a (SetTable.grown (es.size+1))
     pure true
    else pure true) Q E s:=λc hcp=>by
   refine A9 (ks1:=k::ks) hnd' ho hex hd (Tb.oW _ _ _) ?_ ?_ ?_ (by omega) (by rw[Ge,hlen]) ?_ hins hin' ?_ h'
   ·cases c<;>exact hput
   ·cases c<;>exact hm
   ·cases c<;>exact hfull
   ·cases c<;>exact hT1
   ·intro hx;cases c
    ·rfl
    ·rcases hcp hx with z|z
     ·exact z
     ·cases z
  cases hpl':(t.put j).1.plain
  ·simp only[Gv,if_false];exact FA (FC (fin true λ_=>.inl hpl'))
  ·simp only[if_true];rcases Classical.em (∃x,Sum.inr x∈k)with⟨x,hx⟩|hx
   ·exact FA (CJ hk hx (fin false λ_=>.inr rfl))
   ·exact FA (yH hk λc=>fin c λhall=>absurd (hall k FO) hx)
end
section
variable {P:Program} {w:World} {A:Around} {I:Addr} {fp wr:List Addr} {G:Array GenState->Array GenState->Prop} {n:Nat} {Pz:Nat->Value->Prop} {St:Nat->Shared->Prop}
def eC.moved{B:Addr->List Key->Prop}{h h':Heap}{a:Addr}{ks:List (List Key)}{wr:List Addr}(hS:eC P w B h a ks)(hk:∀b o,b∉wr->h.get? b=some o->h'.get? b=some o)(ha:a∉wr)(hw:∀b∈wr,∀o,h.get? b=some o->∃vs,o.data=.fields vs):eC P w B h' a ks:=by
 obtain⟨hnd,o,es,ep,t,ho,hex,hd,h1,h2,h3,h4,h5,hall,hin,hpl⟩:=hS;have mv:∀k b,IsTupleKey (aO P w) h k b->IsTupleKey (aO P w) h' k b:=λk b ⟨o',items,m,ho',hc,hd',hi⟩=>⟨o',items,m,hk b o' (λhb=>by obtain⟨vs,hv⟩:=hw b hb o' ho';rw[hd']at hv;cases hv) ho',hc,hd',hi⟩
 refine⟨hnd,o,es,ep,t,hk a o ha ho,hex,hd,h1,h2,h3,h4,h5,λe he=>?_,λk hk=>?_,hpl⟩
 ·obtain⟨b,k,z1,z2,z3,z4⟩:=hall e he;exact⟨b,k,z1,z2,mv k b z3,z4⟩
 ·obtain⟨b,z1,z2⟩:=hin k hk;exact⟨b,z1,mv k b z2⟩
def vO{B:Addr->List Key->Prop}(W:WalksS P w A.in1 I fp wr G n Pz St)(S:Addr)(hS:S∉fp)(hu:A.in1.units<cLine)(bs:List Addr)(kk:List (List Key))(hnk:kk.length=n)(hBk:∀(j:Nat) b k,bs[j]?=some b->kk[j]?=some k->B b k)(hsz:n<1400)
  (hval:∀i v,Pz i v->∃b,v=.ref b/\bs[i]?=some b) (hwr:∀i s,St i s->∀b∈wr,∀o,s.heap.get? b=some o->∃vs,o.data=.fields vs) {R:Result->Shared->Prop} :
  ∀(m i:Nat) (s:Shared) (D:List (List Key)),n-i=m->i<=n->St i s->eC P w B s.heap S D->D.length<=i->(∀k,k∈D↔k∈kk.take i)->(∀(j:Nat) (b:Addr) (k:List Key),bs[j]?=some b->kk[j]?=some k->IsTupleKey (aO P w) s.heap k b) →
   (∀s' D,Moved (S::wr) G s s'->eC P w B s'.heap S D->(∀k,k∈D↔k∈kk)->R (.ok (.ret .none)) s') →
   codeAny (model P w) A (.builtin "set.update.loop" ⟨[.ref S,.ref I],[]⟩) R s:=by
 have hSw:S∉wr:=λz=>hS (W.sub _ z);have more:∀b∈wr,b∈S::wr:=λb z=>FK _ z;intro m;induction m with
 | zero=>
  intro i s D hm hi hst hset _ hD hkeys hR;obtain rfl:i=n:=by omega
  refine codeAny_builtin F.entry_set_update_loop ?_;rw[Around.under_plainId F.plain_set_update_loop _];show wpAny _ A.in1 (pyNext (.ref I) >>= _) _ _ s;refine FA (W.done s _ _ hst λs' mv=>?_);rw[←hnk,Gf]at hD;exact FC (hR s' D (mv.mono more) (hset.moved mv.heap hSw (hwr _ s hst)) hD)
 | succ m ih=>
  intro i s D hm hi hst hset hDl hD hkeys hR;have hlt:i<n:=by omega
  refine codeAny_builtin F.entry_set_update_loop ?_;rw[Around.under_plainId F.plain_set_update_loop _];show wpAny _ A.in1 (pyNext (.ref I) >>= _) _ _ s;refine FA (W.item i s _ _ hlt hst λv s' hP hst' mv=>?_);obtain⟨b,rfl,hb⟩:=hval i v hP;have hki:kk[i]?=some kk[i]:=FI (by omega);have hset':=hset.moved mv.heap hSw (hwr _ s hst);have hkeys':∀(j:Nat) (b:Addr) (k:List Key),bs[j]?=some b->kk[j]?=some k->IsTupleKey (aO P w) s'.heap k b:=λj b k e1 e2=>by obtain⟨o',items,q,ho',hc,hd',hi'⟩:=hkeys j b k e1 e2;refine⟨o',items,q,mv.heap b o' (λhbw=>?_) ho',hc,hd',hi'⟩;obtain⟨vs,hv⟩:=hwr _ s hst b hbw o' ho';rw[hd']at hv;cases hv
  show wpAny _ A.in1 (holding [Value.ref b] (setAdd S (.ref b)) >>= _) _ _ s';refine FA (wpAny_holding ?_);unfold setAdd;refine wpAny_holding (FA (wpAny_pyHash_tuple hu (hkeys' i b _ hb hki) ?_));refine El (s:={ s' with toks:=s'.toks+(kk[i].length+1) }) hu (hkeys' i b _ hb hki) (hBk i b _ hb hki) hset' (by omega) λh' r D1 sb hset2 hD1l hD1=>?_;have htk:∀k,k∈D1↔k∈kk.take (i+1):=λk=>by rw[hD1,hD k,List.take_add_one,hki,F8];simp
  obtain⟨_,oS,esS,epS,tS,hoS,_,hdS,_⟩:=id hset';refine FC ⟨plainId_quiet F.plain_set_update_loop _,ih (i+1) _ _ (by omega) hlt (W.frame _ s' _ _ hst' (Nat.le_add_right _ _) λc hc o e=>?_) hset2 (by omega) htk (λj c k e1 e2=>jz (hkeys' j c k e1 e2) hoS hdS sb) λs'' D2 mv2 hS2=>?_⟩
  ·rw[sb.2 c (λz:c=S=>hS (z ▸ hc))];exact e
  ·refine hR s'' D2 (Moved.trans W.gtrans ((mv.mono more).then_heap (Nat.le_add_right _ _) λc o hc e=>?_) mv2) hS2;rw[sb.2 c (λz:c=S=>hc (by rw[z];exact FO))];exact e
end
section
variable {P:Program} {w:World} {A:Around} {E:Value->Shared->Prop} {s:Shared}
abbrev cN(led:Bool):Obj:={ cls:=.type "set",dict:=none,data:=.set #[] 0 (.fresh 0 0 led) }
def iW(P:Program)(w:World)(s:Shared)(bs:List Addr)(kk D:List (List Key))(h':Heap):Prop:=
 eC P w (λb k=>∃j:Nat,bs[j]?=some b/\kk[j]?=some k) h' s.heap.objs.size D/\(∀k,k∈D↔k∈kk)/\∀b o,b<s.heap.objs.size->s.heap.get? b=some o->h'.get? b=some o
def DJ:isSubtype (.type "tuple") (.type "frozenset")=pure false:=by
 rw[isSubtype_type]
 kernel_rfl
def As{t:Addr}{ys:Array Value}{bs:List Addr}{kk:List (List Key)}{Q:Value->Shared->Prop}(hA:A.handled=none)(hu:A.units+5<cLine)(gt:s.heap.IsTuple t ys)(hb:ys.toList=bs.map Value.ref)
  (hn:kk.length=ys.size) (hz:ys.size<1400) (hkey:∀(j:Nat) (b:Addr) (k:List Key),bs[j]?=some b->kk[j]?=some k->IsTupleKey (aO P w) s.heap k b)
  (h:∀(h':Heap) (tk:Nat) (D:List (List Key)),iW P w s bs kk D h'->Q (.ref s.heap.objs.size) { s with heap:=h',toks:=tk }):wpAny (model P w) A (call (.type "set") [.ref t]) Q E s:=by
 have x1:=F.called_set.notType;have x2:=F.called_set.canCreate;have x3:=F.typeCall_set_1 (.ref t);have x4:=F.called_set.made;have x5:=F.called_set.sub;obtain⟨c,tl,x6⟩:=F.called_set.mro;refine wpAny_call (codeAny_of_tree ?_);show wpAny _ _ (callAny (.type "set") _) _ _ _;refine FC ⟨Code.quiet_builtin _ (by decide +kernel),codeAny_builtin F.entry_type_call ?_⟩;rw[Around.under_plain (weight_type_call_type "set" [.ref t] []) rfl]
 repeat (any_goals (first|assumption|wp_step))
 refine codeAny_mono (code_set_new_1 (.ref t) (E:=E) (Q₁:=λv s1=>∃led,v=.ref s.heap.objs.size/\s1={ s with heap:=s.heap.push (cN led) }) λled=>⟨led,rfl,rfl⟩) λr s1 hr=>?_;cases r with
 | error e=>exact hr
 | ok fl=>
  cases fl with
  | ret v=>
   obtain⟨led,rfl,rfl⟩:=hr;have gS:(s.heap.push (cN led)).get? s.heap.objs.size=some (cN led):=FF _ rfl;have hT:Shared.TypeIs { s with heap:=s.heap.push (cN led) } (.ref s.heap.objs.size) "set":=⟨_,gS,rfl⟩;have x7:=F.called_set.init.lookup;have x8:=F.called_set.init.bind (.ref s.heap.objs.size)
   repeat (any_goals (first|assumption|wp_step))
   refine codeAny_mono (codeAny_call_builtin (R:=wants (λr s2=>r=.none/\∃h' tk D,s2={ s with heap:=h',toks:=tk }/\iW P w s bs kk D h') E) F.called_set.init.plain F.entry_set_init (check_set_init_1 hT ?_)) λr2 s2 hr2=>?_
   ·have g1:(s.heap.push (cN led)).IsTuple t ys:=gt.push _;have hlt:t<s.heap.objs.size:=by obtain⟨o,ho,_⟩:=gt;exact FG ho
    obtain⟨ol,hol,hcl,nl,hdl⟩:=id g1;obtain⟨c0,d0,dt,sl⟩:=ol;simp only at hcl hdl;subst hcl hdl;have y1:=F.sub_tuple_set;have y2:=DJ;have y3:(Value.type "tuple" == Value.type "dict")=false:=by decide
    unfold Builtin.«set.__init__» noKeywords Builtin.Frozenset.updateFrom;generalize hit:pyIter=PI
    wp_walk
    subst hit;refine wpAny_pyIter_tuple g1 ?_;refine FA (wpAny_runValue ?_);have e1:(s.heap.push (cN led)).objs.size=s.heap.objs.size+1:=Heap.size_push _ _;have hA3:A.in1.in1.in1.handled=none:=by simp[hA]
    have hne:t≠(s.heap.push (cN led)).objs.size:=by rw[e1];exact F4 (Nat.lt_succ_of_lt hlt)
    have hSf:s.heap.objs.size∉[(s.heap.push (cN led)).objs.size,t]:=by
     intro z;rcases FX.mp z with z|z
     ·rw[e1]at z;exact F4 (Nat.lt_succ_self _) z
     ·exact Nat.ne_of_gt hlt (FT.mp z)
    have hbs:∀i:Nat,ys[i]?=(bs[i]?).map Value.ref:=λi=>by rw[←Array.getElem?_toList,hb,FJ]
    refine vO (B:=λb k=>∃j:Nat,bs[j]?=some b/\kk[j]?=some k) ((Walks.tuple hA3 _ t hne ys).toS) s.heap.objs.size hSf (by simp only[Around.in1_units];omega) bs kk hn (λj b k q1 q2=>⟨j,q1,q2⟩) hz (λi v hv=>?_) (λi s' hs b hb' o ho=>?_) (ys.size-0) 0 _ [] (by omega) (Nat.zero_le _) ⟨⟨_,FF _ rfl,rfl,rfl⟩,g1.push _⟩ ⟨List.nodup_nil,cN led,#[],0,_,FE _ gS,⟨rfl,rfl,rfl⟩,rfl,rfl,.inl rfl,(show 0*5<7*3 by decide),rfl,(by rw[Array.map_empty];exact Tb.TOk.nil 7),λe he=>(by simp at he),λk hk=>(by cases hk),λ_=>.inl rfl⟩ (F5 _) (λk=>by simp) (λj b k e1 e2=>?_) λs' D mv hS' hD=>?_
    ·have hv':ys[i]?=some v:=hv;rw[hbs i]at hv';obtain⟨b,e,rfl⟩:=FU.mp hv';exact⟨b,rfl,e⟩
    ·cases FT.mp hb';obtain⟨o',ho',_,hd'⟩:=hs.1;rw[ho']at ho;cases ho;exact⟨_,hd'⟩
    ·obtain⟨o,items,q,ho,r⟩:=hkey j b k e1 e2;exact⟨o,items,q,FE _ (FE _ ho),r⟩
    ·obtain⟨h',g',d',tk',os'⟩:=s';have q1:g'=s.gens:=mv.gens;have q2:d'=s.drawn:=mv.drawn;have q3:os'=s.os:=mv.os;subst q1 q2 q3;show wpAny _ _ _ _ _ _;refine FC ?_;show wpAny _ _ (ret Value.none) _ _ _;refine FC ⟨rfl,h',tk',D,rfl,hS',hD,λb o hb e=>mv.heap b o (λz=>?_) (FE _ (FE _ e))⟩;rcases FX.mp z with z|z
     ·exact F4 hb z
     ·have z:=FT.mp z;rw[e1]at z;exact F4 (Nat.lt_succ_of_lt hb) z
   ·cases r2 with
    | error e=>exact hr2
    | ok f2=>
     cases f2 with
     | ret r=>
      obtain⟨rfl,h',tk,D,rfl,hS'⟩:=hr2
      repeat (any_goals (first|assumption|wp_step))
      exact h _ _ D hS'
     | _=>exact hr2.elim
  | _=>exact hr.elim
def DP{t:Addr}{ys:Array Value}{bs:List Addr}{kk:List (List Key)}{Q:Value->Shared->Prop}(hA:A.handled=none)(hu:A.units+5<cLine)(gt:s.heap.IsList t ys)(hb:ys.toList=bs.map Value.ref)
  (hn:kk.length=ys.size) (hz:ys.size<1400) (hkey:∀(j:Nat) (b:Addr) (k:List Key),bs[j]?=some b->kk[j]?=some k->IsTupleKey (aO P w) s.heap k b)
  (h:∀(h':Heap) (tk:Nat) (D:List (List Key)),iW P w s bs kk D h'->Q (.ref s.heap.objs.size) { s with heap:=h',toks:=tk }):wpAny (model P w) A (call (.type "set") [.ref t]) Q E s:=by
 have x1:=F.called_set.notType;have x2:=F.called_set.canCreate;have x3:=F.typeCall_set_1 (.ref t);have x4:=F.called_set.made;have x5:=F.called_set.sub;obtain⟨c,tl,x6⟩:=F.called_set.mro;refine wpAny_call (codeAny_of_tree ?_);show wpAny _ _ (callAny (.type "set") _) _ _ _;refine FC ⟨Code.quiet_builtin _ (by decide +kernel),codeAny_builtin F.entry_type_call ?_⟩;rw[Around.under_plain (weight_type_call_type "set" [.ref t] []) rfl]
 repeat (any_goals (first|assumption|wp_step))
 refine codeAny_mono (code_set_new_1 (.ref t) (E:=E) (Q₁:=λv s1=>∃led,v=.ref s.heap.objs.size/\s1={ s with heap:=s.heap.push (cN led) }) λled=>⟨led,rfl,rfl⟩) λr s1 hr=>?_;cases r with
 | error e=>exact hr
 | ok fl=>
  cases fl with
  | ret v=>
   obtain⟨led,rfl,rfl⟩:=hr;have gS:(s.heap.push (cN led)).get? s.heap.objs.size=some (cN led):=FF _ rfl;have hT:Shared.TypeIs { s with heap:=s.heap.push (cN led) } (.ref s.heap.objs.size) "set":=⟨_,gS,rfl⟩;have x7:=F.called_set.init.lookup;have x8:=F.called_set.init.bind (.ref s.heap.objs.size)
   repeat (any_goals (first|assumption|wp_step))
   refine codeAny_mono (codeAny_call_builtin (R:=wants (λr s2=>r=.none/\∃h' tk D,s2={ s with heap:=h',toks:=tk }/\iW P w s bs kk D h') E) F.called_set.init.plain F.entry_set_init (check_set_init_1 hT ?_)) λr2 s2 hr2=>?_
   ·have g1:(s.heap.push (cN led)).IsList t ys:=gt.push _;have hlt:t<s.heap.objs.size:=by obtain⟨o,ho,_⟩:=gt;exact FG ho
    obtain⟨ol,hol,hcl,nl,hdl⟩:=id g1;obtain⟨c0,d0,dt,sl⟩:=ol;simp only at hcl hdl;subst hcl hdl;have y1:=F.sub_list_set;have y2:=F.sub_list_frozenset;have y3:(Value.type "list" == Value.type "dict")=false:=by decide
    unfold Builtin.«set.__init__» noKeywords Builtin.Frozenset.updateFrom;generalize hit:pyIter=PI
    wp_walk
    subst hit;refine wpAny_pyIter_list g1 ?_;refine FA (wpAny_runValue ?_);have e1:(s.heap.push (cN led)).objs.size=s.heap.objs.size+1:=Heap.size_push _ _;have hA3:A.in1.in1.in1.handled=none:=by simp[hA]
    have hne:t≠(s.heap.push (cN led)).objs.size:=by rw[e1];exact F4 (Nat.lt_succ_of_lt hlt)
    have hSf:s.heap.objs.size∉[(s.heap.push (cN led)).objs.size,t]:=by
     intro z;rcases FX.mp z with z|z
     ·rw[e1]at z;exact F4 (Nat.lt_succ_self _) z
     ·exact Nat.ne_of_gt hlt (FT.mp z)
    have hbs:∀i:Nat,ys[i]?=(bs[i]?).map Value.ref:=λi=>by rw[←Array.getElem?_toList,hb,FJ]
    refine vO (B:=λb k=>∃j:Nat,bs[j]?=some b/\kk[j]?=some k) ((Walks.list hA3 _ t hne ys).toS) s.heap.objs.size hSf (by simp only[Around.in1_units];omega) bs kk hn (λj b k q1 q2=>⟨j,q1,q2⟩) hz (λi v hv=>?_) (λi s' hs b hb' o ho=>?_) (ys.size-0) 0 _ [] (by omega) (Nat.zero_le _) ⟨⟨_,FF _ rfl,rfl,rfl⟩,g1.push _⟩ ⟨List.nodup_nil,cN led,#[],0,_,FE _ gS,⟨rfl,rfl,rfl⟩,rfl,rfl,.inl rfl,(show 0*5<7*3 by decide),rfl,(by rw[Array.map_empty];exact Tb.TOk.nil 7),λe he=>(by simp at he),λk hk=>(by cases hk),λ_=>.inl rfl⟩ (F5 _) (λk=>by simp) (λj b k e1 e2=>?_) λs' D mv hS' hD=>?_
    ·have hv':ys[i]?=some v:=hv;rw[hbs i]at hv';obtain⟨b,e,rfl⟩:=FU.mp hv';exact⟨b,rfl,e⟩
    ·cases FT.mp hb';obtain⟨o',ho',_,hd'⟩:=hs.1;rw[ho']at ho;cases ho;exact⟨_,hd'⟩
    ·obtain⟨o,items,q,ho,r⟩:=hkey j b k e1 e2;exact⟨o,items,q,FE _ (FE _ ho),r⟩
    ·obtain⟨h',g',d',tk',os'⟩:=s';have q1:g'=s.gens:=mv.gens;have q2:d'=s.drawn:=mv.drawn;have q3:os'=s.os:=mv.os;subst q1 q2 q3;show wpAny _ _ _ _ _ _;refine FC ?_;show wpAny _ _ (ret Value.none) _ _ _;refine FC ⟨rfl,h',tk',D,rfl,hS',hD,λb o hb e=>mv.heap b o (λz=>?_) (FE _ (FE _ e))⟩;rcases FX.mp z with z|z
     ·exact F4 hb z
     ·have z:=FT.mp z;rw[e1]at z;exact F4 (Nat.lt_succ_of_lt hb) z
   ·cases r2 with
    | error e=>exact hr2
    | ok f2=>
     cases f2 with
     | ret r=>
      obtain⟨rfl,h',tk,D,rfl,hS'⟩:=hr2
      repeat (any_goals (first|assumption|wp_step))
      exact h _ _ D hS'
     | _=>exact hr2.elim
  | _=>exact hr.elim
end
namespace SF
end SF
section
variable {P:Program} {w:World} {A:Around} {E:Value->Shared->Prop} {s:Shared}
end
end L2
namespace PyProof.Rows
open PySem
section
variable {prog:Program} {w:World} {A:Around} {E:Value->Shared->Prop} {s:Shared} {κ:SortKind} {X:Keyed->Prop}
end
end PyProof.Rows
namespace L2
open PySem PySem.Spec PyProof.Rows
section
variable {P:Program} {w:World} {A:Around} {E:Value->Shared->Prop} {s:Shared}
open Classical in
def wW{α:Type}{D ds:List α}(hd:D.Nodup)(hs:∀k∈D,k∈ds)(hl:ds.length=D.length):ds.Perm D:=by
 induction D generalizing ds with
 | nil=>
  rw[List.length_nil,List.length_eq_zero_iff]at hl;subst hl;exact .refl _
 | cons d D ih=>
  have hm:=hs d FO;have p1:=List.perm_cons_erase hm;have hd':=List.nodup_cons.mp hd;refine p1.trans ((ih hd'.2 (λk hk=>?_) ?_).cons d)
  ·refine(List.mem_erase_of_ne ?_).mpr (hs k (FK _ hk));rintro rfl;exact hd'.1 hk
  ·rw[List.length_erase_of_mem hm,hl];rfl
def key_inj{h:Heap}{b:Addr}{k1 k2:List Key}(h1:IsTupleKey (aO P w) h k1 b)(h2:IsTupleKey (aO P w) h k2 b):k1=k2:=by obtain⟨o1,i1,n1,z1,_,z2,z3⟩:=h1;obtain⟨o2,i2,n2,y1,_,y2,y3⟩:=h2;rw[z1]at y1;cases y1;rw[z2]at y2;cases y2;exact z3.inj y3
end
abbrev sF(P:Program)(w:World)(x:Addr×List Key):Int×Value:=(tupleKeyHash (aO P w) x.2,.ref x.1)
def jT(P:Program)(w:World)(h:Heap)(a:Addr)(L:List (Addr×List Key)):Prop:=∃o es ep t,h.get? a=some o/\o.ExactSet/\o.data=.set es ep t/\t.dummies = #[]/\Tb.Mask t.mask/\es.size*5<t.mask*3/\Tb.TOk t.mask t.place (es.map (·.1))/\es.toList=L.map (sF P w)/\((∀x∈L,∃z,Sum.inr z∈x.2)->L=[]\/t.plain=false)
def lz(P:Program)(w:World)(a:Addr)(L:List (Addr×List Key)):HO:=.ext λh=>jT P w h a L
section
variable {P:Program} {w:World}
def sJ{h:Heap}{B:Addr->List Key->Prop}{D:List (List Key)}:∀{es:List (Int×Value)},(∀e∈es,∃b k,e=(tupleKeyHash (aO P w) k,Value.ref b)/\k∈D/\IsTupleKey (aO P w) h k b/\B b k)->∃L:List (Addr×List Key),es=L.map (sF P w)/\∀x∈L,x.2∈D/\IsTupleKey (aO P w) h x.2 x.1/\B x.1 x.2
 | [],_=>⟨[],rfl,λx hx=>by cases hx⟩
 | e::es,hall=>by
  obtain⟨L,h1,h2⟩:=sJ (es:=es) λx hx=>hall x (FK _ hx);obtain⟨b,k,rfl,hk,hkb,hBb⟩:=hall e FO;refine⟨(b,k)::L,by rw[h1];rfl,λx hx=>?_⟩;rcases FX.mp hx with rfl|hx
  ·exact⟨hk,hkb,hBb⟩
  ·exact h2 x hx
def eC.obj{B:Addr->List Key->Prop}{h:Heap}{a:Addr}{D:List (List Key)}(hS:eC P w B h a D):∃L,jT P w h a L/\(L.map (·.2)).Perm D/\∀x∈L,B x.1 x.2:=by
 obtain⟨hnd,o,es,ep,t,ho,hex,hd,hdm,hm,hfull,hlen,hT,hall,hin,hpl⟩:=hS;obtain⟨L,h1,h2⟩:=sJ hall;have hl:L.length=D.length:=by rw[←hlen,←FL,h1,FH]
 refine⟨L,⟨o,es,ep,t,ho,hex,hd,hdm,hm,hfull,hT,h1,λhx=>?_⟩,wW hnd (λk hk=>?_) (by rw[FH,hl]),λx hx=>(h2 x hx).2.2⟩
 ·have hx':∀k∈D,∃z,Sum.inr z∈k:=λk hk=>by obtain⟨b,hb,hkb⟩:=hin k hk;rw[h1]at hb;obtain⟨x,hx',e⟩:=List.mem_map.mp hb;have e2:Value.ref x.1=Value.ref b:=congrArg Prod.snd e;cases e2;rw[key_inj hkb (h2 x hx').2.1];exact hx x hx'
  rcases hpl hx' with e|e
  ·subst e;rw[List.length_nil,List.length_eq_zero_iff]at hl;exact .inl hl
  ·exact .inr e
 ·obtain⟨b,hb,hkb⟩:=hin k hk;rw[h1]at hb;obtain⟨x,hx',e⟩:=List.mem_map.mp hb;have e2:Value.ref x.1=Value.ref b:=congrArg Prod.snd e;cases e2;rw[key_inj hkb (h2 x hx').2.1];exact List.mem_map.mpr ⟨x,hx',rfl⟩
def yJ{H:Hp}{h:Heap}{a:Addr}{L:List (Addr×List Key)}(S:jT P w h a L):br P w H h a (lz P w a L):=by
 refine⟨S,?_,λh1 h2 z k=>?_⟩
 ·obtain⟨o,es,ep,t,ho,_⟩:=S;exact⟨o,ho⟩
 ·obtain⟨o',es',ep',t',ho',r⟩:=z;exact⟨o',es',ep',t',k _ ho',r⟩
end
section
variable {X:Cx} {pins:List (Addr×Obj)} {σ:St} {H:Hp} {s:Shared}
def nE:∀{bs:List Addr} {us:List Value},Vals (bs.map V.ref) us->us=bs.map Value.ref
 | [],_,.nil=>rfl
 | b::bs,_,.cons r t=>by rw[List.map_cons,←nE (bs:=bs) t];exact congrArg (· :: _) r
def Ca(I:Inv X pins σ H s){b:Addr}{k:List Key}(e:H b=some (.tup (k.map kV))):IsTupleKey (aO X.prog X.w) s.heap k b:=by obtain⟨_,is,rk,o,ho,hc,n,hd⟩:=I.hok b _ e;exact⟨o,_,n,ho,hc,hd,pB rk⟩
def i9(H:Hp)(bs:List Addr)(kk:List (List Key)):Prop:=bs.length=kk.length/\∀(j:Nat) (b:Addr) (k:List Key),bs[j]?=some b->kk[j]?=some k->H b=some (.tup (k.map kV))
def i9.ext{H H':Hp}{bs:List Addr}{kk:List (List Key)}(e:Ext H H')(h:i9 H bs kk):i9 H' bs kk:=⟨h.1,λj b k e1 e2=>e _ _ (h.2 j b k e1 e2)⟩
end
section
variable {X:Cx}
def yV(P:Program)(w:World):List V->Hp->VK->Prop:=λxs H Q=>∃p bs kk,xs=[.ref p]/\(H p=some (.tup (bs.map V.ref))\/H p=some (.lst (bs.map V.ref)))/\i9 H bs kk/\kk.length<1400 ∧
 ∀l L,H l=none->(L.map Prod.snd).Nodup->(∀k,k∈L.map Prod.snd↔k∈kk)->(∀x∈L,H x.1=some (.tup (x.2.map kV)))->Q (.ref l) (upd H l (lz P w l L))
def Bz{k:Nat}(hr:Room k X.A):cJ X (.type "set") (yV X.prog X.w):=by
 intro pins s σ H xs us Q I r h;obtain⟨p,bs,kk,rfl,hp,⟨h2,h3⟩,hz,q⟩:=h;obtain⟨u,rfl,rx⟩:=vals1 r;cases rx;have hu:=hr.units;have hA:=hr.hd;have keys:∀(j:Nat) (b:Addr) (k:List Key),bs[j]?=some b->kk[j]?=some k->IsTupleKey (aO X.prog X.w) s.heap k b:=λj b k e1 e2=>Ca I (h3 j b k e1 e2);have fin:∀(h':Heap) (tk:Nat) (D:List (List Key)),iW X.prog X.w s bs kk D h'->∃v H',Inv X pins σ H' { s with heap:=h',toks:=tk }/\RelV v (.ref s.heap.objs.size)/\Q v H':=λh' tk D hm=>by obtain⟨hS,hD,hk⟩:=hm;obtain⟨L,hO,hLp,hLB⟩:=hS.obj;have hfr:=I.hok.fresh (F5 _);refine⟨.ref s.heap.objs.size,_,I.laid (t':=tk) (λb o e=>hk b o (FG e) e) (F5 _) (yJ hO),rfl,q _ L hfr (hLp.nodup_iff.mpr hS.1) (λk=>(hLp.mem_iff.trans (hD k))) λx hx=>?_⟩;obtain⟨j,e1,e2⟩:=hLB x hx;exact h3 j _ _ e1 e2
 rcases hp with hp|hp
 ·obtain⟨_,its,rv,gt⟩:=I.hok p _ hp;have ei:=nE rv;subst ei;refine As (kk:=kk) (bs:=bs) hA (by omega) (show s.heap.IsTuple p _ from gt) rfl (by simp[h2]) (by simp[h2];exact hz) keys fin
 ·obtain⟨_,its,n,rv,gt⟩:=I.hok p _ hp;have ei:=nE rv;subst ei;refine DP (kk:=kk) (bs:=bs) hA (by omega) (show s.heap.IsList p _ from⟨_,gt,rfl,n,rfl⟩) rfl (by simp[h2]) (by simp[h2];exact hz) keys fin
def zK(P:Program)(w:World):List V->Hp->VK->Prop:=λxs H Q=>∃p L,xs=[.ref p]/\H p=some (lz P w p L)/\L.length<1400/\Q (.int L.length) H
def E4:cJ X (.builtin "len") (zK X.prog X.w):=by
 intro pins s σ H xs us Q I r h;obtain⟨p,L,rfl,hp,hn,q⟩:=h;obtain⟨u,rfl,rx⟩:=vals1 r;cases rx;obtain⟨⟨o,es,ep,t,ho,hex,hd,hdm,hm,hfull,hT,hel,_⟩,_⟩:=I.hok p _ hp;have hpl:t.place.size=es.size:=by rw[hT.len,Array.size_map]
 have hs:es.size=L.length:=by rw[←FL,hel,FH]
 have hf:t.fits es.size=true:=by
  simp only[SetTable.fits,Gn,beq_iff_eq,decide_eq_true_eq];refine⟨hpl,?_⟩;unfold SetTable.fill;rw[hdm,hpl];have:es.size<=t.mask:=by omega
  simpa using this
 refine call_len_set ho hex hd hf (by omega) ⟨.int L.length,H,I.tok _,⟨s.toks+1,by rw[hs]⟩,q⟩
end
section
variable {X:Cx} {pins:List (Addr×Obj)} {σ:St} {H:Hp} {s:Shared}
def Inv.turnedNew{h':Heap}{L:List Addr}{o:HO}{t':Nat}(I:Inv X pins σ H s)(k:∀b u,b∉L->s.heap.get? b=some u->h'.get? b=some u)(f:∀b∈L,di X pins H b)
  (new:br X.prog X.w (upd H s.heap.objs.size o) h' s.heap.objs.size o):Inv X pins σ (upd H s.heap.objs.size o) { s with heap:=h',toks:=t' }:=by
 have hn:H s.heap.objs.size=none:=I.hok.fresh (F5 _);have nin:∀b u,H b=some u->b∉L:=λb u e z=>by rw[(f b z).1]at e;cases e
 have up:∀b u,H b=some u->upd H s.heap.objs.size o b=some u:=λb u e=>by rw[aC (cw e hn)];exact e
 refine I.step (g':=s.gens) (d':=s.drawn) (ch:=L) (λb hb=>?_) (λb u _ _ hc e _=>k b u hc e) (λb u _ _ hc e _=>⟨u.slots,k b u hc e⟩) (λb u _ e n=>?_) (λb u hc e=>⟨u,k b u hc e⟩) (λb xs e=>up b _ e) (λb u v e=>up b _ e) (λb ps e=>⟨#[],by rw[up b _ e];simp⟩) (λm hm=>?_) (λb u e=>?_) I.bare
 ·obtain⟨f0,f1,f2,f3,f4,f5⟩:=f b hb;exact⟨f3,f1,f4,f5⟩
 ·rw[aC (F4 (FG e))];exact n
 ·obtain⟨u,es,ep,hu,r⟩:=hm;exact⟨u,es,ep,k _ u (λz=>(f _ z).2.1 rfl) hu,r⟩
 ·by_cases hb:b=s.heap.objs.size
  ·subst hb;rw[aN]at e;cases e;exact new
  ·rw[aC hb]at e;refine(I.hok b u e).stay (λc v hc q=>k c v ?_ q) (λc q=>up c _ q) λc xs q=>up c _ q;rcases hc with z|z
   ·rw[z];exact nin b u e
   ·exact nin c _ z
end
open AutoSeq1 (wpAny_loadPart')in
section
variable {K:FD} {σ:St} {H:Hp} {Q:VK}
end
section
variable {X:Cx}
def oM(neg:Bool):R2:=λx y H Q=>∃n p xs d ds,aW H n x d/\y=.ref p/\H p=some (.lst xs)/\Paired (aW H n) xs ds/\n<=50/\Q (.bl (if neg then !(ds.any λe=>PyData.eqv e d)else ds.any λe=>PyData.eqv e d)) H
def Fx{k:Nat}(hr:Room k X.A):bG X (compareOp .In) (oM false):=by intro pins s σ H x y v u Q I rx ry h;obtain⟨n,p,xs,d,ds,h1,rfl,h2,h3,hn,q⟩:=h;have h4:aW H (n+1) (.ref p) (.list ds):=.inr ⟨p,xs,ds,rfl,.inr ⟨h2,rfl⟩,h3⟩;obtain⟨as,ra⟩:=aW.reads I n h1 rx;obtain⟨bs,rb⟩:=aW.reads I (n+1) h4 ry;have l1:=aW.lay n h1;have l2:=jv (λ{x d}=>aW.lay (H:=H) n) h3;have hu:=hr.units;have hm:min (PyData.depthAll ds) d.depth<=50:=Gh (Nat.min_le_right _ _) (Gh l1.2 hn);exact SeqAt.in_list_reads rb ra l2.1 l1.1 (by omega) ⟨.bl _,H,I,rfl,q⟩
def xY{k:Nat}(hr:Room k X.A):bG X (compareOp .NotIn) (oM true):=by intro pins s σ H x y v u Q I rx ry h;obtain⟨n,p,xs,d,ds,h1,rfl,h2,h3,hn,q⟩:=h;have h4:aW H (n+1) (.ref p) (.list ds):=.inr ⟨p,xs,ds,rfl,.inr ⟨h2,rfl⟩,h3⟩;obtain⟨as,ra⟩:=aW.reads I n h1 rx;obtain⟨bs,rb⟩:=aW.reads I (n+1) h4 ry;have l1:=aW.lay n h1;have l2:=jv (λ{x d}=>aW.lay (H:=H) n) h3;have hu:=hr.units;have hm:min (PyData.depthAll ds) d.depth<=50:=Gh (Nat.min_le_right _ _) (Gh l1.2 hn);exact SeqAt.notIn_list_reads rb ra l2.1 l1.1 (by omega) ⟨.bl _,H,I,rfl,q⟩
def xm{neg:Bool}{n:Nat}{x:V}{p:Addr}{xs:List V}{d:PyData}{ds:List PyData}{H:Hp}{Q:VK}(h1:aW H n x d)(h2:H p=some (.lst xs))(h3:Paired (aW H n) xs ds)(hn:n<=50)(q:Q (.bl (if neg then !(ds.any λe=>PyData.eqv e d)else ds.any λe=>PyData.eqv e d)) H):oM neg x (.ref p) H Q:=
 ⟨n,p,xs,d,ds,h1,rfl,h2,h3,hn,q⟩
end
abbrev Row3:=Str×Tok×Value
def kT(w:World)(e:Row3):DictEntry:=⟨PyData.keyHash w.params e.1,.str e.1 e.2.1,e.2.2⟩
def iL(w:World)(l:List Row3)(ep:Nat):Obj:={ cls:=.type "dict",dict:=none,data:=.dict (l.map (kT w)).toArray ep,slots:=#[] }
structure GDict(w:World)(K:FD)(a:Addr)(kvs:List (Key×V)):Prop where
 has:∃l ep,K.lookup a=some (iL w l ep)/\KV kvs (l.map λe=>((Sum.inr e.1:Key),e.2.2))
 nd:(kvs.map (·.1)).Nodup
 sm:(a == sysModules)=false
def uv{P:Program}{w:World}:∀l:List Row3,Pairs (aO P w) (l.map (kT w)) (l.map λe=>((Sum.inr e.1:Key),e.2.2))
 | []=>.nil
 | e::l=>.cons (mz P w e.1 e.2.1) rfl (uv l)
def Bm{P:Program}{w:World}(l:List Row3):KeysOf (aO P w) (l.map (kT w)).toArray:=λe he=>by
 have he':e∈l.map (kT w):=by simpa using he
 obtain⟨x,_,rfl⟩:=List.mem_map.mp he';exact⟨.inr x.1,mz P w x.1 x.2.1,rfl⟩
def GDict.at{X:Cx}{pins:List (Addr×Obj)}{σ:St}{H:Hp}{s:Shared}{a:Addr}{kvs:List (Key×V)}(D:GDict X.w X.K a kvs)(I:Inv X pins σ H s):∃vs,KV kvs vs/\s.heap.DictOf (aO X.prog X.w) a vs:=by obtain⟨l,ep,hl,r⟩:=D.has;refine⟨_,r,iL X.w l ep,_,ep,I.kIn _ _ hl,⟨rfl,rfl,rfl⟩,rfl,Bm l,uv l,?_⟩;rw[←r.keys];exact D.nd
section
variable {X:Cx} {x:Str} {a:Addr} {kvs:List (Key×V)} {i:Expr} {ty:TE} {p pos:Pos}
def wm(kvs:List (Key×V))(ty:TE):TE:=λσ H Q=>ty σ H λy H1=>∃k v,y=kV k/\bO kvs k=some v/\Q v H1
def tR(neg:Bool)(kvs:List (Key×V))(ty:TE):TE:=λσ H Q=>ty σ H λy H1=>∃k,y=kV k/\Q (.bl (if neg then !(bO kvs k).isSome else(bO kvs k).isSome)) H1
def B2(hg:Gl X x)(hm:X.mg x=some (.ref a))(D:GDict X.w X.K a kvs)(hi:PE X i ty)(hs:ym i)(hd:(x == ("__debug__":Str))=false:=by decide):PE X (.Subscript (.Name x p) i pos) (wm kvs ty):=by intro pins s σ H Q I h;refine DE PySem.F.slot_dict_getitem.lookup hs (f7 I hg hm (ay (hi pins s σ H _ I h) λiv s2 ⟨y,H2,I2,ry,k,v,ey,hv,q⟩=>?_) hd);subst ey;obtain⟨vs,rel,dd⟩:=D.at I2;obtain⟨w',hw,rw'⟩:=fB.some_of (v:=v) (o:=valueAt vs k) (by rw[←hv];exact rel.val k);exact⟨dd.typeIs,wpAny_getItem_of (jI ry) dd.mapOf hw ⟨v,H2,I2.tok _,rw',q⟩⟩
def zV(hg:Gl X x)(hm:X.mg x=some (.ref a))(D:GDict X.w X.K a kvs)(hi:PE X i ty)(hd:(x == ("__debug__":Str))=false:=by decide):PC X .In i (.Name x p) (tR false kvs ty):=by intro pins s σ H Q I h;refine ay (hi pins s σ H _ I h) λiv s1 ⟨y,H1,I1,ry,k,ey,q⟩=>f7 I1 hg hm ?_ hd;subst ey;obtain⟨vs,rel,dd⟩:=D.at I1;refine wpAny_in_of (jI ry) D.sm dd.mapOf ?_;rw[←(rel.val k).isSome_eq];exact⟨.bl (bO kvs k).isSome,H1,I1.tok _,rfl,q⟩
def rd_gget{σ:St}{H:Hp}{Q:VK}(h:ty σ H λy H1=>∃k v,y=kV k/\bO kvs k=some v/\Q v H1):wm kvs ty σ H Q:=h
def rd_gin{neg:Bool}{σ:St}{H:Hp}{Q:VK}(h:ty σ H λy H1=>∃k,y=kV k/\Q (.bl (if neg then !(bO kvs k).isSome else(bO kvs k).isSome)) H1):tR neg kvs ty σ H Q:=h
def zr{R:V->Prop}{z:Str}{v:V}(hv:bO kvs (.inr z)=some v)(h:R v):∃k v,V.str z=kV k/\bO kvs k=some v/\R v:=⟨.inr z,v,rfl,hv,h⟩
def xp:R2:=λx y H Q=>∃a b,x=.str a/\y=.str b/\Q (.bl (!decide (b.cps.toList<a.cps.toList))) H
def uY:bG X (compareOp .LtE) xp:=by intro pins s σ H x y v u Q I rx ry h;obtain⟨a,b,rfl,rfl,q⟩:=h;obtain⟨t,rfl⟩:=rx;obtain⟨t',rfl⟩:=ry;exact PySem.P.le_str ⟨.bl _,H,I,rfl,q⟩
def rd_leS{a b:Str}{H:Hp}{Q:VK}(h:Q (.bl (!decide (b.cps.toList<a.cps.toList))) H):xp (.str a) (.str b) H Q:=⟨a,b,rfl,rfl,h⟩
def nZ{α β:Type}{f g:α->Option β}:∀{l:List α},(∀x∈l,f x=g x)->l.filterMap f=l.filterMap g
 | [],_=>rfl
 | x::l,h=>by rw[List.filterMap_cons,List.filterMap_cons,h x FO,nZ λy hy=>h y (FK _ hy)]
def Fb(n:Nat)(xs:List Value)(h:xs.length=n):(GC n).filterMap (λi:Nat=>xs[((n:Int)-1+(i:Int)*(-1)).toNat]?)=xs.reverse:=by
 refine List.ext_getElem? λi=>?_;have e:(GC n).filterMap (λi:Nat=>xs[((n:Int)-1+(i:Int)*(-1)).toNat]?)=(GC n).map (λi:Nat=>xs.reverse.getD i .none):=by
  rw[←List.filterMap_eq_map];refine nZ λi hi=>?_;have hi:=List.mem_range.mp hi;have:((n:Int)-1+(i:Int)*(-1)).toNat=n-1-i:=by omega
  rw[this,Function.comp_apply,List.getD_eq_getElem?_getD,List.getElem?_reverse (by omega),h,FI (show n-1-i<xs.length by omega)];rfl
 rw[e,FJ];by_cases hi:i<n
 ·rw[FI (by simpa using hi),FI (by simpa[h]using hi)];simp[List.getD_eq_getElem?_getD,h,hi]
 ·rw[List.getElem?_eq_none (by simpa using hi),List.getElem?_eq_none (by simpa[h]using hi)];rfl
def Co(its:List Value):slicePick its.toArray none none (some (-1))=its.reverse.toArray:=by
 unfold slicePick;have e:sliceBounds none none (some (-1)) its.toArray.size=((its.length:Int)-1,-1,-1):=by unfold sliceBounds;simp
 rw[e];refine congrArg List.toArray ?_;rw[←Fb its.length its rfl];unfold sliceRange;simp only;rw[GG (by decide),List.filterMap_map];have el:(if(its.length:Int)-1 > -1 then((its.length:Int)-1 - -1 - -1-1) / - -1 else 0).toNat=its.length:=by rw[show (- -1:Int)=1 by decide,Int.ediv_one];split<;>omega
 rw[el];refine nZ λi hi=>?_;rw[Function.comp_apply,show (its.length:Int)-1 + -1*(i:Int)=(its.length:Int)-1+(i:Int) * -1 by omega];simp
def Vals.rev{xs:List V}{us:List Value}(r:Vals xs us):Vals xs.reverse us.reverse:=by
 induction r with
 | nil=>exact .nil
 | cons h t ih=>
  rw[List.reverse_cons,List.reverse_cons];exact Vals.append ih (.cons h .nil)
def qI(K:FD):V->Hp->VK->Prop:=λx H Q=>∃a xs,x=.ref a/\ag K H a xs/\eW H (.lst xs.reverse) Q
def rH(K:FD)(te:TE)(ts:TO):TE:=λσ H Q=>te σ H λx H1=>ts σ H1 λk H2=>k=some (-1)/\qI K x H2 Q
def zF{e st:Expr}{te:TE}{ts:TO}{p2:Pos}(K:FD)(he:PE X e te)(hs:PO X (some st) ts)(hK:X.K=K:=by rfl):PE X (.Subscript e (.Slice none none (some st) p2) pos) (rH K te ts):=by
 subst hK;intro pins s σ H Q I h;refine Subscript_ (ay (he pins s σ H _ I h) λv s1 ⟨x,H1,I1,r1,q1⟩=>?_);refine wpAny_Slice ?_;rw[evalPart_none];refine FC (FC ?_);refine ay (hs pins s1 σ H1 _ I1 q1) λvs s2 ⟨k,H2,I2,pk,q2⟩=>?_;obtain⟨rfl,a,xs,rfl,hx,q⟩:=q2;cases pk with
 | int i tk=>
 cases r1;have I3:Inv X pins σ H2 { s2 with heap:=s2.heap.push { cls:=.type "slice",data:=.fields #[.none,.none,.int (-1) tk] } }:=I2.kept (t':=s2.toks) λb ob q=>FE _ q;obtain⟨its,r,ht,hz⟩:=I3.list hx;have hlen:=r.length;show wpAny (model X.prog X.w) X.A (subscriptTail e (.Slice none none (some st) p2) (.ref a) (.ref s2.heap.objs.size)) (EP X pins σ Q) X.xe { s2 with heap:=s2.heap.push { cls:=.type "slice",data:=.fields #[.none,.none,.int (-1) tk] } };refine tail_any (ops:=[.ref a,.ref s2.heap.objs.size]) ht.isList.typeIs slot_list_getitem.lookup (wpAny_getItem_list_slice ht.isList (Heap.IsSliceOf.new ..) .none .none (.int (-1) tk) (by decide) ?_ (by rw[FN];omega)) (by with_unfolding_all rfl);rw[Co];exact⟨.ref _,_,I3.laid (t':=s2.toks) (o:=.lst xs.reverse) (λb ob e=>FE _ e) (F5 _) ⟨by rw[List.length_reverse];exact hz,_,0,r.rev,FF _ rfl⟩,rfl,q _ (I3.hok.fresh (F5 _))⟩
def rd_revL{K:FD}{te:TE}{ts:TO}{σ:St}{H:Hp}{Q:VK}(h:te σ H λx H1=>ts σ H1 λk H2=>k=some (-1)/\qI K x H2 Q):rH K te ts σ H Q:=h
def E6{K:FD}{H:Hp}{Q:VK}{a:Addr}{xs:List V}(e:ag K H a xs)(h:eW H (.lst xs.reverse) Q):qI K (.ref a) H Q:=⟨a,xs,rfl,e,h⟩
end
section
variable {prog:Program} {w:World} {A:Around} {E:Value->Shared->Prop} {s:Shared} {r d:Addr}
end
section
variable {X:Cx}
def vx(tk tv:TE):TE:=λσ H Q=>∀p,H p=none->tk σ (upd H p (.dT [])) λx H1=>tv σ H1 λv H2=>∃b k,x=.ref b/\H2 b=some (.tup (List.map kV k))/\H2 p=some (.dT [])/\Q (.ref p) (upd H2 p (.dT [(k,v)]))
def CI{ek ev:Expr}{tk tv:TE}{pos:Pos}(hu:X.A.units+1<cLine)(hk:PE X ek tk)(hv:PE X ev tv):PE X (.Dict [some ek] [ev] pos) (vx tk tv):=by
 intro pins s σ H Q I q;have hn:=I.hok.fresh (F5 s.heap.objs.size);have I1:=I.laid (a:=s.heap.objs.size) (o:=.dT []) (h':=s.heap.push { cls:=.type "dict",data:=.dict #[] }) (t':=s.toks) (λ_ _ q=>FE _ q) (F5 _) (CW s.heap I.big);refine wpAny_Dict_any rfl rfl (by simp) (by simp) ?_;refine pairTrees_cons_walk (ay (hk pins _ σ _ _ I1 (q _ hn)) λu s1 ⟨x,H1,I1,rx,q1⟩=>ay (hv pins s1 σ H1 _ I1 q1) λw2 s2 ⟨v,H2,I2,ry,q2⟩=>pairTrees_nil_walk ?_);obtain⟨b,k,rfl,hb,e,q3⟩:=q2;cases(show u=Value.ref b from rx);obtain⟨z,hd,xs,rel,dd⟩:=vk I2.hok e;have hz:xs.length<=sizeLine:=by rw[←Paired.length rel];exact Nat.zero_le _
 unfold storeAll;rw[List.forIn_cons];refine FA (FA (wpAny_dictSet_heap (hsz:=hz) (show(tupleKind (aO X.prog X.w)).room X.A from Nat.lt_of_succ_lt hu) (kf I2.hok hb) dd λh' dd' hs=>FC ?_));dsimp only;rw[List.forIn_nil];refine FC ⟨.ref s.heap.objs.size,_,?_,rfl,q3⟩;obtain⟨q,es,ep,hq,h2,h3,h4,_,h5⟩:=dd';refine my I2 (by rw[e];exact True.intro) hs ⟨q,hq⟩ ⟨by rw[sizeLine_eq];simp,hd,_,(rel.put k hb ry).keeps λc ys ec=>?_,q,es,ep,hq,h2,h3,h4,h5⟩;rw[aC (fj ec e (λz=>nomatch z))];exact ec
def rd_disp1{tk tv:TE}{σ:St}{H:Hp}{Q:VK}(h:∀p,H p=none->tk σ (upd H p (.dT [])) λx H1=>tv σ H1 λv H2=>∃b k,x=.ref b/\H2 b=some (.tup (List.map kV k))/\H2 p=some (.dT [])/\Q (.ref p) (upd H2 p (.dT [(k,v)]))):vx tk tv σ H Q:=h
def rd_dnin{ty td:TE}{σ:St}{H:Hp}{Q:VK}(h:ty σ H λy H1=>td σ H1 λx H2=>∃a o,x=.ref a/\ir H2 a y o/\Q (.bl (!o.isSome)) H2):xB ty td σ H Q:=h
def rd_dput{td ty tv:TE}{D:Ends}{σ:St}{H:Hp}(h:tv σ H λv H1=>td σ H1 λx H2=>ty σ H2 λy H3=>∃a H4,x=.ref a/\iQ H3 a y v H4/\D.nx σ H4):ur td ty tv D σ H:=h
def LitE.pe{e:Expr}{te:TE}(h:LitE e te):PE X e te:=
 LitE.rec (motive_1:=λe te _=>PE X e te) (motive_2:=λes ta _=>PA X es ta) jU bN af az (λ_ ih=>aR ih) ae (λh _ ih1 ih2=>aa ih1 ih2 (h.star _ _)) h
def i5{e:Expr}{te:TE}{es:List Expr}{t:TA}(h:LitE e te)(hr:PA X es t):PA X (e::es) (lW te t):=aa h.pe hr (h.star _ _)
end
section
variable {X:Cx} {tg:Expr}
end
section
variable {prog:Program} {w:World} {A:Around} {E:Value->Shared->Prop} {s:Shared}
end
section
variable {X:Cx} {tg:Expr}
end
section
variable {X:Cx}
def rK:∀{zs:List Str} {us:List Value},Vals (zs.map V.str) us->StrsAre us zs
 | [],_,r=>by cases r;exact .nil
 | z::zs,_,r=>by
  cases r with
  | cons h t=>
   obtain⟨t',rfl⟩:=h;exact .cons z t' (rK t)
end
def Dm(K:FD):List V->Hp->VK->Prop:=λxs H Q=>∃(p:Addr) (bs:List Bool),xs=[.ref p]/\ag K H p (bs.map V.bl)/\Q (.bl (bs.any id)) H
def any_range(bs:List Bool):((GC bs.length).any λi=>bs.getD i false)=bs.any id:=by
 rw[Gm,Gk,Gk];constructor
 ·rintro⟨i,hi,h⟩;have hi':=List.mem_range.mp hi;rw[List.getD_eq_getElem?_getD,FI hi']at h;exact⟨_,Gb hi',h⟩
 ·rintro⟨b,hb,h⟩;obtain⟨i,hi,e⟩:=List.mem_iff_getElem.mp hb;refine⟨i,List.mem_range.mpr hi,?_⟩;rw[List.getD_eq_getElem?_getD,FI hi,e];exact h
def vP{X:Cx}(K:FD)(hc:X.calm=true)(hK:X.K=K:=by rfl):cJ X (.builtin "any") (Dm K):=by
 subst hK;intro pins s σ H xs us Q I r h;obtain⟨p,bs,rfl,hq,q⟩:=h;obtain⟨u,rfl,rx⟩:=vals1 r;cases rx;obtain⟨its,rv,pl,hz⟩:=I.list hq;have eb:=qH rv;have hne:p≠s.heap.objs.size:=F4 (by obtain⟨o,n,e,_⟩:=pl;exact FG e);refine call_any_walk (wpAny_pyIter_list pl.isList ?_);have I1:Inv X pins σ H { s with heap:=s.heap.push { cls:=.type "list_iterator",data:=.fields #[.ref p,.int 0 0] } }:=I.kept (t':=s.toks) λb o e=>FE _ e;have hf:=I.fpOk (H':=H) (F5 s.heap.objs.size) I.fresh;refine⟨s.heap.objs.size,_,_,_,_,_,(λi=>bs.getD i false),rfl,Walks.list (A:=X.A.in1) (I.ok.hd hc) _ p hne its.toArray,⟨⟨_,FF _ rfl,rfl,rfl⟩,?_⟩,?_,λh' tk hk=>?_⟩
 ·exact pl.isList.push _
 ·intro i v s' Q' E' hv hQ;rw[eb]at hv;have hv':(bs.map Value.bool)[i]?=some v:=by simpa using hv
  rw[FJ]at hv';cases eg:bs[i]? with
  | none=>rw[eg]at hv';cases hv'
  | some b=>
   rw[eg]at hv';cases hv';have eb':bs.getD i false=b:=by rw[List.getD_eq_getElem?_getD,eg];rfl
   have hQ':Q' (bs.getD i false) s':=hQ;rw[eb']at hQ';exact wpAny_truthy_bool hQ'
 ·obtain⟨f0,f1,f2,f3,f4,f5⟩:=hf;have hl:=rv.length;rw[FH]at hl;refine⟨.bl (bs.any id),H,I1.turned (it:=s.heap.objs.size) (λb o hb e=>hk b o (by simpa using hb) e) f0 f1 f3 f4 f5,?_,q⟩;show Value.bool _=Value.bool _;rw[FN,←hl,any_range]
section
variable {X:Cx}
end
section
variable {P:Program} {w:World} {K:FD} {mg:Str->Option Value} {base:Heap}
def Dfn.okLX{x:Str}{st:Stmt}{N ps:List Str}{k:Nat}{sp:Sp}{c T:Addr}(D:Dfn K mg x st ps)(B:Tab K mg base x c T)(S:FnScope N ps (aA st))(len:∀vs H Q E,sp vs H Q E->vs.length=ps.length)
  (hbody:∀(f:Addr) (A:Around) (outer:List Env) (s:Shared) (H:Hp) (vs:List V) (Q:VK) (E:XK),Room k (A.deeper (envOfC x (aA st) s.heap.objs.size f (.ref c)))->sp vs H Q E →
   ∃t,b6 (bx (bU P w) P w K mg base N x (aA st) f (.ref c) A outer s H E) (dy st) t/\t { nx:=λ_ H'=>Q .non H',rt:=Q } (start N vs) H):CalX P w K mg base x (k+1) ps sp:=by
 obtain⟨f,fd,hm,F,hb⟩:=D.ex;obtain⟨oc,od,kV,doc,pm,an,cdv,ct,osl,rfl,lk,hcd⟩:=F.ex;have e:cdv=.ref c:=tQ B.tin B.kin B.ns hm lk rfl;subst e;exact⟨f,_,hm,F.kp,hb,lG lk hcd S len λA outer s H vs Q E hr h=>hbody f A outer s H vs Q E hr h⟩
end
section
variable {X:Cx}
end
section
variable {P:Program} {w:World} {A:Around} {E:Value->Shared->Prop} {s:Shared}
end
section
variable {X:Cx} {pins:List (Addr×Obj)} {σ:St} {H:Hp} {s:Shared}
end
section
variable {X:Cx}
end
section
variable {P:Program} {w:World} {A:Around} {E:Value->Shared->Prop} {s:Shared}
end
section
variable {X:Cx}
end
section
variable {X:Cx} {pins:List (Addr×Obj)} {σ:St} {H:Hp} {s:Shared}
end
section
variable {X:Cx}
end
def jx{X:Cx}{st:Stmt}{t:TS}(h:PS X.nox st t):PS X st t:=λpins s σ H D I hw=>
 wpAny_mono (h pins s σ H D (I.wish _) hw) (λ_ _ q=>q.unwish) λ_ _ z=>False.elim z
def CU{K:FD}{C:Addr}{i:Nat}{tb:Ends->(St->XK)->St->Hp->Prop}{ts:Addr->Addr->Option Addr->TS}{D:Ends}{σ:St}{H:Hp}(P:Addr->Option Addr->St->Hp->Prop)(h1:∀E:St->XK,(∀σ1 Dx da H1,P Dx da σ1 H1->E σ1 (.ref Dx) da H1)->tb D E σ H)
  (h2:∀σ1 Dx da H1,P Dx da σ1 H1->PySem.W.exmOne K (.ref Dx) (.ref C)=some true/\ExcK K Dx/\∀x,H1 x=none->ts x Dx da ⟨λσ' H'=>D.nx (σ'.set i none) H',D.rt,λσ' H'=>D.bk (σ'.set i none) H',λσ' H'=>D.ct (σ'.set i none) H'⟩ (σ1.set i (some (.ref x))) H1):xD K C i tb ts D σ H:=
 h1 _ λσ1 Dx da H1 p=>⟨Dx,rfl,h2 σ1 Dx da H1 p⟩
section
variable {X:Cx} {x:Addr} {oe:Obj}
end
section
variable {prog:Program} {w:World} {A:Around} {E:Value->Shared->Prop} {s:Shared} {dd:Option Addr}
end
section
variable {X:Cx} {x:Addr} {oe:Obj}
end
section
variable {X:Cx}
def Au(K:FD):V->List V->Hp->VK->Prop:=λx vs H Q=>∃sep l zs,x=.str sep/\vs=[.ref l]/\ag K H l (List.map V.str zs)/\(zs.map (·.length)).sum+zs.length*sep.length<=1000000/\Q (.str (Txt.join sep zs)) H
def yN(K:FD)(hK:X.K=K:=by rfl):kA X "str.join" (Au K):=by subst hK;intro pins s σ H x vs v us Q I rx rv h;obtain⟨sep,l,zs,rfl,rfl,hl,hz,q⟩:=h;obtain⟨t,rfl⟩:=rx;obtain⟨u,rfl,ru⟩:=vals1 rv;cases ru;obtain⟨its,r,pl,hsz⟩:=I.list hl;exact PyProof.Rows.join_list pl.isList (by simpa using rK r) (Gh hz (by decide)) λt' k=>⟨.str _,H,I.tok _,⟨_,rfl⟩,q⟩
end
section
variable {prog:Program} {w:World} {A:Around} {E:Value->Shared->Prop} {K:FD} {x D:Addr} {ox:Obj} {h:Heap} {g:Array GenState} {dr:Drawn} {t:Nat} {os:OsState}
variable {nm q:Str} {N:Addr} {bs bm bmB:List Value} {sn:List Str} {sub:List Value} {ab:Bool} {col:Option Bool} {dd:Option Addr} {k0 k1 k2 k3 k5:Option Value} {newId:String} {name:Str} {v:Value}
end
section
variable {prog:Program} {w:World} {A:Around} {E:Value->Shared->Prop} {h:Heap} {g:Array GenState} {d:Drawn} {t:Nat} {os:OsState}
variable {nm q:Str} {C N:Addr} {bs bm bmB:List Value} {hdct:Bool} {sn:List Str} {sub:List Value} {ab:Bool} {col:Option Bool} {dd:Option Addr} {k0 k1 k2 k3 k5:Option Value} {B newId initId:String} {K:FD}
end
section
variable {P:Program} {w:World} {A:Around} {E:Value->Shared->Prop} {K:FD} {s:Shared} {e C:Addr} {oe:Obj} {v:Value}
end
section
variable {M:Model} {A:Around} {E:Value->Shared->Prop} {env:Env} {nm q:Str} {C N:Addr} {bs bm bmB:List Value} {hdct:Bool} {sn:List Str} {sub:List Value} {ab:Bool} {col:Option Bool} {dd:Option Addr} {k0 k1 k2 k3 k5:Option Value} {newId:String}
end
section
variable {prog:Program} {w:World} {A:Around} {E:Value->Shared->Prop} {s:Shared} {env:Env} {K:FD} {nm q:Str} {C N:Addr} {bs bm bmB:List Value} {hdct:Bool} {sn:List Str} {sub:List Value} {ab:Bool} {col:Option Bool} {dd:Option Addr} {k0 k1 k2 k3 k5:Option Value} {B newId initId:String}
end
section
variable {P:Program} {w:World} {K:FD} {mg:Str->Option Value} {base:Heap} {N:List Str} {qual:Str} {scope:Scope} {f:Addr} {cd:Value} {A:Around} {outer:List Env} {s₀:Shared} {H₀:Hp} {E:XK}
end
structure CalH(P:Program)(w:World)(K:FD)(mg:Str->Option Value)(base:Heap)(fn:Str)(k:Nat)(ps:List Str)(x:Addr)(oe:Obj)(sp:Sp):Prop where
 ex:∃(f:Addr) (fd:FuncData),mg fn=some (.ref f)/\PySem.W.keepIn K (.ref f)=true/\Binds K fd ps []/\(∀vs H Q E,sp vs H Q E->vs.length=ps.length) ∧
  ∀(A:Around) (outer:List Env) (s:Shared) (H:Hp) (args:Args) (us:List Value) (vs:List V) (Q:VK),Room k A->Env0 P w K mg base A outer s H->s.heap.get? x=some oe->H x=none->x∉aX outer->BindsTo s fd args (ps.zip us)->Vals vs us->sp vs H Q E0 →
   codeAny (model P w) (A.mark (some (.ref x))) (.call (.ref f) args) (CR cC outer P w H s Q E0) s
section
variable {P:Program} {w:World} {K:FD} {mg:Str->Option Value} {base:Heap}
def Dfn.okH{fn:Str}{st:Stmt}{N ps:List Str}{k:Nat}{sp:Sp}{x:Addr}{oe:Obj}(D:Dfn K mg fn st ps)(S:FnScope N ps (aA st))(hal:∃vs,oe.data=.fields vs/\vs[2]?=some .none)(len:∀vs H Q E,sp vs H Q E->vs.length=ps.length)
  (hbody:∀(X:Cx) (hX:∃f cdv A outer s H,X=bx cC P w K mg base N fn (aA st) f cdv A outer s H E0/\Room k X.A) (H:Hp) (vs:List V) (Q:VK),sp vs H Q E0 →
   ∃t,b6 (bR X x oe) (dy st) t/\t { nx:=λ_ H'=>Q .non H',rt:=Q } (start N vs) H):CalH P w K mg base fn (k+1) ps x oe sp:=by
 obtain⟨f,fd,hm,F,hb⟩:=D.ex;refine⟨f,fd,hm,F.kp,hb,len,?_⟩;obtain⟨oc,od,kV,doc,pm,an,cdv,ct,osl,rfl,lk,hcd⟩:=F.ex;intro A outer s H args us vs Q hr e0 hx1 hx2 hx3 hb r hsp;have hl:=len _ _ _ _ hsp;have KX:K.In s.heap:=e0.mod.kin.keeps λb o e=>(e0.bs b o e).1;have lim:s.heap.NoLimit:=e0.mod.nolimit.keeps λb o e=>(e0.bs b o e).1;have hkind:∀y∈ps.zip us,(aA st).names.lookup y.1=some .local\/((aA st).names.lookup y.1=some .cell/\((cellsFrom (s.heap.objs.size+1) (aA st).names []).lookup y.1).isSome=true):=λ⟨n,v⟩ hy=>by
  rcases S.par n (List.of_mem_zip hy).1 with q|q
  ·exact .inl q
  ·exact .inr ⟨q,PySem.W.cellsFrom_some _ _ _ (.inl q)⟩
 refine codeAny_call_function (A:=A.mark (some (.ref x))) hr.depth (KX _ _ lk) rfl S.co S.gen rfl (PySem.W.codeRec_of KX hcd) (hb _ _ _ _ ?_);refine wpAny_newFunctionEnv_cells S.kind hkind λenv he s1 z=>?_;subst he;refine⟨lim.keeps z.toInCall.keep,codeAny_func ?_⟩;obtain⟨t,ht,hq⟩:=hbody (bx cC P w K mg base N fn (aA st) f cdv A outer s H E0) ⟨f,cdv,A,outer,s,H,rfl,hr.deeper _⟩ H vs Q hsp;have I0:Inv (bx cC P w K mg base N fn (aA st) f cdv A outer s H E0) [] (start N vs) H s1:=vL S hr.hd e0 hl r z;obtain⟨us',hd,_⟩:=hal;have I:Inv (bR (bx cC P w K mg base N fn (aA st) f cdv A outer s H E0) x oe) [] (start N vs) H s1:=I0.pinH (z.toInCall.keep _ _ hx1) hx2 (F4 (FG hx1)) hx3 (λv z=>by rw[hd]at z;cases z);refine wpAny_mono (ht [] s1 (start N vs) H _ I hq) (λfl s' hs=>?_) λe s' hs=>False.elim hs;have fin:∀{σ':St} {H':Hp} {v:V} {u:Value},Inv (bR (bx cC P w K mg base N fn (aA st) f cdv A outer s H E0) x oe) [] σ' H' s'->RelV v u->Q v H'->CE outer P w H s Q u s':=
  λ{σ' H' v u} J rv q=>⟨v,H',J.os,J.bare,J.base,J.hok,rv,q⟩
 cases fl with
 | ret u=>
  obtain⟨v,σ',H',J,rv,q⟩:=hs;exact fin J rv q
 | next=>
  obtain⟨σ',H',J,q⟩:=hs;exact fin (v:=V.non) (u:=Value.none) J rfl q
 | brk=>
  obtain⟨_,_,_,q⟩:=hs;exact False.elim q
 | cont=>
  obtain⟨_,_,_,q⟩:=hs;exact False.elim q
end
section
variable {Y:Cx} {x:Addr} {oe:Obj}
def Fo{fn:Str}{k j:Nat}{ps:List Str}{sp:Sp}{e:Expr}{es:List Expr}{t:TA}{p pos:Pos}(C:CalH Y.prog Y.w Y.K Y.mg Y.base fn j ps x oe sp)(hr:Room k Y.A)(ha:PA (bR Y x oe) (e::es) t)(hjk:j<=k:=by decide)(hg:Gl (bR Y x oe) fn:=by rfl)(hdb:(fn == ("__debug__":Str))=false:=by decide)
  (he:starEach (e::es) (bR Y x oe).env=(false,eval e (bR Y x oe).env)::starEach es (bR Y x oe).env:=by rfl) (hpl:(backTo pos (starEach es (bR Y x oe).env)).any (·.1)=false:=by rfl) :
  PE (bR Y x oe) (.Call (.Name fn p) (e::es) [] pos) (iH sp [] E0 t):=by
 obtain⟨f,fd,hm,hk,hb,len,run⟩:=C.ex;intro pins s σ H Q I h;refine wpAny_Call_Name_kw (f7 I hg hm ?_ hdb);refine PySem.W.callWith_K (h₀:=Y.base) I.ok.mod.kin hk (ay (ha pos pins s σ H _ I h) λus s1 ⟨vs,H1,I1,r,q⟩=>⟨I1.kIn,?_⟩) he hpl;have q:sp vs H1 Q E0:=by simpa using q
 have hl:us.length=ps.length:=by rw[←r.length];exact len _ _ _ _ q
 have hb':=hb s1 us I1.kIn (by rw[List.append_nil];exact hl);rw[List.append_nil]at hb';have hp:=I1.pin (x,oe) (Gs _ FO);have e1:=I1.env0;have e0:Env0 Y.prog Y.w Y.K Y.mg Y.base Y.A Y.stack s1 H1:=⟨e1.frames,e1.mod,e1.bs,e1.bsz,e1.funs,e1.frf,e1.hok,e1.bare⟩;have nx:x∉aX Y.stack:=λz=>by
  rcases FX.mp (I1.stkSub x z)with e|e
  ·exact hp.2.2.1 e
  ·exact hp.2.2.2.1 e
 refine wpAny_call (codeAny_mono (run Y.A Y.stack s1 H1 ⟨us,[]⟩ us vs Q (hr.mono hjk) e0 hp.1 hp.2.1 nx hb' r q) λr s' hq=>?_);cases r with
 | error e=>exact False.elim hq
 | ok fl=>
  cases fl with
  | ret u=>exact I1.after hq
  | next=>exact False.elim hq
  | brk=>exact False.elim hq
  | cont=>exact False.elim hq
end
section
variable {prog:Program} {w:World} {A:Around} {E:Value->Shared->Prop} {K:FD} {x D:Addr} {ox:Obj} {od:Option Obj} {name:Str} {v:Value}
end
section
variable {X:Cx} {x D:Addr} {oe:Obj} {da:Option Addr}
end
section
variable {P:Program} {w:World} {A:Around} {E:Value->Shared->Prop} {s:Shared}
end
section
variable {X:Cx}
end
section
variable {prog:Program} {w:World} {A:Around} {E:Value->Shared->Prop} {s:Shared}
end
section
variable {X:Cx}
end
def gJ{x:Str}{c:Addr}:∀(names:List (Str×NameKind)) (n:Nat) (acc:List (Str×Addr)),(cellsFrom n names acc).lookup x=some c->acc.lookup x=some c\/(n<=c/\(x,NameKind.cell)∈names)
 | [],_,_,h=>.inl h
 | (y,k)::r,n,acc,h=>by
  unfold cellsFrom at h;by_cases hk:(k == NameKind.cell)=true
  ·rw[GH hk]at h;have hk':k=.cell:=by simpa using hk
   subst hk';rcases gJ r (n+1) ((y,n)::acc) h with h|⟨h1,h2⟩
   ·rw[Gy]at h;cases hb:x == y with
    | true=>
     rw[hb]at h;cases h;rw[beq_iff_eq.mp hb];exact .inr ⟨F5 _,FO⟩
    | false=>rw[hb]at h;exact .inl h
   ·exact .inr ⟨Nat.le_of_succ_le h1,FK _ h2⟩
  ·rw[GG hk]at h;rcases gJ r n acc h with h|⟨h1,h2⟩
   ·exact .inl h
   ·exact .inr ⟨h1,FK _ h2⟩
def kL{x y:Str}{c:Addr}:∀(names:List (Str×NameKind)) (n:Nat) (acc:List (Str×Addr)),(∀x c,acc.lookup x=some c->@LT.lt Nat _ c n)->(∀x y c,acc.lookup x=some c->acc.lookup y=some c->x=y)->(cellsFrom n names acc).lookup x=some c->(cellsFrom n names acc).lookup y=some c->x=y
 | [],_,_,_,hi,h1,h2=>hi _ _ _ h1 h2
 | (z,k)::r,n,acc,hb,hi,h1,h2=>by
  unfold cellsFrom at h1 h2;by_cases hk:(k == NameKind.cell)=true
  ·rw[GH hk]at h1 h2;refine kL r (n+1) ((z,n)::acc) (λx c h=>?_) (λx y c h1 h2=>?_) h1 h2
   ·rw[Gy]at h;cases e:x == z with
    | true=>rw[e]at h;cases h;exact Nat.lt_succ_self _
    | false=>rw[e]at h;exact Nat.lt_succ_of_lt (hb x c h)
   ·rw[Gy]at h1 h2;cases e1:x == z with
    | true=>
     rw[e1]at h1;cases h1;cases e2:y == z with
     | true=>rw[beq_iff_eq.mp e1,beq_iff_eq.mp e2]
     | false=>rw[e2]at h2;exact absurd (hb _ _ h2) (Nat.lt_irrefl _)
    | false=>
     rw[e1]at h1;cases e2:y == z with
     | true=>rw[e2]at h2;cases h2;exact absurd (hb _ _ h1) (Nat.lt_irrefl _)
     | false=>rw[e2]at h2;exact hi _ _ _ h1 h2
  ·rw[GG hk]at h1 h2;exact kL r n acc hb hi h1 h2
def pw{x:Str}{c:Addr}:∀(names:List (Str×NameKind)) (h:Heap) (acc:List (Str×Addr)),(cellsFrom h.objs.size names acc).lookup x=some c->acc.lookup x=some c\/(pushCells h names).IsCell c none
 | [],_,_,e=>.inl e
 | (y,k)::r,h,acc,e=>by
  unfold cellsFrom at e;unfold pushCells;by_cases hk:(k == NameKind.cell)=true
  ·rw[GH hk]at e ⊢;rw[←Heap.size_push h { cls:=.type "cell",data:=.cell none }]at e;rcases pw r (h.push { cls:=.type "cell",data:=.cell none }) ((y,h.objs.size)::acc) e with e|e
   ·rw[Gy]at e;cases hb:x == y with
    | true=>
     rw[hb]at e;cases e;exact .inr ⟨_,pushCells_keeps _ _ _ _ (FF _ rfl),rfl⟩
    | false=>rw[hb]at e;exact .inl e
   ·exact .inr e
  ·rw[GG hk]at e ⊢;exact pw r h acc e
section
variable {M:Model} {A:Around} {E:Value->Shared->Prop} {s:Shared}
def AH{scope:Scope}{globals:Addr}{closure:List (Str×Addr)}{qual:Str}{func:Option Addr}{code:Value}{outer:Env}{builtins:Addr}{Q:Env->Shared->Prop}
  (hQ:Q (newEnv scope s.heap.objs.size globals (cellsFrom (s.heap.objs.size+1) scope.names closure) qual func code (some outer) builtins) { s with heap:=pushCells (s.heap.push { cls:=.type "dict",data:=.dict #[] }) scope.names }) :
  wpAny M A (newFunctionEnv scope globals closure [] qual func code (some outer) builtins) Q E s:=by
 simp only[newFunctionEnv,Option.isSome_some,if_true];refine FA (wpAny_alloc ?_);refine FA (wpAny_layCells _ (λname kind cells=>by cases hkc:kind == NameKind.cell<;>simp[hkc]) _ _ _ _ ?_);rw[show ({ s with heap:=s.heap.push { cls:=.type "dict",data:=.dict #[] } }:Shared).heap.objs.size=s.heap.objs.size+1 from Heap.size_push ..];refine FA ?_;rw[List.forIn_nil];exact FC (FC hQ)
end
def gF(X:Cx)(sc:Scope)(C:Addr):List (Str×Addr):=cellsFrom (Nat.succ C) sc.names (df sc.names X.env.cells)
def cz(X:Cx)(sc:Scope)(own:List Str)(js:List Nat)(z:Blk):Cx where
 prog:=X.prog
 w:=X.w
 K:=X.K
 mg:=X.mg
 base:=X.base
 A:=X.A
 N:=own++js.map λj=>X.N.getD j ""
 s₀:=z.s
 H₀:=z.H
 env:=compEnvC sc (gF X sc z.C) z.C X.env
 outer:=X.stack
 stack:=X.stack
 ex:=z.fp
 fn:=λx=>sc.names.lookup x == some .cell
 calm:=X.calm
 pn:=[]
 xe:=λ_ _=>False
def dS(sc out:Scope):Bool:=sc.names.all λp=>(p.2 != .cell || sc.names.lookup p.1 == some .cell) && (p.2 != .local || sc.names.lookup p.1 == some .local) && (p.2 != .free || out.names.lookup p.1 == some .cell || out.names.lookup p.1 == some .free) && (p.2 != .free || sc.names.lookup p.1 == some .free)
def jY{sc out:Scope}(h:dS sc out=true){p:Str×NameKind}(hp:p∈sc.names)(hf:p.2=.free):out.names.lookup p.1=some .cell\/out.names.lookup p.1=some .free:=by have:=Gj.mp h p hp;simp[hf]at this;exact this.1
def EL{sc out:Scope}(h:dS sc out=true){x:Str}(hp:(x,NameKind.free)∈sc.names)(h2:sc.names.lookup x=some .cell):False:=by have:=Gj.mp h _ hp;simp[h2]at this
def ET{sc out:Scope}(h:dS sc out=true){p:Str×NameKind}(hp:p∈sc.names)(hf:p.2=.cell):sc.names.lookup p.1=some .cell:=by have:=Gj.mp h p hp;simp[hf]at this;exact this
def vo{sc out:Scope}(h:dS sc out=true){p:Str×NameKind}(hp:p∈sc.names)(hf:p.2=.local):sc.names.lookup p.1=some .local:=by have:=Gj.mp h p hp;simp[hf]at this;exact this
section
variable {X:Cx} {pins:List (Addr×Obj)} {σ:St} {H:Hp} {s:Shared}
def ju(ok:X.Ok){sc:Scope}(hb:dS sc X.env.scope=true){x:Str}{c:Addr}(h:(df sc.names X.env.cells).lookup x=some c):X.env.cells.lookup x=some c:=by
 rcases lg X.env.cells sc.names [] x c h with⟨h1,h2⟩|h1
 ·obtain⟨d,hd⟩:=ok.has x (jY hb h1 rfl);rw[hd]at h2 ⊢;rw[h2];rfl
 ·simp at h1
def iE(ok:X.Ok){sc:Scope}(hb:dS sc X.env.scope=true){C:Addr}{x:Str}{c:Addr}(h:(gF X sc C).lookup x=some c):X.env.cells.lookup x=some c\/(@LT.lt Nat _ C c/\sc.names.lookup x=some .cell):=by
 rcases gJ _ _ _ h with h|⟨h1,h2⟩
 ·exact .inl (ju ok hb h)
 ·exact .inr ⟨h1,ET hb h2 rfl⟩
def qp{sc:Scope}{x:Str}{C:Addr}(h:(x,NameKind.free)∈sc.names):∃c,(gF X sc C).lookup x=some c:=by obtain⟨c,hc⟩:=vI (cells:=X.env.cells) h;exact Option.isSome_iff_exists.mp (PySem.W.cellsFrom_some sc.names _ _ (.inr (by rw[hc];rfl)))
def AI(I:Inv X pins σ H s){sc:Scope}(hb:dS sc X.env.scope=true){x:Str}{c:Addr}(h:(df sc.names X.env.cells).lookup x=some c):@LT.lt Nat _ c s.heap.objs.size:=I.cell_lt (ju I.ok hb h)
def EH(I:Inv X pins σ H s){sc:Scope}{own:List Str}{js:List Nat}{fp:List Addr}{C:Nat}(hk:sc.kind=.function)(hb:dS sc X.env.scope=true)
  (hfp:∀b∈fp,di X pins H b) (hC:s.heap.objs.size<=C) (hlt:∀b∈fp,b<s.heap.objs.size):(cz X sc own js ⟨s,H,fp,C⟩).Ok where
 mod:=I.ok.mod
 kind:=hk
 glob:=I.ok.glob
 blt:=I.ok.blt
 above:=hC
 inj:=λx y c h1 h2=>kL sc.names _ _ (λx c e=>Nat.lt_succ_of_le (Gh (Nat.le_of_lt (AI I hb e)) hC)) (λx y c e1 e2=>I.ok.inj x y c (ju I.ok hb e1) (ju I.ok hb e2)) h1 h2
 has:=λx hx=>by
  have hx':(relabel sc X.env).names.lookup x=some .cell\/(relabel sc X.env).names.lookup x=some .free:=hx;have go:∀k,(relabel sc X.env).names.lookup x=some k->(k=.cell\/k=.free)->∃c,(gF X sc C).lookup x=some c:=λk h hkk=>by
   obtain⟨k',h1,h2⟩:=lN (sc:=sc) (env:=X.env) h;have m:=gI h1;rcases h2 with h2|⟨h2,_⟩
   ·subst h2;rcases hkk with e|e
    ·rw[e]at h1;exact Option.isSome_iff_exists.mp (PySem.W.cellsFrom_some sc.names _ _ (.inl h1))
    ·rw[e]at m;exact qp m
   ·rw[h2]at m;exact qp m
  rcases hx' with h|h
  ·exact go _ h (.inl rfl)
  ·exact go _ h (.inr rfl)
 cab:=λx c h e=>by
  have hx:sc.names.lookup x=some .cell:=by simpa[cz]using h
  have e':(gF X sc C).lookup x=some c:=e;rcases gJ _ _ _ e' with e1|⟨e1,_⟩
  ·rcases lg X.env.cells sc.names [] x c e1 with⟨h1,_⟩|h1
   ·exact(EL hb h1 hx).elim
   ·simp at h1
  ·exact Gh hC (Nat.le_of_succ_le e1)
 hd:=I.ok.hd
 frames:=I.ok.frames
 stk:=.inl rfl
 exf:=λb hb'=>⟨F4 (Gg (hlt b hb') hC),λx c e=>by
  rcases iE I.ok hb (C:=C) e with e|⟨e,_⟩
  ·exact(hfp b hb').2.2.2.2.1 x c e
  ·exact Nat.ne_of_gt (Nat.lt_trans (Gg (hlt b hb') hC) e)⟩
 bs:=I.bs
 bsz:=Gh I.ok.bsz I.sz
 noex:=λb o e hb'=>by
  rcases(hfp b hb').2.2.2.1 with z|z
  ·exact I.ok.noex b o e z
  ·exact absurd (Gg (FG e) (Gh I.ok.bsz z)) (Nat.lt_irrefl _)
 exfs:=λb hb' hm=>by
  rcases FX.mp (I.stkSub b hm)with e|h
  ·exact(hfp b hb').2.1 e
  ·exact(hfp b hb').2.2.1 h
 funs:=I.stack
 frf:=I.stkFree
def Aj(I:Inv X pins σ H s){sc:Scope}{own:List Str}{js:List Nat}{fp:List Addr}{C D:Nat}{h1:Heap}{tk:Nat}{o:Obj}{m:Str->Option Value}(hk:sc.kind=.function)(hb:dS sc X.env.scope=true)(hj:lA sc X.N js=true)
  (hfp:∀b∈fp,di X pins H b) (hlt:∀b∈fp,b<s.heap.objs.size) (hD:D=s.heap.objs.size) (hC:C=s.heap.objs.size+1) (old:∀b o,s.heap.get? b=some o->h1.get? b=some o)
  (hDo:h1.get? D=some o) (hod:∀v,o.data≠.cell v) (hm:h1.Ns C m) (hcl:∀x c,(gF X sc C).lookup x=some c->(df sc.names X.env.cells).lookup x=some c\/h1.IsCell c none) :
  Inv (cz X sc own js ⟨s,H,fp,C⟩) [(D,o)] (du own.length js σ) H { s with heap:=h1,toks:=tk } where
 ok:=EH I hk hb hfp (show @LE.le Nat _ s.heap.objs.size C by omega) hlt
 os:=rfl
 bare:=I.bare
 base:=Un.kept old
 loc:=by
  refine⟨m,hm,λi x v e1 e2 e3=>?_⟩;obtain⟨k,j,rfl,ej,es⟩:=vy e2;have e1':(own++js.map λj=>X.N.getD j "")[own.length+k]?=some x:=e1;rw[F9 (by omega),Nat.add_sub_cancel_left,FJ,ej]at e1';have ex:X.N.getD j "" = x:=by simpa using e1'
  have hjj:=Gj.mp hj j (FR ej);simp only[Gn,decide_eq_true_eq,beq_iff_eq]at hjj;have exN:X.N[j]?=some x:=by rw[←ex,List.getD_eq_getElem?_getD,FI hjj.1];rfl
  have hfree:sc.names.lookup x=some .free:=by rw[←ex];exact hjj.2
  have hmem:=gI hfree;have hout:=jY hb hmem rfl;obtain⟨m0,hn0,hl0⟩:=I.loc;obtain⟨u,r,l⟩:=hl0 j x v exN es (by rcases hout with z|z;exact .inr (.inl z);exact .inr (.inr z));refine⟨u,r,?_⟩;obtain⟨c,hc⟩:=qp (X:=X) (C:=C) hmem;have hc':X.env.cells.lookup x=some c:=by
   rcases iE I.ok hb hc with e|⟨_,e⟩
   ·exact e
   ·rw[hfree]at e;cases e
  have hcell:s.heap.IsCell c (some u):=by
   rcases l with⟨z,_⟩|⟨_,c',e',q⟩
   ·have z':X.env.scope.names.lookup x=some .local:=z;rcases hout with w|w<;>(rw[z']at w;cases w)
   ·rw[hc']at e';cases e';exact q
  have hcell1:h1.IsCell c (some u):=by obtain⟨oc,ho,hd⟩:=hcell;exact⟨oc,old c oc ho,hd⟩
  right;refine⟨?_,c,hc,hcell1⟩;have e3':(relabel sc X.env).names.lookup x=some .local\/(relabel sc X.env).names.lookup x=some .cell\/(relabel sc X.env).names.lookup x=some .free:=e3;rcases e3' with z|z
  ·obtain⟨k',z1,z2⟩:=lN (sc:=sc) (env:=X.env) z;rw[hfree]at z1;rcases z2 with z2|⟨_,z2⟩
   ·rw[z2]at z1;cases z1
   ·cases z2
  ·exact z
 cell:=λx c e=>by
  rcases hcl x c e with e|e
  ·obtain⟨v,oc,ho,hd⟩:=I.cell x c (ju I.ok hb e);exact⟨v,oc,old c oc ho,hd⟩
  ·exact⟨none,e⟩
 free:=I.hok.fresh (show @LE.le Nat _ s.heap.objs.size C by omega)
 freeC:=λx c e=>by
  rcases iE I.ok hb (C:=C) e with e|⟨e,_⟩
  ·exact I.freeC x c e
  ·exact I.hok.fresh (show @LE.le Nat _ s.heap.objs.size c by omega)
 pin:=λp hp=>by
  have e:p=(D,o):=by simpa[cz]using hp
  subst e;refine⟨hDo,I.hok.fresh (show @LE.le Nat _ s.heap.objs.size D by omega),?_,λz=>?_,hod⟩
  ·exact F4 (show @LT.lt Nat _ D C by omega)
  ·have h9:@LT.lt Nat _ D s.heap.objs.size:=I.stk_lt (b:=D) z;omega
 hok:=I.hok.kept old
 len:=by show(du own.length js σ).length=(own++js.map λj=>X.N.getD j "").length;simp[du]
def yb{elt tg iter:Expr}{ifs:List Expr}{sc:Scope}{pos:Pos}{own:List Str}{js:List Nat}{g:TG}{tc:TT}{te:TE}{J:It}{it:Addr}{fp:List Addr}{tn:Nat->Heap->Prop}{RR:Value->Addr->Result->Shared->Prop}{E:Value->Shared->Prop}
  {Q:VK} {W:Nat->Nat->List V->Hp->Prop} (hk:sc.kind=.function) (hb:dS sc X.env.scope=true) (hj:lA sc X.N js=true)
  (hg:∀C,PG (cz X sc own js ⟨s,H,fp,C⟩) tg g) (ht:∀C,jQ (cz X sc own js ⟨s,H,fp,C⟩) ifs tc) (he:∀C,PE (cz X sc own js ⟨s,H,fp,C⟩) elt te)
  (I:Inv X pins σ H s) (T:∀C,TurnAt (cz X sc own js ⟨s,H,fp,C⟩) tg J fp it tn) (st:tn 0 s.heap) (hfp:∀b∈fp,di X pins H b) (w0:∃m,W 0 m [] H)
  (turn:∀i m ys H',W i m ys H'->(J.stop i H'/\∀p,H' p=none->Q (.ref p) (upd H' p (.lst ys))) ∨
   (J.go i H'/\ys.length<sizeLine/\∃N:List V->Hp->Prop,(∀ys' H2,N ys' H2->∃m',m'<m/\W (i+1) m' ys' H2)/\∀x H2,J.yld i H' x H2->g x (du own.length js σ) H2 λσ2 H3=>tc σ2 H3 λb H4=>
    if b=true then te σ2 H4 λv H5=>N (ys++[v]) H5 else N ys H4))
  (fin:∀D C s' ys H',H' D=none->Inv X pins σ (upd H' D (.lst ys)) s'->di X pins (upd H' D (.lst ys)) C->(∃m,s'.heap.Ns C m)->s.heap.objs.size<=C->Q (.ref D) (upd H' D (.lst ys))->RR (.ref D) C (.ok .next) s') :
  wpAny (model X.prog X.w) X.A (newList []) (λacc s₃=>wpAny (model X.prog X.w) X.A (newFunctionEnv sc X.env.globals (df sc.names X.env.cells) [] X.env.qual none .none (some X.env)) (λcenv s₄=>
   codeAny (model X.prog X.w) X.A (.compStart (.ListComp elt [⟨tg,iter,ifs,0⟩] sc pos) 0 (.ref it) acc { cenv with scope:=relabel sc X.env }) (RR acc cenv.locals) s₄) E s₃) E s:=by
 have hlt:∀b∈fp,b<s.heap.objs.size:=λb hb'=>by obtain⟨o,e,_⟩:=(T 0).obj 0 s.heap st b hb';exact FG e
 refine wpAny_newObj_type (AH ?_);dsimp only;generalize hH2:s.heap.push { cls:=.type "list",dict:=none,data:=.seq ([]:List Value).toArray }=H2 at *;have hCs:H2.objs.size=s.heap.objs.size+1:=by rw[←hH2,Heap.size_push]
 have hns₁:(pushCells (H2.push { cls:=.type "dict",data:=.dict #[] }) sc.names).Ns H2.objs.size (λ_=>none):=(Heap.Ns.new H2 (.type "dict")).keeps (pushCells_keeps _ _);have hcl₁:∀x c,(gF X sc H2.objs.size).lookup x=some c->(df sc.names X.env.cells).lookup x=some c\/(pushCells (H2.push { cls:=.type "dict",data:=.dict #[] }) sc.names).IsCell c none:=λx c e=>by have e':(cellsFrom (H2.objs.size+1) sc.names (df sc.names X.env.cells)).lookup x=some c:=e;rw[←Heap.size_push H2 { cls:=.type "dict",data:=.dict #[] }]at e';exact pw _ _ _ e'
 have old:∀b o,s.heap.get? b=some o->(pushCells (H2.push { cls:=.type "dict",data:=.dict #[] }) sc.names).get? b=some o:=λb o e=>pushCells_keeps _ _ b o (FE _ (hH2 ▸ FE _ e));have hDo:(pushCells (H2.push { cls:=.type "dict",data:=.dict #[] }) sc.names).get? s.heap.objs.size=some (dY [] 0):=pushCells_keeps _ _ _ _ (FE _ (hH2 ▸ FF _ rfl));generalize pushCells (H2.push { cls:=.type "dict",data:=.dict #[] }) sc.names=h₁ at *;generalize hCe:H2.objs.size=C at *;have below:∀b:Nat,b<s.heap.objs.size->b≠C:=λb hb'=>by omega
 generalize hDe:s.heap.objs.size=D at *;let Y:Cx:=cz X sc own js ⟨s,H,fp,C⟩;have J0:Inv Y [(D,dY [] 0)] (du own.length js σ) H { s with heap:=h₁ }:=
  Aj I hk hb hj hfp (by rw[hDe];exact hlt) hDe.symm (by rw[hDe];exact hCs) old hDo (λv z=>by cases z) hns₁ hcl₁
 have ndC:@Ne Nat D C:=by omega
 have statF:∀{P':List (Addr×Obj)} {H':Hp},(∀b∈fp,H' b=none)->(∀p∈P',p.1∉fp)->∀b∈fp,di Y P' H' b:=λ{P' H'} hn hp b hb'=>by
  obtain⟨f0,f1,f2,f3,f4,f5⟩:=hfp b hb';refine⟨hn b hb',λz=>below b (hlt b hb') z,λz=>?_,.inl hb',λx c e=>?_,λp hp' z=>?_⟩
  ·rcases FX.mp (I.stkSub b z)with e|h
   ·exact f1 e
   ·exact f2 h
  ·rcases iE I.ok hb (C:=C) e with e|⟨e,_⟩
   ·exact f4 x c e
   ·have h9:@LT.lt Nat _ b s.heap.objs.size:=by rw[hDe];exact hlt b hb'
    exact Nat.ne_of_gt (show @LT.lt Nat _ b c by omega)
  ·have:p∈P':=by simpa[Y,cz]using hp'
   exact hp p this (by rw[z];exact hb')
 have Dfp:D∉fp:=λz=>by have h9:@LT.lt Nat _ D D:=hlt D z;omega
 have st1:tn 0 h₁:=(T 0).keep 0 s.heap h₁ st λb _ o e=>old b o e;have loop:∀s₃:Shared,s₃={ s with heap:=h₁ } →
   codeAny (model X.prog X.w) X.A (.compLoop (.ListComp elt [⟨tg,iter,ifs,0⟩] sc pos) 0 (.ref it) (.ref D) Y.env) (RR (.ref D) C) s₃:=by
  rintro s₃ rfl;obtain⟨m0,w0⟩:=w0;refine Cr (λn s'=>∃i ys its q H',Inv Y [(D,dY its q)] (du own.length js σ) H' s'/\Vals ys its/\ys.length<=sizeLine/\tn i s'.heap/\(∀b∈fp,H' b=none)/\W i n ys H') ?_ m0
   ⟨0,[],[],0,H,J0,.nil,Nat.zero_le _,st1,λb hb'=>(hfp b hb').1,w0⟩
  rintro n s3 ⟨i,ys,its,q,H3,I3,rv,hz,st3,fr3,w3⟩;have pD:∀p∈[(D,dY its q)],p.1∉fp:=λp hp=>by
   have e:p=(D,dY its q):=by simpa using hp
   rw[e];exact Dfp
  rcases turn i n ys H3 w3 with⟨stop,qn⟩|⟨go,hlen,N,hN,step⟩
  ·refine ay ((T C).done i _ s3 _ H3 _ I3 (statF fr3 pD) st3 stop) λr s4 ⟨hr,I4⟩=>?_;subst hr;show RR (.ref D) C (.ok .next) s4;have hDp:=I4.pin (D,dY its q) (Gr _ (FT.mpr rfl));have hD4:s4.heap.get? D=some (dY its q):=hDp.1;have nD:H3 D=none:=hDp.2.1;have U:Un (aX X.stack) fp H H3 s.heap s4.heap:=I4.base;have neD:∀b o,s.heap.get? b=some o->b≠D:=λb o e=>F4 (by have h9:@LT.lt Nat _ b s.heap.objs.size:=FG e;omega);have neDH:∀b o,H b=some o->b≠D:=λb o e=>F4 (by have h9:@LT.lt Nat _ b s.heap.objs.size:=I.hok.lt e;omega);have U2:Un (aX X.stack) fp H (upd H3 D (.lst ys)) s.heap s4.heap:=
    ⟨U.keep,U.slot,λb o e n hx=>by rw[aC (neD b o e)];exact U.free b o e n hx,U.there,λb xs e=>by rw[aC (neDH b _ e)];exact U.tups b xs e,
     λb o u e=>by rw[aC (neDH b _ e)];exact U.frzs b o u e,λb ps e=>by rw[aC (neDH b _ e)];exact U.tbls b ps e⟩
   have hok2:bf X.prog X.w (upd H3 D (.lst ys)) s4.heap:=λb o e=>by
    by_cases hb':b=D
    ·subst hb';rw[aN]at e;cases e;exact⟨hz,its,q,rv,hD4⟩
    ·rw[aC hb']at e;exact(I4.hok b o e).stay (λc u _ z=>z) (λc z=>by rw[aC (cw z nD)];exact z) λc xs z=>by rw[aC (cw z nD)];exact z
   have IX:Inv X pins σ (upd H3 D (.lst ys)) s4:=I.call' (ch:=fp) I4.os U2 hok2 I4.bare λb hb'=>by obtain⟨f0,f1,f2,f3,f4,f5⟩:=hfp b hb';exact⟨f3,f1,f4,f5⟩
   obtain⟨m4,hn4,_⟩:=I4.loc;have nC:H3 C=none:=I4.free;refine fin D C s4 ys H3 nD IX ?_ ⟨m4,hn4⟩ (show @LE.le Nat _ D C by omega) (qn D nD);refine⟨by rw[aC (Ne.symm ndC)];exact nC,?_,?_,?_,?_,?_⟩
   ·have h9:@LT.lt Nat _ X.env.locals s.heap.objs.size:=I.lt;exact Nat.ne_of_gt (show @LT.lt Nat _ X.env.locals C by omega)
   ·exact I.nofs (show @LE.le Nat _ s.heap.objs.size C by omega)
   ·right;have h9:@LE.le Nat _ X.s₀.heap.objs.size s.heap.objs.size:=I.sz;exact(show @LE.le Nat _ X.s₀.heap.objs.size C by omega)
   ·intro x c e;have h9:@LT.lt Nat _ c s.heap.objs.size:=I.cell_lt e;exact F4 (show @LT.lt Nat _ c C by omega)
   ·intro p hp;have h9:@LT.lt Nat _ p.1 s.heap.objs.size:=I.pin_lt hp;exact F4 (show @LT.lt Nat _ p.1 C by omega)
  ·refine ay ((T C).item i _ s3 _ H3 _ I3 (statF fr3 pD) st3 go) λr s4 ⟨u,hr,h4⟩=>?_;subst hr;refine ay h4 λ_ s5 ⟨x,H5,I5,r5,y5,st5,fr5⟩=>?_;have I5':=I5.pinned (statF fr5 pD) ((T 0).obj _ _ st5);refine ay (hg _ _ s5 _ H5 x u _ I5' r5 (step x H5 y5)) λ_ s6 ⟨σ6,H6,I6,q6⟩=>?_;refine ay (ht _ _ s6 σ6 H6 _ I6 q6) λok s7 ⟨H7,I7,q7⟩=>?_;have back:∀{s':Shared} {σ':St} {H':Hp} {ys':List V} {its':List Value} {q':Nat},Inv Y ([(D,dY its' q')]++gA fp s5.heap) σ' H' s'->Vals ys' its'->ys'.length<=sizeLine->N ys' H' →
     ∃m,m<n/\∃i ys its q H',Inv Y [(D,dY its q)] (du own.length js σ) H' s'/\Vals ys its/\ys.length<=sizeLine/\tn i s'.heap/\(∀b∈fp,H' b=none)/\W i m ys H':=by
    intro s' σ' H' ys' its' q' I' rv' hz' nn;obtain⟨m',hm,w'⟩:=hN ys' H' nn;have hpin:∀b∈fp,∀o,s5.heap.get? b=some o->s'.heap.get? b=some o/\H' b=none:=λb hb' o e=>by have:=I'.pin (b,o) (Gr _ (Gr _ (m6 hb' e)));exact⟨this.1,this.2.1⟩
    refine⟨m',hm,i+1,ys',its',q',H',?_,rv',hz',(T 0).keep _ _ _ st5 λb hb' o e=>(hpin b hb' o e).1,λb hb'=>?_,w'⟩
    ·have I'':=I'.unpinned;obtain⟨mm,hmm,_⟩:=id I''.loc;refine⟨I''.ok,I''.os,I''.bare,I''.base,⟨mm,hmm,λk x v e1 e2 e3=>?_⟩,I''.cell,I''.free,I''.freeC,I''.pin,I''.hok,?_⟩
     ·obtain⟨m1,hn1,hl1⟩:=J0.loc;obtain⟨u1,r1,l1⟩:=hl1 k x v e1 e2 e3;refine⟨u1,r1,?_⟩;obtain⟨k',j,rfl,ej,es⟩:=vy e2;have e1':(own++js.map λj=>X.N.getD j "")[own.length+k']?=some x:=e1;rw[F9 (by omega),Nat.add_sub_cancel_left,FJ,ej]at e1';have ex:X.N.getD j "" = x:=by simpa using e1'
      have hjj:=Gj.mp hj j (FR ej);simp only[Gn,decide_eq_true_eq,beq_iff_eq]at hjj;have hfree:sc.names.lookup x=some .free:=by rw[←ex];exact hjj.2
      rcases l1 with⟨z,zz⟩|⟨z,c,e,zz⟩
      ·exfalso;obtain⟨k2,z1,z2⟩:=lN (sc:=sc) (env:=X.env) (show(relabel sc X.env).names.lookup x=some .local from z);rw[hfree]at z1;rcases z2 with z2|⟨_,z2⟩
       ·rw[z2]at z1;cases z1
       ·cases z2
      ·refine .inr ⟨z,c,e,?_⟩;have hcs:X.env.cells.lookup x=some c:=by
        rcases iE I.ok hb (C:=C) e with e|⟨_,e⟩
        ·exact e
        ·rw[hfree]at e;cases e
       obtain⟨ov,oc,hoc,hdc⟩:=I.cell x c hcs;have hoc1:=old c oc hoc;obtain⟨oz,hoz,hdz⟩:=zz;have hoz':h₁.get? c=some oz:=hoz;rw[hoc1]at hoz';cases hoz';have cnf:c∉fp:=λz'=>(hfp c z').2.2.2.2.1 x c hcs rfl;obtain⟨sl,hh⟩:=I''.base.any hoc (I.freeC x c hcs) cnf;exact⟨_,hh,hdz⟩
     ·show(du own.length js σ).length=_;exact J0.len
    ·obtain⟨o,e,d⟩:=(T 0).obj _ _ st5 b hb';exact(hpin b hb' o e).2
   cases ok with
   | false=>
    rw[GG FY]at q7 ⊢;exact back I7 rv hz q7
   | true=>
    rw[GH rfl]at q7 ⊢;refine ay (he _ _ s7 σ6 H7 _ I7 q7) λxv s8 ⟨v,H8,I8,r8,q8⟩=>?_;have hDp:=I8.pin (D,dY its q) (Gr _ (Gs _ (FT.mpr rfl)));have hD8:s8.heap.get? D=some { cls:=.type "list",data:=.seq its.toArray q }:=hDp.1;have hl:=rv.length;refine call_meets F.slot_list_append ⟨_,hD8,rfl⟩ F.entry_list_append (F.args_list_append_2 _ _) (PySem.list_append D its.toArray q xv (by rw[FN];omega)) ⟨hD8,?_⟩;have qq:=PySem.IsL.update hD8 (λa=>a.push xv);have eqs:its.toArray.push xv=(its++[xv]).toArray:=by simp
    rw[eqs]at qq;obtain⟨q2,hq2⟩:∃q2,(s8.heap.update D (Obj.mapSeq λa=>a.push xv)).get? D=some (dY (its++[xv]) q2):=⟨_,qq⟩;have I8a:Inv Y (gA fp s5.heap) σ6 H8 s8:=I8.pins_of λp hp=>I8.pin p (Gr _ (Gr _ hp));have nD8:H8 D=none:=hDp.2.1;have I9:Inv Y (gA fp s5.heap) σ6 H8 { s8 with heap:=s8.heap.update D (Obj.mapSeq λa=>a.push xv),toks:=s8.toks }:=by
     refine I8a.turned (it:=D) (λb o hb' e=>(Heap.get?_update_other s8.heap (Obj.mapSeq λa=>a.push xv) (Ne.symm hb')).trans e) nD8 ndC (.inr (show @LE.le Nat _ s.heap.objs.size D by omega)) (λx c e=>?_) λp hp=>?_
     ·rcases iE I.ok hb (C:=C) e with e|⟨e,_⟩
      ·have h9:@LT.lt Nat _ c s.heap.objs.size:=I.cell_lt e;exact F4 (show @LT.lt Nat _ c D by omega)
      ·exact Nat.ne_of_gt (show @LT.lt Nat _ D c by omega)
     ·have hp':p∈gA fp s5.heap:=by simpa[Y,cz]using hp
      obtain⟨h1,_⟩:=rm hp';exact λz=>Dfp (z ▸ h1)
    refine back (ys':=ys++[v]) (its':=its++[xv]) (q':=q2) (I9.pins_of λp hp=>?_) (rv.append (.cons r8 .nil)) (by rw[F0,List.length_singleton];omega) q8;rcases F8.mp hp with hp|hp
    ·have e:p=(D,dY (its++[xv]) q2):=by simpa using hp
     subst e;refine⟨hq2,nD8,ndC,λz=>?_,λv z=>by cases z⟩;have h9:@LT.lt Nat _ D s.heap.objs.size:=I.stk_lt (b:=D) z;omega
    ·exact I9.pin p (Gr _ hp)
 exact codeAny_compStart_list (loop _ rfl) ((T 0).self X.A 0 { s with heap:=h₁ } _ _ st1 (loop _ rfl))
def dE{elt tg iter:Expr}{ifs:List Expr}{sc:Scope}{pos:Pos}(own:List Str)(js:List Nat){wi:TI}{g:TG}{tc:TT}{te:TE}(hi:PI X tg iter wi)(hg:∀z,PG (cz X sc own js z) tg g)(ht:∀z,jQ (cz X sc own js z) ifs tc)
  (he:∀z,PE (cz X sc own js z) elt te) (hc:X.calm=true:=by rfl) (hk:sc.kind=.function:=by rfl) (hb:dS sc X.env.scope=true:=by rfl) (hj:lA sc X.N js=true:=by rfl)
  (hs:∀x,foldedSetIterable iter X.env x=pure x:=by intro _;rfl):PE X (.ListComp elt [⟨tg,iter,ifs,0⟩] sc pos) (oq own.length js wi g tc te):=by
 intro pins s σ H Q I h;rw[eval_ListComp];refine wpAny_comprehension_free (use:=none) rfl hs (qy λp hp hf=>I.ok.has p.1 (jY hb hp hf)) hk (λp hp hl=>vo hb hp hl) (ay (hi pins s σ H _ I h) λv s1 h1=>ay h1 λitv s2 h2=>?_);obtain⟨it,fp,tn,J,H2,e,I2,T,st2,f2,W,w0,turn⟩:=h2;subst e;refine yb (RR:=λacc C=>compPost (model X.prog X.w) X.A X.xe none (EP X pins σ Q) acc C) hk hb hj (λ_=>hg _) (λ_=>ht _) (λ_=>he _) I2 (λC=>Turn.at_ (Y:=cz X sc own js ⟨_,_,_,C⟩) T hc) st2 f2 w0 turn ?_;intro D C s' ys H' nD I' hC ⟨m,hm⟩ _ q;refine⟨m,hm,λh' hs'=>?_⟩;obtain⟨f0,f1,f2,f3,f4,f5⟩:=hC;exact⟨.ref D,_,I'.turned (t':=s'.toks) (it:=C) (λb o hb' e=>(hs'.2 b hb').trans e) f0 f1 f3 f4 f5,rfl,q⟩
end
def cV(c:Addr)(o:Obj):HO:=.ext λh=>h.get? c=some o
def DZ{P:Program}{w:World}{H:Hp}{h:Heap}{c:Addr}{o:Obj}(r:h.get? c=some o):br P w H h c (cV c o):=⟨r,⟨o,r⟩,λh1 h2 r1 k=>k o r1⟩
def bJ(cs:List (Addr×Obj))(H:Hp):Hp:=λb=>match cs.lookup b with|some o=>some (cV b o)|none=>H b
def aV(cs:List (Addr×Obj))(H:Hp):Hp:=λb=>match cs.lookup b with|some _=>none|none=>H b
section
variable {cs:List (Addr×Obj)} {H H':Hp} {b:Addr} {o:Obj} {P:Program} {w:World} {h h':Heap} {fs ex:List Addr}
def dI(q:cs.lookup b=some o):bJ cs H b=some (cV b o):=by unfold bJ;rw[q]
def cQ(q:cs.lookup b=none):bJ cs H b=H b:=by unfold bJ;rw[q]
def gX(q:cs.lookup b=some o):aV cs H b=none:=by unfold aV;rw[q]
def cq(q:cs.lookup b=none):aV cs H b=H b:=by unfold aV;rw[q]
def EU{u:HO}(q:aV cs H b=some u):cs.lookup b=none/\H b=some u:=by
 cases e:cs.lookup b with
 | none=>rw[cq e]at q;exact⟨rfl,q⟩
 | some o=>rw[gX e]at q;cases q
def qx{u:HO}(hc:∀b o,cs.lookup b=some o->H b=none)(q:H b=some u):bJ cs H b=some u:=by
 cases e:cs.lookup b with
 | none=>rw[cQ e];exact q
 | some o=>rw[hc b o e]at q;cases q
def sT(hok:bf P w H h)(hc:∀b o,cs.lookup b=some o->h.get? b=some o)(hn:∀b o,cs.lookup b=some o->H b=none):bf P w (bJ cs H) h:=λb u e=>by
 cases q:cs.lookup b with
 | some o=>rw[dI q]at e;cases e;exact DZ (hc b o q)
 | none=>
  rw[cQ q]at e;exact(hok b u e).stay (λd v _ g=>g) (λd hd=>qx hn hd) λd xs hd=>qx hn hd
def vF(hok:bf P w H h)(hc:∀b o,cs.lookup b=some o->H b=some (cV b o)):bf P w (aV cs H) h:=λb u e=>by
 obtain⟨q,e⟩:=EU e;have nt:∀d x,H d=some x->(∀f,x≠.ext f)->aV cs H d=some x:=λd x hd nx=>by
  cases z:cs.lookup d with
  | none=>rw[cq z];exact hd
  | some o'=>rw[hc d o' z]at hd;cases hd;exact absurd rfl (nx _)
 exact(hok b u e).stay (λd v _ g=>g) (λd hd=>nt d _ hd λf z=>by cases z) λd xs hd=>nt d _ hd λf z=>by cases z
def Fl(u:Un fs ex (bJ cs H) H' h h')(hok':bf P w H' h')(hc:∀b o,cs.lookup b=some o->h.get? b=some o)(hn:∀b o,cs.lookup b=some o->H b=none)(hc':∀b o,cs.lookup b=some o->H' b=some (cV b o)):Un fs ex H (aV cs H') h h' where
 keep:=λb o e n nf nx=>by
  cases q:cs.lookup b with
  | none=>exact u.keep b o e (by rw[cQ q];exact n) nf nx
  | some o'=>
   rw[hc b o' q]at e;cases e;exact(hok' b _ (hc' b _ q)).1
 slot:=λb o e n nf nx=>by
  cases q:cs.lookup b with
  | none=>exact u.slot b o e (by rw[cQ q];exact n) nf nx
  | some o'=>
   rw[hc b o' q]at e;cases e;exact⟨_,(hok' b _ (hc' b _ q)).1⟩
 free:=λb o e n nx=>by
  cases q:cs.lookup b with
  | none=>rw[cq q];exact u.free b o e (by rw[cQ q];exact n) nx
  | some o'=>exact gX q
 there:=u.there
 tups:=λb xs e=>by
  cases q:cs.lookup b with
  | none=>rw[cq q];exact u.tups b xs (by rw[cQ q];exact e)
  | some o'=>rw[hn b o' q]at e;cases e
 frzs:=λb o x e=>by
  cases q:cs.lookup b with
  | none=>rw[cq q];exact u.frzs b o x (by rw[cQ q];exact e)
  | some o'=>rw[hn b o' q]at e;cases e
 tbls:=λb ps e=>by
  cases q:cs.lookup b with
  | none=>rw[cq q];exact u.tbls b ps (by rw[cQ q];exact e)
  | some o'=>rw[hn b o' q]at e;cases e
def E7(u:Un fs ex (aV cs H) H' h h')(hc:∀b o,cs.lookup b=some o->H b=some (cV b o)):Un fs ex H (bJ cs H') h h' where
 keep:=λb o e n nf nx=>by
  cases q:cs.lookup b with
  | none=>exact u.keep b o e (by rw[cq q];exact n) nf nx
  | some o'=>rw[hc b o' q]at n;cases n
 slot:=λb o e n nf nx=>by
  cases q:cs.lookup b with
  | none=>exact u.slot b o e (by rw[cq q];exact n) nf nx
  | some o'=>rw[hc b o' q]at n;cases n
 free:=λb o e n nx=>by
  cases q:cs.lookup b with
  | none=>rw[cQ q];exact u.free b o e (by rw[cq q];exact n) nx
  | some o'=>rw[hc b o' q]at n;cases n
 there:=u.there
 tups:=λb xs e=>by
  cases q:cs.lookup b with
  | none=>rw[cQ q];exact u.tups b xs (by rw[cq q];exact e)
  | some o'=>rw[hc b o' q]at e;cases e
 frzs:=λb o x e=>by
  cases q:cs.lookup b with
  | none=>rw[cQ q];exact u.frzs b o x (by rw[cq q];exact e)
  | some o'=>rw[hc b o' q]at e;cases e
 tbls:=λb ps e=>by
  cases q:cs.lookup b with
  | none=>rw[cQ q];exact u.tbls b ps (by rw[cq q];exact e)
  | some o'=>rw[hc b o' q]at e;cases e
end
structure FunR(P:Program)(w:World)(K:FD)(mg:Str->Option Value)(base:Heap)(k:Nat)(f:Addr)(pre:Hp->Prop)(R:List V->Hp->VK->Prop):Prop where
 at_:∀H h,bf P w H h->pre H->PySem.W.FnAt f h
 run:∀(A:Around) (outer:List Env) (s:Shared) (H:Hp) (us:List Value) (vs:List V) (Q:VK),Room k A->Env0 P w K mg base A outer s H->pre H->Vals vs us->R vs H Q →
  codeAny (model P w) A (.call (.ref f) ⟨us,[]⟩) (CR cC outer P w H s Q E0) s
def wA(P:Program)(w:World)(K:FD)(mg:Str->Option Value)(base:Heap)(k:Nat)(tf:TE)(ta:TA):TE:=λσ H Q=>tf σ H λfv H1=>∃f pre R,fv=.ref f/\FunR P w K mg base k f pre R/\pre H1/\ta σ H1 λvs H2=>pre H2/\R vs H2 Q
def xM{X:Cx}{P:Program}{w:World}{K:FD}{mg:Str->Option Value}{base:Heap}{k:Nat}{x:Str}{p pos:Pos}{e:Expr}{es:List Expr}{tf:TE}{ta:TA}{A0:Around}(hr:Room k A0)(hf:PE X (.Name x p) tf)(ha:PA X (e::es) ta)(hA:X.A=A0:=by rfl)(hP:X.prog=P:=by rfl)(hw:X.w=w:=by rfl)(hK:X.K=K:=by rfl)(hm:X.mg=mg:=by rfl)(hB:X.base=base:=by rfl)
  (he:starEach (e::es) X.env=(false,eval e X.env)::starEach es X.env:=by rfl) (hpl:(backTo pos (starEach es X.env)).any (·.1)=false:=by rfl):PE X (.Call (.Name x p) (e::es) [] pos) (wA P w K mg base k tf ta):=by
 subst hA;subst hP;subst hw;subst hK;subst hm;subst hB;intro pins s σ H Q I h;refine wpAny_Call_Name_kw (ay (hf pins s σ H _ I h) λfv s1 ⟨v,H1,I1,r1,⟨f,pre,R,ev,F,hp,q1⟩⟩=>?_);subst ev;cases r1;refine PySem.W.callWith_F (first:=[]) (F.at_ _ _ I1.hok hp) (ay (ha pos pins s1 σ H1 _ I1 q1) λus s2 ⟨vs,H2,I2,r2,⟨hp2,q2⟩⟩=>?_) he hpl;refine⟨F.at_ _ _ I2.hok hp2,?_⟩;refine wpAny_call (codeAny_mono (F.run X.A X.stack s2 H2 us vs Q hr I2.env0 hp2 r2 q2) λr s' hq=>?_);cases r with
 | error e=>exact False.elim hq
 | ok fl=>
  cases fl with
  | ret u=>exact I2.after hq
  | next=>exact False.elim hq
  | brk=>exact False.elim hq
  | cont=>exact False.elim hq
structure Cap where
 n:Str
 c:Addr
 o:Obj
 v:V
abbrev cellsOf(cp:List Cap):List (Addr×Obj):=cp.map λe=>(e.c,e.o)
structure CapAt(X:Cx)(σ:St)(h:Heap)(js:List Nat)(cp:List Cap):Prop where
 len:cp.length=js.length
 at_:∀(i j:Nat) (e:Cap),js[i]?=some j->cp[i]?=some e->X.N[j]?=some e.n/\X.env.cells.lookup e.n=some e.c/\σ[j]?=some (some e.v)/\h.get? e.c=some e.o/\∃u,e.o.data=.cell (some u)/\RelV e.v u
def f9{cp:List Cap}{b:Addr}{o:Obj}(h:(cellsOf cp).lookup b=some o):∃e∈cp,e.c=b/\e.o=o:=by
 have hm:(b,o)∈cellsOf cp:=by
  have go:∀{l:List (Addr×Obj)},l.lookup b=some o->(b,o)∈l:=by
   intro l;induction l with
   | nil=>intro h;cases h
   | cons x r ih=>
    intro h;obtain⟨y,z⟩:=x;rw[Gy]at h;cases hb:b == y with
    | true=>rw[hb]at h;cases h;rw[beq_iff_eq.mp hb];exact FO
    | false=>rw[hb]at h;exact FK _ (ih h)
  exact go h
 obtain⟨e,he,eq⟩:=List.mem_map.mp hm;cases eq;exact⟨e,he,rfl,rfl⟩
def zM{cp:List Cap}{e:Cap}(h:e∈cp):∃o,(cellsOf cp).lookup e.c=some o:=by
 induction cp with
 | nil=>cases h
 | cons x r ih=>
  show ∃o,List.lookup e.c ((x.c,x.o)::cellsOf r)=some o;rw[Gy];cases hb:e.c == x.c with
  | true=>exact⟨_,rfl⟩
  | false=>
   rcases FX.mp h with rfl|h
   ·simp at hb
   ·exact ih h
def kX(sc:Scope)(N:List Str)(js:List Nat):Bool:=js.all λj=>decide (j<N.length) && (sc.names.lookup (N.getD j "") == some .cell)
section
variable {X:Cx} {pins:List (Addr×Obj)} {σ:St} {H:Hp} {s:Shared}
def Inv.capAt(I:Inv X pins σ H s):∀{js:List Nat},kX X.env.scope X.N js=true->(∀j∈js,∃v,σ[j]?=some (some v))->∃cp,CapAt X σ s.heap js cp
 | [],_,_=>⟨[],rfl,λi j e h=>by simp at h⟩
 | j::js,hj,hv=>by
  have hj2:(decide (j<X.N.length) && (X.env.scope.names.lookup (X.N.getD j "") == some .cell))=true/\kX X.env.scope X.N js=true:=by simpa[kX]using hj
  obtain⟨cp,hcp⟩:=I.capAt (js:=js) hj2.2 λi hi=>hv i (FK _ hi);obtain⟨v,ev⟩:=hv j FO;have h1:=hj2.1;simp only[Gn,decide_eq_true_eq,beq_iff_eq]at h1;have eN:X.N[j]?=some (X.N.getD j ""):=by rw[List.getD_eq_getElem?_getD,FI h1.1];rfl
  obtain⟨m,hn,hl⟩:=I.loc;obtain⟨u,r,l⟩:=hl j _ v eN ev (.inr (.inl h1.2));rcases l with⟨z,_⟩|⟨_,c,hc,o,ho,hd⟩
  ·have z':X.env.scope.names.lookup (X.N.getD j "")=some .local:=z;rw[h1.2]at z';cases z'
  ·refine⟨⟨X.N.getD j "",c,o,v⟩::cp,by simp[hcp.len],λi k e h2 h3=>?_⟩;cases i with
   | zero=>
    cases h2;cases h3;exact⟨eN,hc,ev,ho,u,hd,r⟩
   | succ i=>
    simp at h2 h3;exact hcp.at_ i k e h2 h3
def CapAt.mem{js:List Nat}{cp:List Cap}{h:Heap}(C:CapAt X σ h js cp){e:Cap}(he:e∈cp):X.env.cells.lookup e.n=some e.c/\h.get? e.c=some e.o/\∃u,e.o.data=.cell (some u)/\RelV e.v u:=by
 obtain⟨i,hi⟩:=Gx he;have hl:i<js.length:=by rw[←C.len];exact(FQ.mp hi).1
 obtain⟨_,h2,_,h4,h5⟩:=C.at_ i _ e (FI hl) hi;exact⟨h2,h4,h5⟩
def Eh{k:Nat}{f:Addr}{fd:FuncData}{ps:List Str}{sp:Sp}{Q:VK}{us:List Value}{vs:List V}{js:List Nat}{cp:List Cap}(F:FnOk X.prog X.w X.K X.mg X.base cC k f fd ps sp)(hr:Room k X.A)(hb:Binds X.K fd ps [])
  (I:Inv X pins σ H s) (C:CapAt X σ s.heap js cp) (hfn:∀e∈cp,X.fn e.n=true) (r:Vals vs us)
  (h:sp vs (bJ (cellsOf cp) H) (λv H'=>(∀b o,(cellsOf cp).lookup b=some o->H' b=some (cV b o))/\Q v (aV (cellsOf cp) H')) E0):wpAny (model X.prog X.w) X.A (call (.ref f) us) (EP X pins σ Q) X.xe s:=by
 have hc:∀b o,(cellsOf cp).lookup b=some o->s.heap.get? b=some o:=λb o e=>by obtain⟨x,hx,rfl,rfl⟩:=f9 e;exact(C.mem hx).2.1
 have hn:∀b o,(cellsOf cp).lookup b=some o->H b=none:=λb o e=>by obtain⟨x,hx,rfl,rfl⟩:=f9 e;exact I.freeC _ _ (C.mem hx).1
 have hab:∀b o,(cellsOf cp).lookup b=some o->X.s₀.heap.objs.size<=b:=λb o e=>by obtain⟨x,hx,rfl,rfl⟩:=f9 e;exact I.ok.cab _ _ (hfn x hx) (C.mem hx).1
 have e0:=I.env0;have e1:Env0 X.prog X.w X.K X.mg X.base X.A X.stack s (bJ (cellsOf cp) H):=by
  refine⟨e0.frames,e0.mod,λb o e=>⟨(e0.bs b o e).1,?_⟩,e0.bsz,e0.funs,λb hb'=>?_,sT e0.hok hc hn,e0.bare⟩
  ·cases q:(cellsOf cp).lookup b with
   | none=>rw[cQ q];exact(e0.bs b o e).2
   | some o'=>exact absurd (Gg (FG (I.ok.bs b o e).1) (hab b o' q)) (Nat.lt_irrefl _)
  ·cases q:(cellsOf cp).lookup b with
   | none=>rw[cQ q];exact e0.frf b hb'
   | some o'=>
    exfalso;rcases FX.mp (I.stkSub b hb')with z|z
    ·obtain⟨m,⟨ob,es,ep,ho,hd,_⟩,_⟩:=I.loc;obtain⟨x,hx,rfl,rfl⟩:=f9 q;obtain⟨_,g,u,hu,_⟩:=C.mem hx;rw[←z,g]at ho;cases ho;rw[hu]at hd;cases hd
    ·obtain⟨_,ob,ho,_⟩:=I.ok.funs.mem z;exact absurd (Gg (FG ho) (hab b o' q)) (Nat.lt_irrefl _)
 have hl:us.length=ps.length:=by rw[←r.length];exact F.len _ _ _ _ h
 refine wpAny_call (codeAny_mono (F.run X.A X.stack s (bJ (cellsOf cp) H) ⟨us,[]⟩ us vs _ E0 hr e1 (by have:=hb s us I.kIn (by simpa using hl);rw[List.append_nil]at this;exact this) r h) λr s' hq=>?_);cases r with
 | error e=>exact False.elim hq
 | ok fl=>
  cases fl with
  | ret u=>
   obtain⟨v,H',os,bare,un,hok,rv,hc',q⟩:=hq;exact I.after ⟨v,aV (cellsOf cp) H',os,bare,Fl un hok hc hn hc',vF hok hc',rv,q⟩
  | next=>exact False.elim hq
  | brk=>exact False.elim hq
  | cont=>exact False.elim hq
def iS(sp:Sp)(js:List Nat)(cells:List (Str×Addr))(N:List Str)(ta:TA):TE:=λσ H Q=>ta σ H λvs H1=>(∀j∈js,∃v,σ[j]?=some (some v)) ∧
 ∀cp:List Cap,cp.length=js.length->(∀(i j:Nat) (e:Cap),js[i]?=some j->cp[i]?=some e->N[j]?=some e.n/\cells.lookup e.n=some e.c/\σ[j]?=some (some e.v)/\H1 e.c=none/\∃u,e.o.data=.cell (some u)/\RelV e.v u) →
  sp vs (bJ (cellsOf cp) H1) (λv H'=>(∀b o,(cellsOf cp).lookup b=some o->H' b=some (cV b o))/\Q v (aV (cellsOf cp) H')) E0
def ky{x:Str}{k j:Nat}{ps:List Str}{sp:Sp}{e:Expr}{es:List Expr}{t:TA}{p pos:Pos}(js:List Nat)(C:Cal X.prog X.w X.K X.mg X.base x j ps sp)(hr:Room k X.A)(ha:PA X (e::es) t)(hjk:j<=k:=by decide)(hg:Gl X x:=by rfl)(hdb:(x == ("__debug__":Str))=false:=by decide)
  (hj:kX X.env.scope X.N js=true:=by rfl) (hfn:∀y,X.fn y=true:=by intro _;rfl)
  (he:starEach (e::es) X.env=(false,eval e X.env)::starEach es X.env:=by rfl) (hpl:(backTo pos (starEach es X.env)).any (·.1)=false:=by rfl) :
  PE X (.Call (.Name x p) (e::es) [] pos) (iS sp js X.env.cells X.N t):=by
 obtain⟨f,fd,hm,hk,hb,F⟩:=C.ex;intro pins s σ H Q I h;refine wpAny_Call_Name_kw (f7 I hg hm ?_ hdb);refine PySem.W.callWith_K (h₀:=X.base) I.ok.mod.kin hk (ay (ha pos pins s σ H _ I h) λus s1 ⟨vs,H1,I1,r,hv,q⟩=>⟨I1.kIn,?_⟩) he hpl;obtain⟨cp,hcp⟩:=I1.capAt hj hv;refine Eh F (hr.mono hjk) hb I1 hcp (λe _=>hfn _) r (q cp hcp.len λi j e h1 h2=>?_);obtain⟨a1,a2,a3,_,a5⟩:=hcp.at_ i j e h1 h2;exact⟨a1,a2,a3,I1.freeC _ _ a2,a5⟩
end
def eO(f c:Addr)(q:Str)(params:Arguments)(body:Expr)(scope:Scope)(cl:List (Str×Addr)):HO:=.ext λh=>∃pm ctv,h.get? f=some (PySem.W.kla_obj "<lambda>" q params body scope cl pm c ctv)
def yd{P:Program}{w:World}{H:Hp}{h:Heap}{f c:Addr}{q:Str}{params:Arguments}{body:Expr}{scope:Scope}{cl:List (Str×Addr)}{pm ctv:Value}(r:h.get? f=some (PySem.W.kla_obj "<lambda>" q params body scope cl pm c ctv)):br P w H h f (eO f c q params body scope cl):=
 ⟨⟨pm,ctv,r⟩,⟨_,r⟩,λh1 h2 ⟨a,b,g⟩ k=>⟨a,b,k _ g⟩⟩
def iY(sc:Scope):Bool:=sc.names.all λp=>sc.names.lookup p.1 == some p.2
def pK(sc out:Scope):Bool:=sc.names.all λp=>p.2 != .free || out.names.lookup p.1 == some .cell || out.names.lookup p.1 == some .free
def yp{sc:Scope}(h:iY sc=true){p:Str×NameKind}(hp:p∈sc.names):sc.names.lookup p.1=some p.2:=by simpa using Gj.mp h p hp
def vn{sc out:Scope}(h:pK sc out=true){p:Str×NameKind}(hp:p∈sc.names)(hf:p.2=.free):out.names.lookup p.1=some .cell\/out.names.lookup p.1=some .free:=by have:=Gj.mp h p hp;simp[hf]at this;exact this
structure ClOk(sc:Scope)(cells cl:List (Str×Addr)):Prop where
 one:iY sc=true
 fr:∀x c,cl.lookup x=some c->sc.names.lookup x=some .free/\cells.lookup x=some c
 has:∀x,sc.names.lookup x=some .free->∃c,cl.lookup x=some c
 inj:∀x y c,cl.lookup x=some c->cl.lookup y=some c->x=y
def BK{X:Cx}(ok:X.Ok){sc:Scope}(hsc:iY sc=true)(ho:pK sc X.env.scope=true):ClOk sc X.env.cells (df sc.names X.env.cells):=by
 have fr:∀x c,(df sc.names X.env.cells).lookup x=some c->sc.names.lookup x=some .free/\X.env.cells.lookup x=some c:=λx c h=>by
  rcases lg X.env.cells sc.names [] x c h with⟨h1,h2⟩|h1
  ·obtain⟨d,hd⟩:=ok.has x (vn ho h1 rfl);refine⟨yp hsc h1,?_⟩;rw[hd]at h2 ⊢;rw[h2];rfl
  ·simp at h1
 exact⟨hsc,fr,λx h=>vI (gI h),λx y c h1 h2=>ok.inj x y c (fr x c h1).2 (fr y c h2).2⟩
section
variable {X:Cx} {pins:List (Addr×Obj)} {σ:St} {H:Hp} {s:Shared}
def Ao{cl:List (Str×Addr)}{P c f:Addr}{ps more:Array Value}{q:Str}{params:Arguments}{body:Expr}{scope:Scope}{pm ctv:Value}{h':Heap}{tk:Nat}(I:Inv X pins σ H s)(hP:H P=some (.tbl ps))(b:Heap.ExtBut P s.heap h')(hc:s.heap.objs.size<=c)(hcf:c<f)(gP:h'.get? P=some { cls:=.none,data:=.fields (ps++more) })
  (gc:h'.CodeRec (.ref c) q) (gf:h'.get? f=some (PySem.W.kla_obj "<lambda>" q params body scope cl pm c ctv)) :
  Inv X pins σ (upd (upd (upd H P (.tbl (ps++more))) c (fP c q)) f (eO f c q params body scope cl)) { s with heap:=h',toks:=tk }:=by
 have hf:@LE.le Nat _ s.heap.objs.size f:=Gh hc (Nat.le_of_lt hcf);have nc:H c=none:=I.hok.fresh hc;have nf:H f=none:=I.hok.fresh hf;have cf:f≠c:=Nat.ne_of_gt hcf;have Pc:c≠P:=λz=>by rw[z,hP]at nc;cases nc
 have Pf:f≠P:=λz=>by rw[z,hP]at nf;cases nf
 have old:∀b o,H b=some o->b≠P->upd (upd (upd H P (.tbl (ps++more))) c (fP c q)) f (eO f c q params body scope cl) b=some o:=λb o e n=>by rw[aC (cw e nf),aC (cw e nc),aC n];exact e
 have nP:∀b,H b=none->b≠P:=λb e z=>by rw[z,hP]at e;cases e
 refine I.un ⟨λb' o e n _ _=>b b' o (nP b' n) e,λb' o e n _ _=>⟨o.slots,b b' o (nP b' n) e⟩,λb' o e n _=>?_,λb' o e _=>?_,λb' xs e=>old b' _ e (λz=>by rw[z,hP]at e;cases e),λb' o u e=>old b' _ e (λz=>by rw[z,hP]at e;cases e),λb' qs e=>?_⟩ λb' u e=>?_
 ·have lt:@LT.lt Nat _ b' s.heap.objs.size:=FG e;rw[aC (F4 (Gg lt hf)),aC (F4 (Gg lt hc)),aC (nP b' n)];exact n
 ·by_cases z:b'=P
  ·rw[z];exact⟨_,gP⟩
  ·exact⟨o,b b' o z e⟩
 ·by_cases z:b'=P
  ·subst z;rw[hP]at e;cases e;exact⟨more,by rw[aC (Ne.symm Pf),aC (Ne.symm Pc),aN]⟩
  ·exact⟨#[],by rw[old b' _ e z];simp⟩
 ·by_cases z:b'=f
  ·subst z;rw[aN]at e;cases e;exact yd gf
  ·rw[aC z]at e;by_cases z2:b'=c
   ·subst z2;rw[aN]at e;cases e;exact Cp gc
   ·rw[aC z2]at e;by_cases z3:b'=P
    ·subst z3;rw[aN]at e;cases e;exact gP
    ·rw[aC z3]at e;refine(I.hok b' u e).stay (λd v hd g=>b d v ?_ g) (λd hd=>old d _ hd (λy=>by rw[y,hP]at hd;cases hd)) λd xs hd=>old d _ hd (λy=>by rw[y,hP]at hd;cases hd);rcases hd with rfl|hd
     ·exact z3
     ·exact λy=>by rw[y,hP]at hd;cases hd
end
def mF(P:Addr)(pos:Pos)(q:Str)(params:Arguments)(body:Expr)(scope:Scope)(cells:List (Str×Addr))(H:Hp)(Q:VK):Prop:=∀cl,ClOk scope cells cl →
 (H P=some (.tbl #[])/\∀f c,H c=none->H f=none->c≠P->f≠P->f≠c->Q (.ref f) (upd (upd (upd H P (.tbl #[rawInt pos.line,rawInt pos.col,.ref c])) c (fP c q)) f (eO f c q params body scope cl))) ∨
 ∃c,H P=some (.tbl #[rawInt pos.line,rawInt pos.col,.ref c])/\H c=some (fP c q)/\∀f,H f=none->Q (.ref f) (upd H f (eO f c q params body scope cl))
def tP(P:Addr)(pos:Pos)(q:Str)(params:Arguments)(body:Expr)(scope:Scope)(cells:List (Str×Addr)):TE:=λ_ H Q=>mF P pos q params body scope cells H Q
def kx{X:Cx}{params:Arguments}{body:Expr}{scope:Scope}{pos:Pos}{c P:Addr}(hcode:X.env.code=.ref c)(hgl:X.env.globals=mainGlobals)(C:PySem.W.CodeHd X.base c P)(hB:X.base.BuiltinsAt X.mg P)(hgP:mainGlobals≠P)(hsc:iY scope=true)(hout:pK scope X.env.scope=true)
  (hd0:params.defaults=[]) (hk0:params.kw_defaults=[]):PE X (.Lambda params body scope pos) (tP P pos (X.env.qual ++ "<lambda>") params body scope X.env.cells):=by
 intro pins s σ H Q I h;rw[arm_eval_Lambda,PySem.defaultsOf_eq,hk0,hd0];refine FA (FC (FA (wpAny_holding (FC ?_))));have hcl:closureFor scope X.env=pure (df scope.names X.env.cells):=qy λp hp hf=>I.ok.has p.1 (vn hout hp hf);have h:=h _ (BK I.ok hsc hout);have C':PySem.W.CodeHd s.heap c P:=C.keeps λb o e=>(I.bs b o e).1;have hg:s.heap.Ns mainGlobals X.mg:=by obtain⟨o,es,ep,e,r⟩:=I.ok.mod.glob;exact⟨o,es,ep,(I.bs _ _ e).1,r⟩
 have hb:s.heap.BuiltinsAt X.mg P:=by obtain⟨bm,o,a1,a2,a3,a4,a5,a6⟩:=hB;exact⟨bm,o,a1,a2,a3,a4,(I.bs _ _ a5).1,a6⟩
 rcases h with⟨hP,q⟩|⟨c',hP,hc',q⟩
 ·have gP:s.heap.get? P=some (PySem.W.tabObj #[]):=I.hok P _ hP;refine PySem.W.kla_makeFunction hcl hgl hg hcode C' gP trivial rfl hgP hb λc' ctv h' tk hx hge hlt hrec htb=>?_;have nc:H c'=none:=I.hok.fresh hge;have hf:@LE.le Nat _ s.heap.objs.size h'.objs.size:=Gh hge (Nat.le_of_lt hlt);have nf:H h'.objs.size=none:=I.hok.fresh hf;have lP:@LT.lt Nat _ P s.heap.objs.size:=FG gP;have J:=Ao (cl:=df scope.names X.env.cells) (tk:=tk) (f:=h'.objs.size) (h':=h'.push (PySem.W.kla_obj "<lambda>" (X.env.qual ++ "<lambda>") params body scope (df scope.names X.env.cells) ((X.mg "__name__").getD .none) c' ctv)) (more:=#[rawInt pos.line,rawInt pos.col,.ref c']) I hP (λb o n e=>FE _ (hx b o n e)) hge hlt (FE _ htb) (hrec.push _) (FF _ rfl);rw[Array.empty_append]at J;exact⟨.ref h'.objs.size,_,J,rfl,q _ c' nc nf (Nat.ne_of_gt (Gg lP hge)) (Nat.ne_of_gt (Gg lP hf)) (Nat.ne_of_gt hlt)⟩
 ·have gP:s.heap.get? P=some (PySem.W.tabObj #[rawInt pos.line,rawInt pos.col,.ref c']):=I.hok P _ hP;refine PySem.W.kla_makeFunctionHit (cv:=.ref c') hcl hgl hg hcode C' gP trivial (by simp[codeAmong,rawInt]) hb λctv h' tk hx hge=>?_;exact⟨.ref h'.objs.size,_,I.laid (t':=tk) (o:=eO h'.objs.size c' (X.env.qual ++ "<lambda>") params body scope (df scope.names X.env.cells)) (λb o e=>FE _ (hx b o e)) hge (yd (FF _ rfl)),rfl,q _ (I.hok.fresh hge)⟩
def kF{cells:List (Str×Addr)}{K:FD}{x q:Str}{params:Arguments}{body:Expr}{scope:Scope}{H:Hp}{Q:VK}{c T:Addr}{pos:Pos}(ht:dA K x q pos.line pos.col H)(e:PySem.W.tabIn K x=some (c,T))
  (h:∀f c' cl H',ClOk scope cells cl->Et H H'->dA K x q pos.line pos.col H'->(∀y q2 l2 k2,(∀c2 T2,PySem.W.tabIn K y=some (c2,T2)->T2≠T)->dA K y q2 l2 k2 H->dA K y q2 l2 k2 H')->H' f=some (eO f c' q params body scope cl)->H' c'=some (fP c' q)->Q (.ref f) H'):mF T pos q params body scope cells H Q:=by
 intro cl hcl;rcases ht c T e with hT|⟨c',hT,hc'⟩
 ·refine .inl ⟨hT,λf c' nc nf cT fT fc=>?_⟩;have old:∀b o,H b=some o->b≠T->upd (upd (upd H T (.tbl #[rawInt pos.line,rawInt pos.col,.ref c'])) c' (fP c' q)) f (eO f c' q params body scope cl) b=some o:=λb o hb n=>by rw[aC (cw hb nf),aC (cw hb nc),aC n];exact hb
  refine h f c' cl _ hcl (λb o hb n=>old b o hb λz=>by rw[z,hT]at hb;cases hb;exact n _ rfl) (λc2 T2 e2=>.inr ⟨c',?_,?_⟩) (λy q2 l2 k2 hn hy c2 T2 e2=>?_) aN ?_
  ·rw[e]at e2;cases e2;rw[aC (Ne.symm fT),aC (Ne.symm cT),aN]
  ·rw[aC (Ne.symm fc),aN]
  ·rcases hy c2 T2 e2 with g|⟨c3,g1,g2⟩
   ·exact .inl (old _ _ g (hn c2 T2 e2))
   ·exact .inr ⟨c3,old _ _ g1 (hn c2 T2 e2),old _ _ g2 λz=>by rw[z,hT]at g2;cases g2⟩
  ·rw[aC (Ne.symm fc),aN]
 ·refine .inr ⟨c',hT,hc',λf nf=>?_⟩;have ex:Ext H (upd H f (eO f c' q params body scope cl)):=bS nf;exact h f c' cl _ hcl ex.et (dA.ext ex ht) (λy q2 l2 k2 _ hy=>hy.ext ex) aN (ex _ _ hc')
def lj{P:Addr}{pos:Pos}{q:Str}{params:Arguments}{body:Expr}{scope:Scope}{cells:List (Str×Addr)}{σ:St}{H:Hp}{Q:VK}(h:mF P pos q params body scope cells H Q):tP P pos q params body scope cells σ H Q:=h
def jm{x:Str}{c:Addr}:∀(names:List (Str×NameKind)) (n:Nat) (a acc:List (Str×Addr)),(cellsFrom n names (a++acc)).lookup x=some c->acc.lookup x=some c\/(cellsFrom n names a).lookup x=some c
 | [],_,a,acc,h=>by
  unfold cellsFrom at h ⊢;rw[List.lookup_append]at h;cases q:a.lookup x with
  | none=>rw[q]at h;exact .inl h
  | some d=>rw[q]at h;exact .inr h
 | (y,k)::r,n,a,acc,h=>by
  unfold cellsFrom at h ⊢;by_cases hk:(k == NameKind.cell)=true
  ·rw[GH hk]at h ⊢;exact jm r (n+1) ((y,n)::a) acc h
  ·rw[GG hk]at h ⊢;exact jm r n a acc h
structure InL(s₀:Shared)(L:Addr)(m:Str->Option Value)(own:List (Str×Addr))(cm:Str->Option Value)(s:Shared):Prop where
 same:∃h' tk,s={ s₀ with heap:=h',toks:=tk }
 ns:s.heap.Ns L m
 keep:∀b o,s₀.heap.get? b=some o->s.heap.get? b=some o
 fresh:s₀.heap.objs.size<=L
 cell:∀n c,own.lookup n=some c->s.heap.IsCell c (cm n)
 apart:own.Pairwise λx y=>x.2≠y.2
 above:∀n c,(n,c)∈own->L<c
section
variable {M:Model} {A:Around} {E:Value->Shared->Prop} {s₀ s:Shared} {m cm:Str->Option Value} {env:Env} {own:List (Str×Addr)}
def InL.st{n:Str}{v:Value}{Q:Unit->Shared->Prop}(x:InL s₀ env.locals m own cm s)(hk:env.scope.kind=.function)(hl:env.kindOf n=some .local)
  (h:∀s',InL s₀ env.locals (λy=>if y=n then some v else m y) own cm s'->Q () s'):wpAny M A (storeName env n v) Q E s:=by
 refine wpAny_storeName_local hl x.ns (λh' hn' hs'=>h _ ⟨?_,hn',λb o e=>?_,x.fresh,λk c hc=>?_,x.apart,x.above⟩) (by rw[hk];rfl)
 ·obtain⟨h₁,tk,rfl⟩:=x.same;exact⟨h',_,rfl⟩
 ·exact hs'.extBut b o (F4 (Gg (FG e) x.fresh)) (x.keep b o e)
 ·exact(x.cell k c hc).sameBut hs' (Nat.ne_of_gt (x.above k c (PySem.mem_of_lookup hc)))
def InL.stC{n:Str}{c:Addr}{v:Value}{Q:Unit->Shared->Prop}(x:InL s₀ env.locals m own cm s)(hk:env.scope.kind=.function)(hl:env.kindOf n=some .cell)
  (hc:env.cells.lookup n=some c) (ho:own.lookup n=some c)
  (h:∀s',InL s₀ env.locals m own (λy=>if y=n then some v else cm y) s'->Q () s'):wpAny M A (storeName env n v) Q E s:=by
 have hLc:=x.above n c (PySem.mem_of_lookup ho);refine wpAny_storeName_cell hk hl hc (x.cell n c ho) λh' hc' hs'=>h _ ⟨?_,x.ns.sameBut hs' (F4 hLc),λb o e=>?_,x.fresh,λk c' hk'=>?_,x.apart,x.above⟩
 ·obtain⟨h₁,tk,rfl⟩:=x.same;exact⟨h',_,rfl⟩
 ·exact hs'.extBut b o (F4 (Nat.lt_trans (Gg (FG e) x.fresh) hLc)) (x.keep b o e)
 ·by_cases hkn:k=n
  ·subst hkn;rw[ho]at hk';cases hk';simpa using hc'
  ·rw[GG hkn];exact(x.cell k c' hk').sameBut hs' λe=>hkn (name_of_addr x.apart (PySem.mem_of_lookup hk') (e ▸ PySem.mem_of_lookup ho))
def InL.binds(f:Str×Value->PUnit->Sem (ForInStep PUnit))(hf:∀n v u,f (n,v) u=(do storeName env n v;pure (.yield ⟨⟩)))(hk:env.scope.kind=.function):
  ∀(binds:List (Str×Value)) (m cm:Str->Option Value) (s:Shared) (Q:PUnit->Shared->Prop),InL s₀ env.locals m own cm s →
   (∀x∈binds,env.kindOf x.1=some .local\/(env.kindOf x.1=some .cell/\∃c,env.cells.lookup x.1=some c/\own.lookup x.1=some c)) →
   (∀s',InL s₀ env.locals (bindL env.kindOf binds m) own (bindC env.kindOf binds cm) s'->Q ⟨⟩ s')->wpAny M A (forIn binds ⟨⟩ f) Q E s
 | [],m,cm,s,Q,x,_,h=>by rw[List.forIn_nil];exact FC (h s x)
 | (n,v)::r,m,cm,s,Q,x,hkind,h=>by
  rw[List.forIn_cons,hf];have hr:∀y∈r,env.kindOf y.1=some .local\/(env.kindOf y.1=some .cell/\∃c,env.cells.lookup y.1=some c/\own.lookup y.1=some c):=λy hy=>hkind y (FK _ hy);rcases hkind (n,v) FO with hl|⟨hl,c,hc,ho⟩
  ·refine FA (FA (InL.st x hk hl λs' x'=>FC (InL.binds f hf hk r _ _ s' Q x' hr λs'' x''=>h s'' ?_)));unfold bindL bindC;rw[GH hl,GH hl];exact x''
  ·have hnl:¬env.kindOf n=some .local:=by rw[hl];decide
   refine FA (FA (InL.stC x hk hl hc ho λs' x'=>FC (InL.binds f hf hk r _ _ s' Q x' hr λs'' x''=>h s'' ?_)));unfold bindL bindC;rw[GG hnl,GG hnl];exact x''
end
def eS(q:Str)(scope:Scope)(L f:Addr)(cd:Value)(cl:List (Str×Addr)):Env:=
 { scope:=scope,locals:=L,globals:=mainGlobals,cells:=cellsFrom (L+1) scope.names cl,qual:=q ++ ".<locals>.",func:=some f,code:=cd,frame:=some L,builtins:=builtinsNs }
section
variable {M:Model} {A:Around} {E:Value->Shared->Prop} {s:Shared}
def Cu {scope : Scope} {cl : List (Str × Addr)} {binds : List (Str × Value)} {q : Str} {f : Addr} {cd : Value} {Q : Env → Shared → Prop} (hk : scope.kind = .function) (hsc : iY scope = true) (hcl : ∀ x c, cl.lookup x = some c → scope.names.lookup x = some .free)
    (hkind : ∀ x ∈ binds, scope.names.lookup x.1 = some .local ∨ scope.names.lookup x.1 = some .cell)
    (hQ : ∀ s', InL s s.heap.objs.size (bindL (eS q scope s.heap.objs.size f cd cl).kindOf binds λ_ => none) (cellsFrom (s.heap.objs.size + 1) scope.names []) (bindC (eS q scope s.heap.objs.size f cd cl).kindOf binds λ_ => none) s' → Q (eS q scope s.heap.objs.size f cd cl) s') :
    wpAny M A (newFunctionEnv scope mainGlobals cl binds (q ++ ".<locals>.") (some f) cd none builtinsNs) Q E s := by
  simp only [newFunctionEnv, Option.isSome_none, Gv, if_false];refine FA (wpAny_alloc ?_);refine FA (wpAny_layCells _ (λname kind cells => by cases hkc : kind == NameKind.cell <;> simp [hkc]) _ _ _ _ ?_);have ok := cellsFrom_ok scope.names (s.heap.push { cls := .type "frame", data := .dict #[] }) (s.heap.objs.size + 1) [] ⟨λ_ _ hm => (nomatch hm), List.Pairwise.nil⟩ (by rw [Heap.size_push]; exact F5 _);rw [Heap.size_push] at ok;rw [show ({ s with heap := s.heap.push { cls := .type "frame", data := .dict #[] } } : Shared).heap.objs.size = s.heap.objs.size + 1 from Heap.size_push ..];refine FA (InL.binds (s₀ := s) (env := eS q scope s.heap.objs.size f cd cl) (own := cellsFrom (s.heap.objs.size + 1) scope.names [])
    _ (λ_ _ _ => rfl) hk binds (λ_ => none) (λ_ => none) _ _
    ⟨⟨_, _, rfl⟩, (Heap.Ns.new s.heap (.type "frame")).keeps (pushCells_keeps _ _), λb o e => pushCells_keeps _ _ b o (FE _ e), F5 _,
      λn c hc => (ok.empty n c (PySem.mem_of_lookup hc)).1, ok.apart, λn c hm => (ok.empty n c hm).2⟩
    (λx hx => ?_) λs' x => FC (hQ s' x))
  rcases hkind x hx with h|h
  · exact .inl h
  · obtain ⟨c, hc⟩ := Option.isSome_iff_exists.mp (PySem.W.cellsFrom_some scope.names (s.heap.objs.size + 1) cl (.inl h))
    rcases jm scope.names (s.heap.objs.size + 1) [] cl hc with h2|h2
    · rw [hcl _ _ h2] at h; cases h
    · exact .inr ⟨h, c, hc, h2⟩
end
def ja(P:Program)(w:World)(K:FD)(mg:Str->Option Value)(base:Heap)(N:List Str)(q:Str)(scope:Scope)(f:Addr)(cd:Value)(cl:List (Str×Addr))(A:Around)(outer:List Env)(s:Shared)(H:Hp):Cx where
 prog:=P
 w:=w
 K:=K
 mg:=mg
 base:=base
 A:=A.deeper (eS q scope s.heap.objs.size f cd cl)
 N:=N
 s₀:=s
 H₀:=H
 env:=eS q scope s.heap.objs.size f cd cl
 outer:=outer
 stack:=eS q scope s.heap.objs.size f cd cl::outer
 ex:=[]
 calm:=true
 fn:=λx=>scope.names.lookup x == some .cell
 pn:=[]
 xe:=λ_ _=>False
structure Caps(H:Hp)(cl:List (Str×Addr))(cp:List Cap):Prop where
 at_:∀e∈cp,cl.lookup e.n=some e.c/\H e.c=some (cV e.c e.o)/\∃u,e.o.data=.cell (some u)/\RelV e.v u
 all:∀x c,cl.lookup x=some c->∃e∈cp,e.n=x/\e.c=c
def Caps.ext{H H':Hp}(e:Ext H H'){cl:List (Str×Addr)}{cp:List Cap}(h:Caps H cl cp):Caps H' cl cp:=⟨λx hx=>⟨(h.at_ x hx).1,e _ _ (h.at_ x hx).2.1,(h.at_ x hx).2.2⟩,h.all⟩
def Caps.look{H:Hp}{cl:List (Str×Addr)}{cp:List Cap}(h:Caps H cl cp):∀b o,(cellsOf cp).lookup b=some o->H b=some (cV b o):=λb o e=>by obtain⟨x,hx,rfl,rfl⟩:=f9 e;exact(h.at_ x hx).2.1
structure LamSc(ps:List Str)(sc:Scope):Prop where
 kind:sc.kind=.function
 co:sc.isCoroutine=false
 gen:sc.isGenerator=false
 nd:ps.Nodup
 par:∀x∈ps,sc.names.lookup x=some .local\/sc.names.lookup x=some .cell
def AX{P:Program}{w:World}{K:FD}{mg:Str->Option Value}{base:Heap}{ps:List Str}{q:Str}{scope:Scope}{f:Addr}{cd:Value}{cl cells:List (Str×Addr)}{cp:List Cap}{A:Around}{outer:List Env}{s s1:Shared}{H:Hp}{us:List Value}{vs:List V}
  (S:LamSc ps scope) (C:ClOk scope cells cl) (hcp:Caps H cl cp) (hd:A.handled=none) (e0:Env0 P w K mg base A outer s H) (hl:vs.length=ps.length) (r:Vals vs us)
  (x:InL s s.heap.objs.size (bindL (eS q scope s.heap.objs.size f cd cl).kindOf (ps.zip us) λ_=>none) (cellsFrom (s.heap.objs.size+1) scope.names []) (bindC (eS q scope s.heap.objs.size f cd cl).kindOf (ps.zip us) λ_=>none) s1) :
  Inv (ja P w K mg base (ps++cp.map (·.n)) q scope f cd cl A outer s (aV (cellsOf cp) H)) [] (vs.map some++cp.map λe=>some e.v) (aV (cellsOf cp) H) s1:=by
 obtain⟨h1,tk,rfl⟩:=x.same;have hk:=x.keep;have noA:∀b:Addr,b∉(ja P w K mg base (ps++cp.map (·.n)) q scope f cd cl A outer s (aV (cellsOf cp) H)).ex:=λb z=>absurd (show b∈([]:List Addr)from z) (by simp);have nn:∀b,H b=none->aV (cellsOf cp) H b=none:=λb hb=>by
  cases z:(cellsOf cp).lookup b with
  | none=>rw[cq z];exact hb
  | some o=>exact gX z
 have obj:∀e∈cp,s.heap.get? e.c=some e.o:=λe he=>(e0.hok _ _ (hcp.at_ e he).2.1).1;have clt:∀y c,cl.lookup y=some c->@LT.lt Nat _ c s.heap.objs.size:=λy c h=>by obtain⟨e,he,_,rfl⟩:=hcp.all y c h;exact FG (obj e he)
 have cinC:∀y c,cl.lookup y=some c->aV (cellsOf cp) H c=none:=λy c h=>by obtain⟨e,he,_,rfl⟩:=hcp.all y c h;obtain⟨o,ho⟩:=zM he;exact gX ho
 have hfr:∀y,scope.names.lookup y=some .free->∃c,cl.lookup y=some c/\(cellsFrom (s.heap.objs.size+1) scope.names cl).lookup y=some c:=λy hy=>by
  obtain⟨c,hc⟩:=C.has y hy;obtain⟨c',hc'⟩:=Option.isSome_iff_exists.mp (PySem.W.cellsFrom_some scope.names (s.heap.objs.size+1) cl (x:=y) (.inr (by rw[hc];rfl)));rcases gJ _ _ _ hc' with h|⟨_,h⟩
  ·rw[hc]at h;cases h;exact⟨c,hc,hc'⟩
  ·have:=yp C.one h;rw[hy]at this;cases this
 refine⟨⟨e0.mod,S.kind,rfl,rfl,F5 _,λy z c h1 h2=>?_,λy hy=>?_,λy c h hc=>?_,λ_=>hd,Around.frames_deeper e0.frames,.inr ⟨rfl,rfl⟩,λb z=>absurd z (noA b),λb o e=>⟨(e0.bs b o e).1,nn b (e0.bs b o e).2⟩,e0.bsz,λb _ _=>noA b,λb z=>absurd z (noA b),e0.funs,λb hb=>nn b (e0.frf b hb)⟩,
  rfl,e0.bare,Un.kept hk,⟨_,x.ns,λi y v h1 h2 h3=>?_⟩,λy c h=>?_,nn _ (e0.hok.fresh (F5 _)),λy c h=>?_,λp hp=>absurd (show p∈([]:List (Addr×Obj))from hp) (by simp),(vF e0.hok hcp.look).kept hk,?_⟩
 ·exact kL scope.names _ _ (λx c e=>Nat.lt_succ_of_lt (clt x c e)) C.inj h1 h2
 ·have hy:scope.names.lookup y=some .cell\/scope.names.lookup y=some .free:=hy;rcases hy with hy|hy
  ·exact Option.isSome_iff_exists.mp (PySem.W.cellsFrom_some scope.names _ _ (.inl hy))
  ·obtain⟨c,_,h⟩:=hfr y hy;exact⟨c,h⟩
 ·have hy:scope.names.lookup y=some .cell:=by simpa[ja]using h
  have hc':(cellsFrom (s.heap.objs.size+1) scope.names cl).lookup y=some c:=hc;rcases gJ _ _ _ hc' with h2|⟨h2,_⟩
  ·rw[(C.fr y c h2).1]at hy;cases hy
  ·exact Nat.le_of_succ_le h2
 ·by_cases hi:i<vs.length
  ·have ha:vs[i]?=some v:=by
    rw[Ga (by simpa using hi),FJ]at h2;cases e:vs[i]? with
    | none=>rw[e]at h2;cases h2
    | some a=>rw[e]at h2;cases h2;rfl
   obtain⟨u,hu,rv⟩:=r.get ha;have hp:ps[i]?=some y:=by have h1':(ps++cp.map (·.n))[i]?=some y:=h1;rw[Ga (by omega)]at h1';exact h1'
   refine⟨u,rv,?_⟩;rcases S.par y (FR hp)with k|k
   ·exact .inl ⟨k,qi S.nd hp hu k⟩
   ·obtain⟨c,e⟩:=Option.isSome_iff_exists.mp (PySem.W.cellsFrom_some scope.names (s.heap.objs.size+1) cl (.inl k));refine .inr ⟨.inl k,c,e,?_⟩;rcases jm scope.names (s.heap.objs.size+1) [] cl e with h4|h4
    ·rw[(C.fr y c h4).1]at k;cases k
    ·have qq:=x.cell y c h4;rw[mr S.nd hp hu (by show scope.names.lookup y≠_;rw[k];decide)]at qq;exact qq
  ·have h1':(ps++cp.map (·.n))[i]?=some y:=h1;rw[F9 (by omega),FJ]at h1';rw[F9 (by simpa using Nat.le_of_not_lt hi),FH,FJ]at h2;rw[hl]at h2;cases he:cp[i-ps.length]? with
   | none=>rw[he]at h2;cases h2
   | some e=>
    rw[he]at h1' h2;cases h1';cases h2;have hm:=FR he;obtain⟨a1,a2,u,hu,rv⟩:=hcp.at_ e hm;have hf:=(C.fr _ _ a1).1;obtain⟨c,b1,b2⟩:=hfr e.n hf;rw[a1]at b1;cases b1;exact⟨u,rv,.inr ⟨.inr hf,e.c,b2,e.o,hk _ _ (obj e hm),hu⟩⟩
 ·have h':(cellsFrom (s.heap.objs.size+1) scope.names cl).lookup y=some c:=h;rcases jm scope.names (s.heap.objs.size+1) [] cl h' with h2|h2
  ·obtain⟨e,he,_,rfl⟩:=hcp.all y c h2;obtain⟨_,_,u,hu,_⟩:=hcp.at_ e he;exact⟨some u,e.o,hk _ _ (obj e he),hu⟩
  ·exact⟨_,x.cell y c h2⟩
 ·have h':(cellsFrom (s.heap.objs.size+1) scope.names cl).lookup y=some c:=h;rcases gJ _ _ _ h' with h2|⟨h2,_⟩
  ·exact cinC y c h2
  ·exact nn c (e0.hok.fresh (Nat.le_of_succ_le h2))
 ·show(vs.map some++cp.map λe=>some e.v).length=(ps++cp.map (·.n)).length;simp[hl]
def gE(f c:Addr)(q:Str)(params:Arguments)(body:Expr)(scope:Scope)(cl:List (Str×Addr))(cp:List Cap)(H:Hp):Prop:=H f=some (eO f c q params body scope cl)/\H c=some (fP c q)/\Caps H cl cp
def gE.ext{H H':Hp}(e:Ext H H'){f c:Addr}{q:Str}{params:Arguments}{body:Expr}{scope:Scope}{cl:List (Str×Addr)}{cp:List Cap}(h:gE f c q params body scope cl cp H):gE f c q params body scope cl cp H':=⟨e _ _ h.1,e _ _ h.2.1,h.2.2.ext e⟩
def BZ{P:Program}{w:World}{K:FD}{mg:Str->Option Value}{base:Heap}{k:Nat}{f c:Addr}{q:Str}{params:Arguments}{body:Expr}{scope:Scope}{cl cells:List (Str×Addr)}{cp:List Cap}{ps:List Str}{R:List V->Hp->VK->Prop}(I:Hp->Prop)
  (S:LamSc ps scope) (C:ClOk scope cells cl) (bind:∀(pm cv ctv:Value) (us:List Value),us.length=ps.length->bindArgs (PySem.W.kla_fn "<lambda>" q params body scope cl pm cv ctv) ⟨us,[]⟩=pure (ps.zip us))
  (hR:∀vs H Q,R vs H Q->vs.length=ps.length)
  (hbody:∀(A:Around) (outer:List Env) (s:Shared) (H:Hp) (vs:List V) (Q:VK),Room k (A.deeper (eS q scope s.heap.objs.size f (.ref c) cl))->gE f c q params body scope cl cp H->I H->R vs H Q →
   ∃te,PE (ja P w K mg base (ps++cp.map (·.n)) q scope f (.ref c) cl A outer s (aV (cellsOf cp) H)) body te/\te (vs.map some++cp.map λe=>some e.v) (aV (cellsOf cp) H) λv H'=>(∀b o,(cellsOf cp).lookup b=some o->H' b=none)->Q v (bJ (cellsOf cp) H')) :
  FunR P w K mg base (k+1) f (λH=>gE f c q params body scope cl cp H/\I H) R:=by
 refine⟨λH h hok hp=>?_,λA outer s H us vs Q hr e0 hp r hq=>?_⟩
 ·obtain⟨⟨pm,ctv,gf⟩,_⟩:=hok f _ hp.1.1;exact⟨_,_,_,_,gf⟩
 ·obtain⟨⟨hf,hc,hcp⟩,hI⟩:=id hp;obtain⟨⟨pm,ctv,gf⟩,_⟩:=e0.hok f _ hf;obtain⟨gc,_⟩:=e0.hok c _ hc;have lim:s.heap.NoLimit:=e0.mod.nolimit.keeps λb o e=>(e0.bs b o e).1;have hl:=hR vs H Q hq;refine PySem.W.kla_callFunE hr.depth gf rfl S.co S.gen rfl gc ?_;rw[bind _ _ _ us (by rw[←r.length];exact hl)];refine FC ?_;refine Cu (q:=q) (f:=f) (cd:=.ref c) S.kind C.one (λx c h=>(C.fr x c h).1) (λz hz=>?_) λs1 z=>?_
  ·exact S.par z.1 (List.of_mem_zip hz).1
  refine⟨lim.keeps z.keep,PySem.W.kla_codeExpr ?_⟩;have J:=AX S C hcp hr.hd e0 hl r z;obtain⟨te,ht,hq'⟩:=hbody A outer s H vs Q (hr.deeper _) hp.1 hI hq;refine wpAny_mono (ht [] s1 _ _ _ J hq') (λu s' ⟨v,H',J',rv,q'⟩=>?_) λe s' hs=>hs.elim;have obj:∀b o,(cellsOf cp).lookup b=some o->s.heap.get? b=some o:=λb o e=>(e0.hok _ _ (hcp.look b o e)).1;have nfs:∀b o,(cellsOf cp).lookup b=some o->b∉aX outer:=λb o e hb=>by have:=e0.frf b hb;rw[hcp.look b o e]at this;cases this
  have un:Un (aX outer) [] (aV (cellsOf cp) H) H' s.heap s'.heap:=J'.base;exact⟨v,bJ (cellsOf cp) H',J'.os,J'.bare,E7 un hcp.look,sT J'.hok (λb o e=>un.keep b o (obj b o e) (gX e) (nfs b o e) (by simp)) (λb o e=>un.free b o (obj b o e) (gX e) (by simp)),rv,q' λb o e=>un.free b o (obj b o e) (gX e) (by simp)⟩
section
variable {X:Cx}
def y8:V->List V->Hp->VK->Prop:=λx vs H Q=>∃(n:Nat) (p:Addr) (xs:List V) (a:V) (d:PyData) (ds:List PyData) (j:Nat),x=.ref p/\vs=[a]/\aW H n a d/\H p=some (.lst xs)/\Paired (aW H n) xs ds/\n<=50/\(∃e,ds[j]?=some e/\PyData.eqv e d=true)/\(∀m e,m<j->ds[m]?=some e->PyData.eqv e d=false)/\j<2 ^ 32/\Q (.int (j:Int)) H
def EF{k:Nat}{A0:Around}(hr:Room k A0)(hA:X.A=A0:=by rfl):kA X "list.index" y8:=by
 subst hA;intro pins s σ H x xs v us Q I rx rv h;obtain⟨n,p,ys,a,d,ds,j,rfl,rfl,h1,h2,h3,hn,⟨e,hj,he⟩,hno,hjs,q⟩:=h;cases rx;obtain⟨u,rfl,ru⟩:=rv.one;have h4:aW H (n+1) (.ref p) (.list ds):=.inr ⟨p,ys,ds,rfl,.inr ⟨h2,rfl⟩,h3⟩;obtain⟨as,ra⟩:=aW.reads I n h1 ru;obtain⟨bs,rb⟩:=aW.reads I (n+1) h4 rfl;have l1:=aW.lay n h1;have l2:=jv (λ{x d}=>aW.lay (H:=H) n) h3;have hu:=hr.units;have hm:min (PyData.depthAll ds) d.depth<=50:=Gh (Nat.min_le_right _ _) (Gh l1.2 hn);obtain⟨_,its,nn,rvv,gt⟩:=I.hok p _ h2;cases rb with
 | list g1 g2 g3 g4=>
  rw[gt]at g1;cases g1;cases g3;have mp:=SeqAt.readsAll_map ds _ _ l2.1 g4;have hlen:its.length=ds.length:=by rw[←mp,FH]
  have hjl:j<ds.length:=(FQ.mp hj).1;have hsz:j<its.toArray.size:=by rw[FN];omega
  have hat:∀m (hm:m<its.toArray.size),ds[m]?=some (SeqAt.readOf s.heap its.toArray[m]):=λm hm=>by
   have hm':m<its.length:=by simpa using hm
   rw[←mp,FJ];simp[hm']
  refine call_meets PySem.F.slot_list_index ⟨_,gt,rfl⟩ PySem.F.entry_list_index (PySem.F.args_list_index_2 _ _) (SeqAt.list_indexAt p its.toArray nn none #[] u (λy=>PyData.eqv (SeqAt.readOf s.heap y) d) j hsz (by omega) ?_ ?_)
   ⟨gt,SeqAt.items_eqAt g4 ra l2.1 l1.1 (by omega),?_⟩
  ·have:=hat j hsz;rw[hj]at this;cases this;exact he
  ·intro m hm hmj;exact hno m _ hmj (hat m hm)
  ·exact⟨.int _,H,I.tok _,⟨_,rfl⟩,q⟩
end
def Ce{P:Program}{w:World}{A:Around}(hA:A.handled=none)(it t:Addr)(ne:t≠it)(ys:Array Value):Draws P w A it [it,t] ys.size (λi v=>ys[i]?=some v) (λi h=>h.IsListIter it t i/\h.IsList t ys) where
 live:=λi h st=>by obtain⟨⟨o,ho,_⟩,_⟩:=st;exact⟨o,ho⟩
 frame:=λi h h' st k=>by obtain⟨⟨o,ho,r⟩,⟨u,hu,q⟩⟩:=st;exact⟨⟨o,k it (by simp) o ho,r⟩,⟨u,k t (by simp) u hu,q⟩⟩
 item:=λi s Q E hi st hQ=>wpAny_nextOf_list_item st.1 st.2 (x:=ys[i]) (by simp[hi]) λh' gi sb=>hQ _ h' s.toks (by simp[hi]) ⟨gi,by obtain⟨u,hu,q⟩:=st.2;exact⟨u,(sb.2 t ne).trans hu,q⟩⟩ sb
 done:=λs Q E st hE=>wpAny_nextOf_list_end hA st.1 st.2 (by simp) hE
abbrev ly(h:Heap)(a:Addr):Heap:=h.push { cls:=.type "list_iterator",data:=.fields #[.ref a,.int 0 0] }
abbrev qb(h:Heap)(a:Addr):Heap:=(ly h a).push { cls:=.type "enumerate",data:=.fields #[.none,.bool false,.ref h.objs.size,rawInt 0,.none,.none] }
open AutoSeq1 (wpAny_loadPart')in
def EO(a:Addr)(ys:Array Value)(ob:Obj):Meets (Builtin.«enumerate.__new__» ⟨[.type "enumerate",.ref a],[]⟩) (λ_ R s=>s.heap.get? a=some ob/\s.heap.IsList a ys/\R (.ok (.ret (.ref (ly s.heap a).objs.size))) { s with heap:=qb s.heap a }):=
 .of_wp λprog w A R s q=>by
  obtain⟨hp,g,d,tk,os⟩:=s;obtain⟨ga,gt,q⟩:=q;have hsub:=sub_enumerate;obtain⟨o,go,gc,n,gd⟩:=id gt;obtain⟨c0,d0,dt,sl⟩:=o;simp only at gc gd;subst gc gd;have gT:Heap.IsList (Shared.heap ⟨hp,g,d,tk,os⟩) a ys:=gt
  wp_walk using wpAny_loadPart' go
  refine wpAny_stack_any λst=>FC ?_;split
  ·rename_i c _ _ _ _ _;cases(c == Value.type "enumerate")<;>(wp_walk using wpAny_loadPart' go,wpAny_pyIter_list gT;exact⟨_,rfl,q⟩)
  ·wp_walk using wpAny_loadPart' go,wpAny_pyIter_list gT
   exact⟨_,rfl,q⟩
def zf{prog:Program}{w:World}{A:Around}{E:Value->Shared->Prop}{s:Shared}{a:Addr}{ys:Array Value}{Q:Value->Shared->Prop}(gt:s.heap.IsList a ys)
  (q:∀h',IsEnum h' (s.heap.objs.size+1) s.heap.objs.size 0 .none->h'.IsListIter s.heap.objs.size a 0->(∀c o,s.heap.get? c=some o->h'.get? c=some o)->Q (.ref (s.heap.objs.size+1)) { s with heap:=h' }) :
  wpAny (model prog w) A (call (.type "enumerate") [.ref a]) Q E s:=by
 obtain⟨o,go,r⟩:=id gt;refine callType_new F.called_enumerate (by decide) (F.typeCall_enumerate_1 _) (F.newCall_enumerate_1 _) (λob=>F.args_object_init_2 ob _) F.entry_enumerate_new (EO a ys o) ⟨go,gt,?_⟩;have n1:(ly s.heap a).objs.size=s.heap.objs.size+1:=Heap.size_push ..;have k2:(qb s.heap a).get? (ly s.heap a).objs.size=some _:=FF _ rfl;have k1:(qb s.heap a).get? s.heap.objs.size=some _:=FE _ (FF _ rfl);show _/\_;rw[n1]at k2 ⊢;exact⟨⟨_,k2,rfl⟩,q _ k2 ⟨_,k1,rfl,rfl⟩ λc o x=>FE _ (FE _ x)⟩
def j9(K:FD)(a:Addr):It:=⟨(dO K a).go,λi H x H'=>∃p v,x=.ref p/\H p=none/\H'=upd H p (.tup [.int i,v])/\(dO K a).yld i H v H,(dO K a).stop⟩
def B8{P:Program}{w:World}{K:FD}{elts:List Expr}{kk:Nat}{ps:Pos}(a e it:Addr)(ne:e≠it):Turn P w K (.Tuple elts kk ps) (j9 K a) [e,it] e (λi h=>(∃old,IsEnum h e it i old)/\h.IsListIter it a i) where
 mem:=by simp
 obj:=λi h st b hb=>by
  obtain⟨⟨old,ge⟩,o,go,gc,gd⟩:=st;rcases FX.mp hb with rfl|hb
  ·exact⟨_,ge,λv z=>by cases(show Data.fields _=Data.cell v from z)⟩
  ·cases FT.mp hb;exact⟨o,go,λv z=>by rw[gd]at z;cases z⟩
 keep:=λi h h' st k=>by obtain⟨⟨old,ge⟩,gi⟩:=st;exact⟨⟨old,k e (by simp) _ ge⟩,gi.at λo z=>k it (by simp) o z⟩
 item:=by
  intro X hP hw hK hc i pins s σ H E I hf st hg;subst hP hw hK;obtain⟨⟨old,ge⟩,gi⟩:=st;obtain⟨xs,x,hq,hx⟩:=hg;obtain⟨its,rv,p,hz⟩:=I.list hq;obtain⟨u,hu,ru⟩:=rv.get hx;have hi:i<its.toArray.size:=by have:=(FQ.mp hu).1;simpa using this
  have hA:X.A.in1.handled=none:=I.ok.hd hc;have hta:a≠it:=λz=>by obtain⟨o,ho,hcl,_⟩:=p.isList;obtain⟨o',ho',hcl',_⟩:=gi;rw[z,ho']at ho;cases ho;rw[hcl]at hcl';exact absurd (Value.type.inj hcl') (by decide)
  have hea:e∉[it,a]:=λz=>by
   rcases FX.mp z with z|z
   ·exact ne z
   ·cases FT.mp z;obtain⟨o,ho,hcl,_⟩:=p.isList;rw[ge]at ho;cases ho;exact absurd (Value.type.inj hcl) (by decide)
  refine wpAny_pyNext_enum_itemD (Ce hA it a hta its.toArray) ge ⟨gi,show s.heap.IsList a its.toArray from p.isList⟩ hi ne hea λy h' tk hy geo gs gT gz gk=>⟨_,rfl,?_⟩;have ey:y=u:=by
   have:its[i]?=some y:=by simpa using hy
   rw[hu]at this;exact(Gq this).symm
  subst ey;have lt:∀b∈[e,it],b≠s.heap.objs.size:=λb hb=>by
   rcases FX.mp hb with rfl|hb
   ·exact F4 (FG ge)
   ·cases FT.mp hb;obtain⟨o,ho,_⟩:=gi;exact F4 (FG ho)
  have I1:Inv X pins σ (upd H s.heap.objs.size (.tup [.int i,x])) { s with heap:=h',toks:=tk+1 }:=
   Inv.turnedNew (L:=[e,it]) I (λb o hb z=>gk b o (λq=>hb (by simp[q])) (λq=>hb (by simp[q])) z) hf ⟨by show 2<=sizeLine;decide,[.int i tk,y],.cons ⟨tk,rfl⟩ (.cons ru .nil),⟨_,gT,rfl,_,rfl⟩⟩
  have fe:di X pins (upd H s.heap.objs.size (.tup [.int i,x])) e:=by obtain⟨c0,c1,c2,c3,c4,c5⟩:=hf e (by simp);exact⟨by rw[aC (lt e (by simp))];exact c0,c1,c2,c3,c4,c5⟩
  refine wpAny_letOwnedTupleGo_enum (s:={ s with heap:=h',toks:=tk+1 }) geo λk gk' bk=>?_;refine⟨.ref s.heap.objs.size,upd H s.heap.objs.size (.tup [.int i,x]),Inv.same (s:={ s with heap:=h',toks:=tk+1 }) (k:=h') I1 fe bk.extBut,rfl,⟨_,x,rfl,I.hok.fresh (F5 _),rfl,rfl,λzs hzs=>by rw[I.list_inj hzs hq];exact hx⟩,⟨⟨y,by simpa using gk'⟩,gs.1.at λo z=>bk.extBut it o (Ne.symm ne) z⟩,λb hb=>?_⟩;rw[aC (lt b hb)];exact(hf b hb).1
 done:=by intro X hP hw hK hc i pins s σ H E I hf st hg;subst hP hw hK;obtain⟨⟨old,ge⟩,gi⟩:=st;obtain⟨xs,hq,hx⟩:=hg;obtain⟨its,rv,p,hz⟩:=I.list hq;have hA:X.A.in1.handled=none:=I.ok.hd hc;have gT:s.TypeIs (.ref e) "enumerate":=⟨_,ge,rfl⟩;have hl:=rv.length;unfold pyNext;refine FA (wpAny_attempt (wpAny_callSpecial?_slot (name:=Gp "__next__") gT F.slot_enumerate_next (wpAny_call_entry F.slot_enumerate_next gT F.entry_enumerate_next ?_ (F.args_enumerate_next_1 _))));show wpAny _ _ (field (Value.ref e) 2 >>= _) _ _ _;refine FA (wpAny_field ge rfl (x:=Value.ref it) rfl ?_);refine FA (wpAny_nextOf_list_end hA gi (show s.heap.IsList a its.toArray from p.isList) (by simp;omega) λh' x he hx'=>?_);obtain⟨o,ho,hc'⟩:=hx';refine FA (wpAny_isInstance (s:={ s with heap:=h' }) (T:="StopIteration") (b:=true) ⟨o,ho,hc'⟩ isSubtype_stop ?_);exact FC ⟨rfl,Inv.same (k:=s.heap) I (hf it (by simp)) he⟩
 self:=λ_ _ _ _ _ st h=>by obtain⟨⟨old,ge⟩,_⟩:=st;exact wpAny_pyIter_enum ge h
section
variable {K:FD} {σ:St} {H:Hp} {Q:VK}
def pz(K:FD):List V->Hp->(It->Hp->Prop)->Prop:=λvs H R=>∃a xs,vs=[.ref a]/\ag K H a xs/\R (j9 K a) H
def sS(K:FD)(ta:TA):TI:=λσ H R=>ta σ H λvs H1=>pz K vs H1 R
def Ad{X:Cx}{elts:List Expr}{kk:Nat}{ps:Pos}(K:FD){a:Expr}{ta:TA}{p pos:Pos}(hg:Gl X "enumerate")(hm:X.mg "enumerate" = none)(ha:PA X [a] ta)(hK:X.K=K:=by rfl)(hs:starEach [a] X.env=[(false,eval a X.env)]:=by rfl):
  PI X (.Tuple elts kk ps) (.Call (.Name "enumerate" p) [a] [] pos) (sS K ta):=by
 subst hK;intro pins s σ H R I h;refine Call_ (iq I hg hm PyProof.Rows.boot_enumerate (PyProof.Rows.callWith_type1 (ay (ha pos pins s σ H _ I h) λus s1 ⟨vs,H1,I1,r1,q1⟩=>?_) (by rw[hs];rfl) rfl));obtain⟨l,xs,e,hq,q⟩:=q1;subst e;obtain⟨u,rfl,rx⟩:=vals1 r1;cases rx;obtain⟨its,_,p1,_⟩:=I1.list hq;refine zf (show s1.heap.IsList l its.toArray from p1.isList) λh' ge gi k=>?_;refine wpAny_pyIter_enum (s:={ s1 with heap:=h' }) ge ?_;refine⟨s1.heap.objs.size+1,[s1.heap.objs.size+1,s1.heap.objs.size],_,_,H1,rfl,I1.kept (t':=s1.toks) k,B8 l (s1.heap.objs.size+1) s1.heap.objs.size (λz=>by have z':@Eq Nat _ _:=z;omega),⟨⟨_,ge⟩,gi⟩,λb hb=>?_,q⟩;have le:@LE.le Nat _ s1.heap.objs.size b:=by
  rcases FX.mp hb with rfl|hb
  ·exact Nat.le_add_right _ _
  ·cases FT.mp hb;exact F5 _
 exact I1.fpOk le (I1.hok.fresh le)
def Fj{a:TA}{R:It->Hp->Prop}(h:a σ H λvs H1=>pz K vs H1 R):sS K a σ H R:=h
def Am{a:Addr}{xs:List V}{R:It->Hp->Prop}(ha:ag K H a xs)(h:R (j9 K a) H):pz K [.ref a] H R:=⟨a,xs,rfl,ha,h⟩
def Ef{a:Addr}{xs:List V}{n:Nat}{js:List Nat}{g:TG}{tc:TT}{te:TE}(Pv:Nat->List V->Hp->Prop)(hz:xs.length<=sizeLine)(h0:Pv 0 [] H)(hl:∀i zs H,Pv i zs H->ag K H a xs/\zs.length<=i)
  (hs:∀i u zs H p H',xs[i]?=some u->Pv i zs H->Ext H H'->H' p=some (.tup [.int i,u])->H p=none->g (.ref p) (du n js σ) H' λσ2 H3=>tc σ2 H3 λb H4=>if b=true then te σ2 H4 λv H5=>Pv (i+1) (zs++[v]) H5 else Pv (i+1) zs H4)
  (hd:∀zs H p,Pv xs.length zs H->H p=none->Q (.ref p) (upd H p (.lst zs))):ig (j9 K a) n js g tc te σ H Q:=by
 refine⟨λi m zs H=>m=xs.length-i/\i<=xs.length/\Pv i zs H,⟨xs.length,by simp,Nat.zero_le _,h0⟩,?_⟩;rintro i m zs H ⟨rfl,hi,p⟩;obtain⟨qa,ql⟩:=hl i zs H p;by_cases hlt:i<xs.length
 ·refine .inr ⟨⟨xs,xs[i],qa,by simp[hlt]⟩,by omega,Pv (i+1),λzs' H' p'=>⟨xs.length-(i+1),by omega,rfl,hlt,p'⟩,λx H' y=>?_⟩;obtain⟨pp,u,rfl,hn,rfl,yu⟩:=y;exact hs i u zs H pp _ (yu.2 xs qa) p (bS hn) aN hn
 ·have e:i=xs.length:=by omega
  exact .inl ⟨⟨xs,qa,by omega⟩,λp' hp=>hd zs H p' (e ▸ p) hp⟩
end
section
variable {X:Cx}
end
end L2
namespace L2.Og.Tb
open PySem
end L2.Og.Tb
namespace L2.Og
open PySem PySem.Spec PyProof.Rows
section
variable {P:Program} {w:World} {A:Around} {E:Value->Shared->Prop} {s:Shared} {K:Type} [DecidableEq K] {knd:KeyKind P w K}
end
section
variable {P:Program} {w:World} {A:Around} {K:Type} [DecidableEq K] {knd:KeyKind P w K} {I:Addr} {fp wr:List Addr} {G:Array GenState->Array GenState->Prop} {n:Nat} {Pz:Nat->Value->Prop} {St:Nat->Shared->Prop}
end
end L2.Og
namespace L2.Og
open PySem PySem.Spec PyProof.Rows
section
variable {P:Program} {w:World} {A:Around} {E:Value->Shared->Prop} {s:Shared} {K:Type} [DecidableEq K] {knd:KeyKind P w K}
end
end L2.Og
namespace L2.Og
open PySem PySem.Spec PyProof.Rows
section
variable {X:Cx}
end
end L2.Og
namespace L2.Ti
open PySem PySem.Spec PyProof.Rows
section
variable {P:Program} {w:World} {A:Around} {E:Value->Shared->Prop} {s:Shared}
end
section
variable {X:Cx}
end
end L2.Ti
namespace L2
open PySem PySem.Spec PyProof.Rows
section
variable {X:Cx} {pins:List (Addr×Obj)} {σ:St} {H:Hp} {s:Shared}
def iU{i:Nat}{y:Str}{py:Pos}{elt tg iter:Expr}{ifs:List Expr}{sc:Scope}{pos spos:Pos}(own:List Str)(js:List Nat){wi:TI}{g:TG}{tc:TT}{te:TE}(hN:X.N.Nodup)(hi':X.N[i]?=some y)(hx:Loc X.env.scope y)
  (hi:PI X tg iter wi) (hg:∀z,PG (cz X sc own js z) tg g) (ht:∀z,jQ (cz X sc own js z) ifs tc)
  (he:∀z,PE (cz X sc own js z) elt te) (hsw:swapsWith (.ListComp elt [⟨tg,iter,ifs,0⟩] sc pos) (some (.Name y py)) spos.line X.env=pure true:=by rfl) (hc:X.calm=true:=by rfl) (hk:sc.kind=.function:=by rfl) (hb:dS sc X.env.scope=true:=by rfl) (hj:lA sc X.N js=true:=by rfl)
  (hs:∀x,foldedSetIterable iter X.env x=pure x:=by intro _;rfl) (hf:X.fn y=true\/X.env.scope.names.lookup y=some .local:=by first|exact .inl rfl|exact .inr rfl|assumption) :
  PS X (.Assign [.Name y py] (.ListComp elt [⟨tg,iter,ifs,0⟩] sc pos) spos) (lF (oq own.length js wi g tc te) (jJ i)):=by
 intro pins s σ H D' I h;rw[exec_Assign_Name_used _ _ _ _ hsw];refine FA (wpAny_standAt (FA ?_));show wpAny _ X.A (do let _ ←comprehension (.ListComp elt [⟨tg,iter,ifs,0⟩] sc pos) sc X.env _ (newList []) false (eval iter X.env) (some (assign (.Name y py) X.env))) _ _ s;refine FA (wpAny_mono (wpAny_comprehension_free (use:=some (assign (.Name y py) X.env)) (Q:=λ_ s'=>SP X pins D' .next s') rfl hs (qy λp hp hf=>I.ok.has p.1 (jY hb hp hf)) hk (λp hp hl=>vo hb hp hl)
  (ay (hi pins s σ H _ I h) λv s1 h1=>ay h1 λitv s2 h2=>?_)) (λ_ s' hq=>FC (FC hq)) λ_ _ e=>e)
 obtain⟨it,fp,tn,J,H2,e,I2,T,st2,f2,W,w0,turn⟩:=h2;subst e;refine yb (Q:=λx H1=>jJ i x σ H1 D'.nx) (RR:=λacc C=>compPost (model X.prog X.w) X.A X.xe (some (assign (.Name y py) X.env)) (λ_ s'=>SP X pins D' .next s') acc C) hk hb hj (λ_=>hg _) (λ_=>ht _) (λ_=>he _) I2 (λC=>Turn.at_ (Y:=cz X sc own js ⟨_,_,_,C⟩) T hc) st2 f2 w0 turn ?_;intro D C s' ys H' nD I' hC ⟨m,hm⟩ hCs q;show wpAny _ X.A (assign (.Name y py) X.env (.ref D)) _ _ _;refine wpAny_assign_Name (wY I' hN hi' hx (v:=.ref D) rfl (λs'' I'' ⟨a,hsb,ha⟩=>?_) hf);obtain⟨f0,f1,f2,f3,f4,f5⟩:=hC;have hac:a≠C:=by
  rcases ha with rfl|ha
  ·exact Ne.symm f1
  ·exact f4 y a ha
 refine⟨m,hm.sameBut hsb (Ne.symm hac),λh' hs'=>?_⟩;exact⟨_,_,I''.turned (t':=s''.toks) (it:=C) (λb o hb' e=>(hs'.2 b hb').trans e) f0 f1 f3 f4 f5,q⟩
end
section
variable {X:Cx}
end
section
variable {X:Cx} {pins:List (Addr×Obj)} {σ:St} {H:Hp}
end
end L2
namespace St
def ie(lo hi:Int)(xs:List Int):Prop:=xs.Pairwise (· < ·)/\∀x∈xs,lo<=x/\x<hi
structure Ok(b s:Int)(o a:List Int):Prop where
 hb:0<=b
 hs:1<=s
 ho:ie 0 b o
 ha:ie b (b+s) a
def mem(b s:Int)(o a:List Int)(x:Int):Bool:=if x<b then o.contains x else a.contains (b+(x-b) % s)
section
variable {b s:Int} {o a:List Int}
def nv(x:Int)(h:x<b):mem b s o a x=o.contains x:=GH h
def xy(x:Int)(h:b<=x):mem b s o a x=a.contains (b+(x-b) % s):=GG (by omega)
end
end St
namespace St
def bw(f:Nat->Bool)(b d:Nat):Prop:=∀x,b<=x->f (x+d)=f x
def bw.mul{f:Nat->Bool}{b d:Nat}(h:bw f b d):∀k x,b<=x->f (x+k*d)=f x
 | 0,x,hx=>by simp
 | k+1,x,hx=>by rw[Nat.succ_mul,←Nat.add_assoc,h _ (by omega),h.mul k x hx]
def bw.times{f:Nat->Bool}{b d:Nat}(h:bw f b d)(k:Nat):bw f b (k*d):=λx hx=>h.mul k x hx
def bw.down{f:Nat->Bool}{b s b' d:Nat}(h:bw f b s)(hs:1<=s)(h':bw f b' d):bw f b d:=λx hx=>by have e1:=h.mul b' (x+d) (by omega);have e2:=h.mul b' x hx;rw[←e1,←e2,show x+d+b'*s=(x+b'*s)+d by omega];exact h' _ (by have:b'*1<=b'*s:=Nat.mul_le_mul_left _ hs;omega)
def bw.mod{f:Nat->Bool}{b s d:Nat}(h:bw f b s)(h':bw f b d):bw f b (s % d):=λx hx=>by have e:=(h'.times (s / d)) (x+s % d) (by omega);rw[←e,show x+s % d+s / d*d=x+s by have:=Nat.div_add_mod s d;rw[Nat.mul_comm]at this;omega];exact h x hx
structure Least(f:Nat->Bool)(st low:Nat):Prop where
 pos:1<=st
 per:bw f low st
 step:∀d b,1<=d->bw f b d->st<=d
 base:∀b,bw f b st->low<=b
def Alike(f:Nat->Bool)(b s d:Nat):Prop:=s % d=0/\∀i,i+d<s->f (b+i+d)=f (b+i)
def Alike.per{f:Nat->Bool}{b s d:Nat}(h:bw f b s)(hs:1<=s)(hd:1<=d)(a:Alike f b s d):bw f b d:=by
 obtain⟨q,rfl⟩:∃q,s=d*q:=⟨s / d,by have:=Nat.div_add_mod s d;rw[a.1]at this;omega⟩;have hq:1<=q:=by
  cases q with
  | zero=>simp at hs
  | succ q=>omega
 have inner:∀k i,i<d->k<q->f (b+i+k*d)=f (b+i):=by
  intro k;induction k with
  | zero=>intro i _ _;simp
  | succ k ih=>
   intro i hi hk;have e:=a.2 (i+k*d) (by have:(k+1+1)*d<=q*d:=Nat.mul_le_mul_right _ (by omega);rw[Nat.succ_mul,Nat.succ_mul,Nat.mul_comm q d]at this;omega)
   rw[show b+i+(k+1)*d=b+(i+k*d)+d by rw[Nat.succ_mul];omega,e,←Nat.add_assoc];exact ih i hi (by omega)
 have all:∀n,f (b+n)=f (b+n % d):=λn=>by
  have e1:f (b+n)=f (b+n % (d*q)):=by have:=h.mul (n / (d*q)) (b+n % (d*q)) (by omega);rw[←this];congr 1;have:=Nat.div_add_mod n (d*q);rw[Nat.mul_comm (d*q)]at this;omega
  rw[e1];have hlt:n % (d*q)<d*q:=Nat.mod_lt _ (by omega);have e2:n % (d*q)=n % (d*q) % d+n % (d*q) / d*d:=by have:=Nat.div_add_mod (n % (d*q)) d;rw[Nat.mul_comm]at this;omega
  have e3:n % (d*q) % d=n % d:=Nat.mod_mul_right_mod n d q;have e4:n % (d*q) / d<q:=Nat.div_lt_of_lt_mul hlt;rw[e2,←Nat.add_assoc,inner _ _ (Nat.mod_lt _ (by omega)) e4,e3]
 intro x hx;obtain⟨n,rfl⟩:∃n,x=b+n:=⟨x-b,by omega⟩;rw[Nat.add_assoc,all (n+d),all n,Nat.add_mod_right]
def bw.alike{f:Nat->Bool}{b s d:Nat}(h:bw f b d)(hm:s % d=0):Alike f b s d:=⟨hm,λi _=>h (b+i) (by omega)⟩
def BR{f:Nat->Bool}{b s d:Nat}(h:bw f b s)(hs:1<=s)(hd:1<=d)(a:Alike f b s d)(first:∀e,1<=e->e<d->¬Alike f b s e):bw f b d/\∀e b',1<=e->bw f b' e->d<=e:=by
 have pd:=a.per h hs hd;refine⟨pd,λe b' he pe=>?_⟩;have pe':bw f b e:=h.down hs pe;have go:∀n e,e<=n->1<=e->bw f b e->d<=e:=by
  intro n;induction n with
  | zero=>intro e h1 h2;omega
  | succ n ih=>
   intro e h1 h2 pe;by_cases hz:s % e=0
   ·rcases Gw e d with hlt|hge
    ·exact absurd (pe.alike hz) (first e h2 hlt)
    ·exact hge
   ·have hlt:s % e<e:=Nat.mod_lt _ (by omega);have:=ih (s % e) (by omega) (by omega) (h.mod pe);omega
 exact go e e (F5 _) he pe'
def zy{f:Nat->Bool}{b s d low:Nat}(h:bw f b s)(hs:1<=s)(hd:1<=d)(a:Alike f b s d)(first:∀e,1<=e->e<d->¬Alike f b s e)(hl:low<=b)
  (down:∀x,low<=x->x<b->f x=f (x+d)) (stop:low=0\/f (low-1)≠f (low-1+d)):Least f d low:=by
 obtain⟨pd,hmin⟩:=BR h hs hd a first
 refine⟨hd,λx hx=>?_,hmin,λb' pb=>?_⟩
 ·rcases Gw x b with hlt|hge
  ·exact(down x hx hlt).symm
  ·exact pd x hge
 ·rcases stop with h0|hne
  ·omega
  ·rcases Gw b' low with hlt|hge
   ·exact absurd (pb (low-1) (by omega)).symm hne
   ·exact hge
def row(f:Nat->Bool)(lo n:Nat):List Int:=((GC n).filter λi=>f (lo+i)).map λi=>((lo+i:Nat):Int)
end St
namespace St
def oY(f:Nat->Bool)(lo n:Nat):row f lo (n+1)=row f lo n++if f (lo+n)then[((lo+n:Nat):Int)]else[]:=by unfold row;rw[List.range_succ,List.filter_append,FZ];congr 1;by_cases h:f (lo+n)=true<;>simp[h]
def qc(f:Nat->Bool)(lo n:Nat):(row f lo n).length<=n:=by unfold row;rw[FH];exact Gh (List.length_filter_le _ _) (by simp)
def kz{f:Nat->Bool}{lo n:Nat}{x:Int}:x∈row f lo n↔(lo:Int)<=x/\x<lo+n/\f x.toNat=true:=by
 unfold row;simp only[List.mem_map,List.mem_filter,List.mem_range];constructor
 ·rintro⟨i,⟨hi,hf⟩,rfl⟩;refine⟨by omega,by omega,?_⟩;rw[FV];exact hf
 ·rintro⟨h1,h2,h3⟩;refine⟨x.toNat-lo,⟨by omega,?_⟩,by omega⟩;rw[show lo+(x.toNat-lo)=x.toNat by omega];exact h3
def tF(f:Nat->Bool)(lo n:Nat):ie lo (lo+n) (row f lo n):=by refine⟨?_,λx hx=>⟨(kz.mp hx).1,(kz.mp hx).2.1⟩⟩;unfold row;rw[List.pairwise_map];refine List.Pairwise.imp (R:=λa b=>a<b) (λh=>by omega) ?_;exact List.Pairwise.filter _ List.pairwise_lt_range
def ub{f:Nat->Bool}{lo n:Nat}{x:Int}(h1:(lo:Int)<=x)(h2:x<lo+n):(row f lo n).contains x=f x.toNat:=by
 rw[Gm,List.contains_iff_mem,kz];constructor
 ·exact λh=>h.2.2
 ·exact λh=>⟨h1,h2,h⟩
def Ed(f:Nat->Bool)(b s:Nat)(hs:1<=s):Ok b s (row f 0 b) (row f b s):=
 ⟨by omega,by omega,by have:=tF f 0 b;simpa using this,tF f b s⟩
def Dw{f:Nat->Bool}{b s:Nat}(hs:1<=s)(h:bw f b s)(x:Nat):mem b s (row f 0 b) (row f b s) x=f x:=by
 by_cases hx:x<b
 ·rw[nv _ (by omega),ub (by omega) (by omega),FV]
 ·rw[xy _ (by omega)];have r0:0<=((x:Int)-b) % s:=Int.emod_nonneg _ (by omega);have r1:((x:Int)-b) % s<s:=Int.emod_lt_of_pos _ (by omega);rw[ub (by omega) (by omega)];have e:((b:Int)+((x:Int)-b) % s).toNat=b+(x-b) % s:=by
   have:((x:Int)-b) % s=(((x-b) % s:Nat):Int):=by rw[show (x:Int)-b=((x-b:Nat):Int) by omega];rfl
   omega
  rw[e];have:=h.mul ((x-b) / s) (b+(x-b) % s) (by omega);rw[←this];congr 1;have:=Nat.div_add_mod (x-b) s;rw[Nat.mul_comm]at this;omega
end St
namespace St
end St
namespace St
end St
namespace Bfs
def ij:∀(N:Nat) (l:List Nat),l.Nodup->(∀x∈l,x<N)->l.length<=N
 | 0,l,_,h=>by
  cases l with
  | nil=>exact F5 _
  | cons x l=>exact absurd (h x FO) (Nat.not_lt_zero _)
 | N+1,l,hn,h=>by
  have ih:=ij N (l.erase N) (hn.erase N) (λx hx=>by
   have:=h x (List.mem_of_mem_erase hx);have hne:x≠N:=λe=>by subst e;exact(List.Nodup.not_mem_erase hn) hx
   omega)
  by_cases hm:N∈l
  ·rw[List.length_erase_of_mem hm]at ih;omega
  ·rw[List.erase_of_not_mem hm]at ih;omega
abbrev Pl:=Int×Int
def inR(T:Int)(x:Pl):Prop:=0<=x.1/\x.1<12/\0<=x.2/\x.2<=T
def AQ{T:Int}{l:List Pl}(hT:T<=2000)(hn:l.Nodup)(h:∀x∈l,inR T x):l.length<=24012:=by
 have hmap:(l.map λx=>(x.1*2001+x.2).toNat).Nodup:=by unfold List.Nodup at hn ⊢;rw[List.pairwise_map];refine List.Pairwise.imp_of_mem ?_ hn;intro a b ha hb hab e;obtain⟨a1,a2,a3,a4⟩:=h a ha;obtain⟨b1,b2,b3,b4⟩:=h b hb;refine hab (Prod.ext ?_ ?_)<;>omega
 have:=ij 24012 _ hmap (λy hy=>by obtain⟨x,hx,rfl⟩:=List.mem_map.mp hy;obtain⟨a1,a2,a3,a4⟩:=h x hx;omega)
 rwa [FH]at this
section
variable (nx:Pl->Nat->Option Pl) (s:Pl)
variable {nx s}
end
end Bfs
namespace Bfs
inductive Rw(S:Pl->Pl->Prop):Nat->Pl->Pl->Prop
 | nil {x:Pl}:Rw S 0 x x
 | snoc {n:Nat} {x y z:Pl}:Rw S n x y->S y z->Rw S (n+1) x z
def Rw.trans{S:Pl->Pl->Prop}{n k:Nat}{x y z:Pl}(h:Rw S n x y)(g:Rw S k y z):Rw S (n+k) x z:=by
 induction g with
 | nil=>exact h
 | snoc _ hs ih=>exact .snoc (ih h) hs
def Rw.fn{S:Pl->Pl->Prop}{n:Nat}{x y:Pl}(h:Rw S n x y):∃w:Nat->Pl,w 0=x/\w n=y/\∀i,i<n->S (w i) (w (i+1)):=by
 induction h with
 | @nil x=>exact⟨λ_=>x,rfl,rfl,λi hi=>absurd hi (Nat.not_lt_zero _)⟩
 | @snoc n x y z _ hs ih=>
  obtain⟨w,h0,hn,hw⟩:=ih;refine⟨λi=>if i<=n then w i else z,by simp[h0],(by show(if n+1<=n then w (n+1)else z)=z;rw[GG (by omega)]),λi hi=>?_⟩
  try dsimp only
  rcases Gw i n with l|l
  ·rw[GH (by omega),GH (by omega)];exact hw i l
  ·have:i=n:=by omega
   subst this;rw[GH (F5 _),GG (by omega),hn];exact hs
def xP{S:Pl->Pl->Prop}{w:Nat->Pl}{i:Nat}:∀(k:Nat),(∀j,i<=j->j<i+k->S (w j) (w (j+1)))->Rw S k (w i) (w (i+k))
 | 0,_=>.nil
 | k+1,h=>.snoc (xP k λj h1 h2=>h j h1 (by omega)) (h (i+k) (by omega) (by omega))
def ze{S:Pl->Pl->Prop}{w:Nat->Pl}{i j:Nat}(hij:i<=j)(h:∀k,i<=k->k<j->S (w k) (w (k+1))):Rw S (j-i) (w i) (w j):=by
 have:=xP (S:=S) (w:=w) (i:=i) (j-i) (λk h1 h2=>h k h1 (by omega))
 rwa [show i+(j-i)=j by omega]at this
def jZ{h:Nat->Int}{l:Int}:∀(P:Nat),(∀i,i<P->h (i+1)<=h i+1)->h 0<=l->l<=h P->∃u,u<=P/\h u=l/\∀i,u<i->i<=P->l<h i
 | 0,_,h0,hP=>⟨0,F5 _,by omega,λi h1 h2=>by omega⟩
 | P+1,hs,h0,hP=>by
  by_cases e:h (P+1)=l
  ·exact⟨P+1,F5 _,e,λi h1 h2=>by omega⟩
  ·have:=hs P (by omega);obtain⟨u,hu,hl,hi⟩:=jZ P (λi hi=>hs i (by omega)) h0 (by omega);refine⟨u,by omega,hl,λi h1 h2=>?_⟩;rcases Gw P i with g|g
   ·have:i=P+1:=by omega
    subst this;omega
   ·exact hi i h1 g
def Ai{h:Nat->Int}{l:Int}{P n:Nat}(hP:P<=n)(hs:∀i,P<=i->i<n->h i<=h (i+1)+1)(h0:h n<=l)(hl:l<=h P):∃d,P<=d/\d<=n/\h d=l/\∀i,P<=i->i<d->l<h i:=by
 obtain⟨u,hu,hul,hui⟩:=jZ (h:=λi=>h (n-i)) (l:=l) (n-P) (λi hi=>by
  have:=hs (n-(i+1)) (by omega) (by omega)
  rwa [show n-(i+1)+1=n-i by omega]at this) (by simpa using h0) (by
  try dsimp only
  rw[show n-(n-P)=P by omega];exact hl)
 refine⟨n-u,by omega,by omega,hul,λi h1 h2=>?_⟩;have:=hui (n-i) (by omega) (by omega)
 (try dsimp only at this)
 rwa [show n-(n-i)=i by omega]at this
def twice{K:Nat}(code:Nat->Nat)(h:∀j,j<=K->code j<K):∃i j,i<j/\j<=K/\code i=code j:=by
 refine Classical.byContradiction λno=>?_;have hn:((GC (K+1)).map code).Nodup:=by unfold List.Nodup;rw[List.pairwise_map];refine List.Pairwise.imp_of_mem ?_ (List.pairwise_lt_range (n:=K+1));intro a b ha hb hab e;exact no ⟨a,b,hab,by have:=List.mem_range.mp hb;omega,e⟩
 have:=ij K _ hn (λx hx=>by obtain⟨j,hj,rfl⟩:=List.mem_map.mp hx;exact h j (by have:=List.mem_range.mp hj;omega))
 rw[FH,List.length_range]at this;omega
end Bfs
namespace Bfs
end Bfs
namespace Rnd
inductive Wg{α:Type}(S:α->α->Prop):Nat->α->α->Prop
 | nil {x:α}:Wg S 0 x x
 | snoc {n:Nat} {x y z:α}:Wg S n x y->S y z->Wg S (n+1) x z
def Wg.trans{α:Type}{S:α->α->Prop}{n k:Nat}{x y z:α}(h:Wg S n x y)(g:Wg S k y z):Wg S (n+k) x z:=by
 induction g with
 | nil=>exact h
 | snoc _ hs ih=>exact .snoc (ih h) hs
def Wg.fn{α:Type}{S:α->α->Prop}{n:Nat}{x y:α}(h:Wg S n x y):∃w:Nat->α,w 0=x/\w n=y/\∀i,i<n->S (w i) (w (i+1)):=by
 induction h with
 | @nil x=>exact⟨λ_=>x,rfl,rfl,λi hi=>absurd hi (Nat.not_lt_zero _)⟩
 | @snoc n x y z _ hs ih=>
  obtain⟨w,h0,hn,hw⟩:=ih;refine⟨λi=>if i<=n then w i else z,by simp[h0],(by show(if n+1<=n then w (n+1)else z)=z;rw[GG (by omega)]),λi hi=>?_⟩
  try dsimp only
  rcases Gw i n with l|l
  ·rw[GH (by omega),GH (by omega)];exact hw i l
  ·have:i=n:=by omega
   subst this;rw[GH (F5 _),GG (by omega),hn];exact hs
def wG{α:Type}{S:α->α->Prop}{w:Nat->α}{i:Nat}:∀(k:Nat),(∀j,i<=j->j<i+k->S (w j) (w (j+1)))->Wg S k (w i) (w (i+k))
 | 0,_=>.nil
 | k+1,h=>.snoc (wG k λj h1 h2=>h j h1 (by omega)) (h (i+k) (by omega) (by omega))
def seg{α:Type}{S:α->α->Prop}{w:Nat->α}{n i j:Nat}(hS:∀k,k<n->S (w k) (w (k+1)))(hij:i<=j)(hj:j<=n):Wg S (j-i) (w i) (w j):=by
 have:=wG (S:=S) (w:=w) (i:=i) (j-i) (λk h1 h2=>hS k (by omega))
 rwa [show i+(j-i)=j by omega]at this
def DF{α:Type}{S:α->α->Prop}{I:α->Prop}{N:Nat}(code:α->Nat)(hc:∀a,I a->code a<N)(inj:∀a b,I a->I b->code a=code b->a=b)(hI:∀a b,S a b->I b):∀(k:Nat) (x y:α),I x->Wg S k x y->∃k',k'<N/\Wg S k' x y:=by
 intro k;induction k using Nat.strongRecOn with
 | _ k ih=>
  intro x y hx h;by_cases hk:k<N
  ·exact⟨k,hk,h⟩
  ·obtain⟨w,h0,hn,hw⟩:=h.fn;have hIn:∀i,i<=k->I (w i):=λi hi=>by
    cases i with
    | zero=>rw[h0];exact hx
    | succ i=>exact hI _ _ (hw i (by omega))
   obtain⟨i,j,hij,hj,e⟩:=Bfs.twice (K:=N) (λj=>code (w j)) (λj hj=>hc _ (hIn j (by omega)));have e':=inj _ _ (hIn i (by omega)) (hIn j (by omega)) e;have a1:=seg hw (Nat.zero_le i) (by omega);have a2:=seg hw (show j<=k by omega) (F5 k);rw[←e']at a2;have a3:=a1.trans a2;rw[h0,hn]at a3;exact ih _ (by omega) x y hx a3
section
variable {n:Nat} {A:Nat->Nat->Prop} (hA:∀i j,A i j->i<n/\j<n)
def Pr(A:Nat->Nat->Prop)(c:Nat)(a b:Nat×Nat):Prop:=A a.1 b.1/\b.2=(a.2+1) % c
def lift{c k:Nat}{i j:Nat}(h:Wg A k i j):Wg (Pr A c) k (i,0 % c) (j,k % c):=by
 induction h with
 | nil=>exact .nil
 | @snoc k x y z _ hs ih=>exact .snoc ih ⟨hs,by show(k+1) % c=(k % c+1) % c;rw[Nat.mod_add_mod]⟩
def drop{c k:Nat}{a b:Nat×Nat}(h:Wg (Pr A c) k a b):a.2 % c=a.2->Wg A k a.1 b.1/\b.2=(a.2+k) % c:=by
 induction h with
 | nil=>exact λe=>⟨.nil,e.symm⟩
 | @snoc k x y z _ hs ih=>
  intro e;obtain⟨h1,h2⟩:=ih e;refine⟨.snoc h1 hs.1,?_⟩;rw[hs.2,h2,Nat.mod_add_mod,Nat.add_assoc]
include hA
def vZ{c k i j:Nat}(hc:1<=c)(hi:i<n)(h:Wg A k i j):∃k',k'<n*c/\k' % c=k % c/\Wg A k' i j:=by
 obtain⟨k',hk,hw⟩:=DF (S:=Pr A c) (I:=λa=>a.1<n/\a.2<c) (N:=n*c) (λa=>a.1*c+a.2) (λa ha=>by
   have:(a.1+1)*c<=n*c:=Nat.mul_le_mul_right _ ha.1;rw[Nat.succ_mul]at this;have:=ha.2;show a.1*c+a.2<n*c;omega) (λa b ha hb e=>by
   have e':a.1*c+a.2=b.1*c+b.2:=e;have e2:a.2=b.2:=by
    have:=congrArg (· % c) e'
    try dsimp only at this
    rwa [Nat.mul_add_mod_self_right,Nat.mul_add_mod_self_right,Nat.mod_eq_of_lt ha.2,Nat.mod_eq_of_lt hb.2]at this
   have e1:a.1=b.1:=Nat.eq_of_mul_eq_mul_right (show 0<c by omega) (by omega);exact Prod.ext e1 e2) (λa b h=>⟨(hA _ _ h.1).2,by rw[h.2];exact Nat.mod_lt _ (by omega)⟩) k _ _ ⟨hi,Nat.mod_lt _ (by omega)⟩ (lift h)
 obtain⟨h1,h2⟩:=drop hw (Nat.mod_mod _ _);refine⟨k',hk,?_,h1⟩;rw[Nat.zero_mod,Nat.zero_add]at h2;exact h2.symm
def sW{k i j:Nat}(hi:i<n)(h:Wg A k i j):j<n:=by
 cases h with
 | nil=>exact hi
 | snoc _ hs=>exact(hA _ _ hs).2
def Sm(A:Nat->Nat->Prop)(u v:Nat):Prop:=(∃k,Wg A k u v)/\∃k,Wg A k v u
omit hA in
def Sm.symm{u v:Nat}(h:Sm A u v):Sm A v u:=⟨h.2,h.1⟩
omit hA in
def Sm.trans{u v z:Nat}(h:Sm A u v)(g:Sm A v z):Sm A u z:=by obtain⟨⟨a,ha⟩,b,hb⟩:=h;obtain⟨⟨c,hc⟩,d,hd⟩:=g;exact⟨⟨_,ha.trans hc⟩,_,hd.trans hb⟩
omit hA in
def Sm.refl{u:Nat}:Sm A u u:=⟨⟨0,.nil⟩,0,.nil⟩
omit hA in
def wu{P:Nat->Prop}:∀k,P k->∃q,P q/\∀u,P u->q<=u:=by
 intro k;induction k using Nat.strongRecOn with
 | _ k ih=>
  intro hk;by_cases h:∃u,u<k/\P u
  ·obtain⟨u,hu,pu⟩:=h;exact ih u hu pu
  ·exact⟨k,hk,λu hu=>Classical.byContradiction λz=>h ⟨u,by omega,hu⟩⟩
def Rp(A:Nat->Nat->Prop)(q:Nat):Prop:=(∃k,1<=k/\Wg A k q q)/\∀u,Sm A q u->q<=u
omit hA in
def DH{u k:Nat}(hk:1<=k)(h:Wg A k u u):∃q,Rp A q/\Sm A u q:=by obtain⟨q,hq,hl⟩:=wu (P:=λq=>Sm A u q) u Sm.refl;obtain⟨⟨a,ha⟩,b,hb⟩:=id hq;exact⟨q,⟨⟨b+k+a,by omega,(hb.trans h).trans ha⟩,λv hv=>hl v (hq.trans hv)⟩,hq⟩
def ring{q:Nat}(hq:q<n)(h:Rp A q):∃(c:Nat) (L:List Nat),1<=c/\Wg A c q q/\L.length=c/\L.Nodup/\∀v∈L,v<n/\Sm A q v:=by
 obtain⟨⟨k,hk,hw⟩,_⟩:=h;obtain⟨c,⟨hc,hcw⟩,hl⟩:=wu (P:=λk=>1<=k/\Wg A k q q) k ⟨hk,hw⟩;obtain⟨w,h0,hn,hS⟩:=hcw.fn;refine⟨c,(GC c).map w,hc,hcw,by simp,?_,?_⟩
 ·unfold List.Nodup;rw[List.pairwise_map];refine List.Pairwise.imp_of_mem ?_ (List.pairwise_lt_range (n:=c));intro i j hi hj hij e;have hj':=List.mem_range.mp hj;have a1:=seg hS (Nat.zero_le i) (by omega);have a2:=seg hS (show j<=c by omega) (F5 c);rw[←e]at a2;have a3:=a1.trans a2;rw[h0,hn]at a3;have:=hl _ ⟨by omega,a3⟩;omega
 ·intro v hv;obtain⟨i,hi,rfl⟩:=List.mem_map.mp hv;have hi':=List.mem_range.mp hi;have a1:=seg hS (Nat.zero_le i) (by omega);have a2:=seg hS (show i<=c by omega) (F5 c);rw[h0]at a1;rw[hn]at a2;exact⟨sW hA hq a1,⟨_,a1⟩,_,a2⟩
def rings(hn:n<=12):∀k,k<=n->∃(L:List Nat) (P:Nat),L.Nodup/\(∀v∈L,v<n/\∃q,q<k/\Rp A q/\Sm A q v)/\1<=P/\P ^ 3<=3 ^ L.length/\∀q,q<k->Rp A q->∃c,1<=c/\c<=n/\c ∣ P/\Wg A c q q:=by
 intro k;induction k with
 | zero=>exact λ_=>⟨[],1,List.nodup_nil,λv h=>(nomatch h),F5 _,by decide,λq h=>absurd h (Nat.not_lt_zero _)⟩
 | succ k ih=>
  intro hk;obtain⟨L,P,nd,hL,hP,h3,hq⟩:=ih (by omega);by_cases hr:Rp A k
  ·obtain⟨c,M,hc,hw,hM,ndM,hMs⟩:=ring hA (show k<n by omega) hr;have hcn:c<=n:=by rw[←hM];exact Bfs.ij n M ndM λv hv=>(hMs v hv).1
   refine⟨L++M,P*c,?_,?_,Nat.mul_pos hP hc,?_,?_⟩
   ·rw[List.nodup_append];refine⟨nd,ndM,λa ha b hb e=>?_⟩;subst e;obtain⟨_,q,hqk,hqr,hqs⟩:=hL a ha;have hs:Sm A k q:=(hMs a hb).2.trans hqs.symm;have:=hr.2 q hs;omega
   ·intro v hv;rcases F8.mp hv with z|z
    ·obtain⟨h1,q,h2,h3⟩:=hL v z;exact⟨h1,q,by omega,h3⟩
    ·exact⟨(hMs v z).1,k,by omega,hr,(hMs v z).2⟩
   ·rw[Nat.mul_pow,F0,hM,Nat.pow_add];have hc3:∀c,c<13->c ^ 3<=3 ^ c:=by decide
    exact Nat.mul_le_mul h3 (hc3 c (by omega))
   ·intro q hqk hqr;by_cases e:q=k
    ·subst e;exact⟨c,hc,hcn,⟨P,Nat.mul_comm _ _⟩,hw⟩
    ·obtain⟨d,h1,h2,h4,h5⟩:=hq q (by omega) hqr;exact⟨d,h1,h2,Nat.dvd_trans h4 ⟨c,rfl⟩,h5⟩
  ·refine⟨L,P,nd,λv hv=>?_,hP,h3,λq hqk hqr=>?_⟩
   ·obtain⟨h1,q,h2,h3⟩:=hL v hv;exact⟨h1,q,by omega,h3⟩
   ·by_cases e:q=k
    ·subst e;exact absurd hqr hr
    ·exact hq q (by omega) hqr
omit hA in
def times{c q:Nat}(h:Wg A c q q):∀t,Wg A (t*c) q q
 | 0=>by rw[Nat.zero_mul];exact .nil
 | t+1=>by rw[Nat.succ_mul];exact(times h t).trans h
def round(hn:n<=12):∃P,1<=P/\P<=81/\∀s r k k',s<n->n<=k->2*(n*n)<=k'->k % P=k' % P->Wg A k s r->Wg A k' s r:=by
 obtain⟨L,P,nd,hL,hP,h3,hq⟩:=rings hA hn n (F5 _);have hl:L.length<=n:=Bfs.ij n L nd λv hv=>(hL v hv).1;refine⟨P,hP,?_,?_⟩
 ·refine Classical.byContradiction λz=>?_;have h1:82 ^ 3<=P ^ 3:=Nat.pow_le_pow_left (by omega) 3;have h2:3 ^ L.length<=3 ^ 12:=Nat.pow_le_pow_right (by decide) (by omega);have:82 ^ 3<=3 ^ 12:=Gh h1 (Gh h3 h2);exact absurd this (by decide)
 ·intro s r k k' hs hk hk' hmod h;obtain⟨w,h0,hn',hS⟩:=h.fn;have hIn:∀i,i<=k->w i<n:=λi hi=>by
   cases i with
   | zero=>rw[h0];exact hs
   | succ i=>exact(hA _ _ (hS i (by omega))).2
  obtain⟨i,j,hij,hj,e⟩:=Bfs.twice (K:=n) w (λj hj=>hIn j (by omega));have loop:=seg hS (Nat.le_of_lt hij) (show j<=k by omega);rw[←e]at loop;obtain⟨q,hr,⟨⟨a,ha⟩,b,hb⟩⟩:=DH (by omega) loop;have hqn:q<n:=sW hA (hIn i (by omega)) ha;obtain⟨c,hc,hcn,hcP,hcw⟩:=hq q hqn hr;have t1:=seg hS (Nat.zero_le i) (show i<=k by omega);have t2:=seg hS (show i<=k by omega) (F5 k);rw[h0]at t1;rw[hn']at t2;have u1:=t1.trans ha;have u2:=(hb.trans (times (ha.trans hb) (c-1))).trans t2;obtain⟨p1,l1,m1,w1⟩:=vZ hA hc hs u1;obtain⟨p2,l2,m2,w2⟩:=vZ hA hc hqn u2;have hnc:n*c<=n*n:=Nat.mul_le_mul_left _ hcn;have hle:p1+p2<=k':=by omega
  have hm:(p1+p2) % c=k' % c:=by
   have e1:(p1+p2) % c=((i-0+a)+(b+(c-1)*(a+b)+(k-i))) % c:=by rw[Nat.add_mod,m1,m2,←Nat.add_mod]
   have e2:(i-0+a)+(b+(c-1)*(a+b)+(k-i))=k+c*(a+b):=by obtain⟨d,rfl⟩:∃d,c=d+1:=⟨c-1,by omega⟩;rw[Nat.add_sub_cancel,Nat.succ_mul];omega
   rw[e1,e2,Nat.add_mul_mod_self_left];obtain⟨d,rfl⟩:=hcP;rw[←Nat.mod_mul_right_mod k c d,hmod,Nat.mod_mul_right_mod]
  obtain⟨t,ht⟩:∃t,k'=p1+p2+t*c:=by refine⟨(k'-(p1+p2)) / c,?_⟩;have hd:(k'-(p1+p2)) % c=0:=(Nat.sub_mod_eq_zero_of_mod_eq hm.symm);have:=Nat.div_add_mod (k'-(p1+p2)) c;rw[hd,Nat.mul_comm]at this;omega
  rw[ht,show p1+p2+t*c=p1+t*c+p2 by omega];exact(w1.trans (times hcw t)).trans w2
end
open St in
def CP{f:Nat->Bool}{st low b P:Nat}(h:Least f st low)(hP:1<=P)(hp:bw f b P):st ∣ P/\low<=b:=by
 have hd:st ∣ P:=by
  have p1:bw f (max b low) P:=λx hx=>hp x (by omega);have p2:bw f (max b low) st:=λx hx=>h.per x (by omega);have p3:=p1.mod p2;have hs:=h.pos;by_cases z:P % st=0
  ·exact Nat.dvd_of_mod_eq_zero z
  ·have:=h.step (P % st) _ (by omega) p3;have:=Nat.mod_lt P (show st>0 by omega);omega
 refine⟨hd,h.base b λx hx=>?_⟩;have q1:=hp.times low x hx;have q2:=hp.times low (x+st) (by omega);have hge:low<=low*P:=Nat.le_mul_of_pos_right low hP;have q3:=h.per (x+low*P) (by omega);rw[←q1,←q2,←q3];congr 1;omega
end Rnd
namespace My
open PySem L2 St
def stq (i : Nat) : Stmt := PySem.Challenge.pw_stairrooms_k32_levels_refused.main.body.getD i (.Pass ⟨0, 0, 0, 0⟩)
local macro_rules|`(tactic| walk_at "cond") => `(tactic| first|decide|omega|(dsimp only; omega)|(unfold kB; omega)|(unfold vS; exact ⟨by decide, by decide, by decide⟩)|(dsimp only; exact ⟨by omega, by omega⟩)|exact .inr ⟨by decide, by decide⟩|exact .inl ⟨by decide, by decide⟩|(unfold SmallR; omega))
local macro_rules|`(tactic| walk_at"") => do
 let ts ← ("seq ret retN asg drop ifS next name var c op un CB cons nil ints test B exb not and or andV orV notV ifE yes I0 I U EqI NeI EqB NeB call BM tup lst sl noPart part exi chain comp iL iT i1 i2 i3 for tTru intB max2 min2 sub gcons gnil aug ipI zip rev par par2 lam calV raise fs try bseq bnext bplain bif bcall enum gget gin revL leS disp dget lrev disp1 din dnin dput min3 iS iD bm0 revS iD2 iLT thaw iD3 iDL dgt2 fs3 fs5".splitOn " ").toArray.mapM λn =>
  let i := Lean.mkIdent (.mkSimple ("rd_" ++ n))
  if n == "var" || n == "aug" then `(tacticSeq| ((with_reducible apply $i); (exact rfl)))
  else if n == "I" then `(tacticSeq| ((with_reducible apply $i); (walk_at "cond")))
  else `(tacticSeq| with_reducible refine $i ?_)
 `(tactic| repeat (first $[| $ts]*|dsimp only))
structure Blt(mg:Str->Option Value):Prop where
 len_:mg "len" = none
 isinstance_:mg "isinstance" = none
 tuple_:mg "tuple" = none
 list_:mg "list" = none
 int_:mg "int" = none
 bool_:mg "bool" = none
 range_:mg "range" = none
 zip_:mg "zip" = none
 max_:mg "max" = none
 min_:mg "min" = none
 abs_:mg "abs" = none
 all_:mg "all" = none
 ValueError_:mg "ValueError" = none
 enumerate_:mg "enumerate" = none
 set_:mg "set" = none
 str_:mg "str" = none
 any_:mg "any" = none
abbrev fz:List Str:=["Endless","NoDeed","NoHouse","NoLine","NoPlace","NoStair","NoText","NoWalk","NoWay","NotBare","StairError","TooGreat"]
abbrev gx:List Str:=["NoHouse","NoPlace","TooGreat"]
def isInt:V->Bool
 | .int _=>true
 | _=>false
def isStr:V->Bool
 | .str _=>true
 | _=>false
def isTup(H:Hp):V->Bool
 | .ref p=>match H p with
  | some (.tup _)=>true
  | _=>false
 | _=>false
def Ah{H:Hp}{v:V}{n:String}(h:dk H v n):∃b c,fS n "int" = some b/\fS n "bool" = some c/\(b && !c)=isInt v:=by
 cases v with
 | non=>cases(show n = "NoneType" from h);exact⟨_,_,rfl,rfl,rfl⟩
 | bl b=>cases(show n = "bool" from h);exact⟨_,_,rfl,rfl,rfl⟩
 | int i=>cases(show n = "int" from h);exact⟨_,_,rfl,rfl,rfl⟩
 | str z=>cases(show n = "str" from h);exact⟨_,_,rfl,rfl,rfl⟩
 | ref a=>rcases h with⟨rfl,xs,e⟩|⟨rfl,xs,e⟩<;>exact⟨_,_,rfl,rfl,rfl⟩
 | _=>exact False.elim h
def yr{H:Hp}{v:V}{n:String}(h:dk H v n):fS n "str" = some (isStr v):=by
 cases v with
 | non=>cases(show n = "NoneType" from h);rfl
 | bl b=>cases(show n = "bool" from h);rfl
 | int i=>cases(show n = "int" from h);rfl
 | str z=>cases(show n = "str" from h);rfl
 | ref a=>rcases h with⟨rfl,xs,e⟩|⟨rfl,xs,e⟩<;>rfl
 | _=>exact False.elim h
def pN{H:Hp}{v:V}{n:String}(h:dk H v n):fS n "tuple" = some (isTup H v):=by
 cases v with
 | non=>cases(show n = "NoneType" from h);rfl
 | bl b=>cases(show n = "bool" from h);rfl
 | int i=>cases(show n = "int" from h);rfl
 | str z=>cases(show n = "str" from h);rfl
 | ref a=>rcases h with⟨rfl,xs,e⟩|⟨rfl,xs,e⟩<;>(unfold isTup;dsimp only;rw[e];rfl)
 | _=>exact False.elim h
def bp(H:Hp):Nat->V->Prop
 | _,.non=>True
 | _,.bl _=>True
 | _,.int _=>True
 | _,.str z=>z.length<=1000
 | 0,.ref _=>False
 | n+1,.ref p=>∃xs,(H p=some (.tup xs)\/H p=some (.lst xs))/\xs.length<=2000/\∀x∈xs,bp H n x
 | _,_=>False
def bp.ext{H H':Hp}(e:Ext H H'):∀{n:Nat} {v:V},bp H n v->bp H' n v:=by
 intro n;induction n with
 | zero=>intro v h;cases v<;>exact h
 | succ n ih=>
  intro v h;cases v with
  | ref p=>
   obtain⟨xs,h1,h2,h3⟩:=h;exact⟨xs,h1.imp (e _ _) (e _ _),h2,λx hx=>ih (h3 x hx)⟩
  | _=>exact h
def bp.kind{H:Hp}{n:Nat}{v:V}(h:bp H n v):∃k,dk H v k:=by
 cases v with
 | non=>exact⟨_,rfl⟩
 | bl b=>exact⟨_,rfl⟩
 | int i=>exact⟨_,rfl⟩
 | str z=>exact⟨_,rfl⟩
 | ref p=>
  cases n with
  | zero=>exact h.elim
  | succ n=>
   obtain⟨xs,h1,_⟩:=h;rcases h1 with h1|h1
   ·exact⟨"tuple",.inr ⟨rfl,xs,h1⟩⟩
   ·exact⟨"list",.inl ⟨rfl,xs,h1⟩⟩
 | _=>cases n<;>exact h.elim
def kh{H:Hp}{v:V}(h:isTup H v=true):∃p xs,v=.ref p/\H p=some (.tup xs):=by
 cases v with
 | ref p=>
  unfold isTup at h;dsimp only at h;split at h
  ·rename_i xs e;exact⟨p,xs,rfl,e⟩
  ·cases h
 | _=>cases h
def bp.items{H:Hp}{n:Nat}{p:Addr}{xs:List V}(h:bp H (n+1) (.ref p))(e:H p=some (.tup xs)):xs.length<=2000/\∀x∈xs,bp H n x:=by obtain⟨ys,h1,h2,h3⟩:=h;rcases h1 with h1|h1<;>rw[e]at h1<;>cases h1;exact⟨h2,h3⟩
def gD{n:Nat}(h:n<=2000):n<=sizeLine:=Gh h (by decide)
def jB(K:FD):Sp:=λvs H Q _=>∃v n,vs=[v]/\dk H v n/\Q (.bl (isInt v)) H
abbrev pH:Stmt:=stq 16
def w9:FnScope ["thing"] ["thing"] (aA pH):=⟨rfl,rfl,rfl,by decide +kernel,rfl,by decide +kernel,by decide +kernel⟩
def CA{P:Program}{w:World}{K:FD}{mg:Str->Option Value}{base:Heap}(D:Dfn K mg "is_whole" pH ["thing"])(T:Blt mg):Cal P w K mg base "is_whole" 1 ["thing"] (jB K):=by
 have nd:=(w9).nd;refine D.ok w9 (λvs H Q E h=>?_) (λX hX H vs Q E h=>?_)
 ·obtain⟨v,n,rfl,_⟩:=h;rfl
 ·obtain⟨f,cdv,A,outer,s,H0,E0,rfl,hr⟩:=hX;obtain⟨v,n,rfl,hk,q⟩:=h;obtain⟨b,c,hb,hc,e⟩:=Ah hk;refine⟨_,(aj (aG (eQ (bq fY rfl T.isinstance_ PyProof.Rows.boot_isinstance (aa (pv 0) (aa (fu (v:=.ty "int") rfl T.int_ PyProof.Rows.boot_int rfl) ae))) (eY (zm (bq fY rfl T.isinstance_ PyProof.Rows.boot_isinstance (aa (pv 0) (aa (fu (v:=.ty "bool") rfl T.bool_ PyProof.Rows.boot_bool rfl) ae)))))))),?_⟩;walk_at"";refine eR hk hb ?_;walk_at"";cases b with
  | false=>refine aq ?_;rw[←e]at q;exact q
  | true=>
   refine ax ?_;walk_at"";refine eR hk hc ?_;walk_at"";rw[←e]at q;exact q
def cF(m:Int):V->Bool
 | .int i=>decide (0<=i) && decide (i<m)
 | _=>false
def nS:List (Key×V):=[(.inr "up",.str "down"),(.inr "down",.str "up"),(.inr "stay",.str "stay"),(.inr "zero",.str "zero")]
def Fv{w:World}{K:FD}{a:Addr}{t1 t2 t3 t4 t5 t6 t7 t8:Tok}{ep:Nat}(h:K.lookup a=some (iL w [("up",t1,.str "down" t2),("down",t3,.str "up" t4),("stay",t5,.str "stay" t6),("zero",t7,.str "zero" t8)] ep))(hs:(a == sysModules)=false):GDict w K a nS:=
 ⟨⟨_,_,h,.cons ⟨rfl,⟨_,rfl⟩⟩ (.cons ⟨rfl,⟨_,rfl⟩⟩ (.cons ⟨rfl,⟨_,rfl⟩⟩ (.cons ⟨rfl,⟨_,rfl⟩⟩ .nil)))⟩,by decide +kernel,hs⟩
def gG:V->Bool
 | .str z=>(bO nS (.inr z)).isSome
 | _=>false
def kE(z:Str):Bool:=!decide (z.cps.toList<(Gp "a").cps.toList) && !decide ((Gp "z").cps.toList<z.cps.toList)
def gW:V->Bool
 | .str z=>decide (z.length=1) && kE z
 | _=>false
def jG{v:V}(h:isInt v=true):∃i,v=.int i:=by cases v<;>first|exact ⟨_,rfl⟩|cases h
def isStr_of{v:V}(h:isStr v=true):∃z,v=.str z:=by cases v<;>first|exact ⟨_,rfl⟩|cases h
def za{m:Int}{v:V}(h:isInt v=false):cF m v=false:=by cases v<;>first|rfl|cases h
def zJ{v:V}(h:isStr v=false):gG v=false:=by cases v<;>first|rfl|cases h
def BP{v:V}(h:isStr v=false):gW v=false:=by cases v<;>first|rfl|cases h
def qN(K:FD):Sp:=λvs H Q _=>∃v m n,vs=[v,.int m]/\dk H v n/\Q (.bl (cF m v)) H
abbrev mQ:Stmt:=stq 32
def xT:FnScope ["thing","many"] ["thing","many"] (aA mQ):=⟨rfl,rfl,rfl,by decide +kernel,rfl,by decide +kernel,by decide +kernel⟩
def BJ{P:Program}{w:World}{K:FD}{mg:Str->Option Value}{base:Heap}(D:Dfn K mg "is_room" mQ ["thing","many"])(T:Blt mg)(C_is_whole:Cal P w K mg base "is_whole" 1 ["thing"] (jB K)):Cal P w K mg base "is_room" 2 ["thing","many"] (qN K):=by
 have nd:=(xT).nd;refine D.ok xT (λvs H Q E h=>?_) (λX hX H vs Q E h=>?_)
 ·obtain⟨i,m,n,rfl,_⟩:=h;rfl
 ·obtain⟨f,cdv,A,outer,s,H0,E0,rfl,hr⟩:=hX;obtain⟨v,m,n,rfl,hk,q⟩:=h;refine⟨_,(aj (aG (eQ (aD C_is_whole hr (aa (pv 0) ae)) (eY (pf jW f6 af (pv 0) (pv 1)))))),?_⟩;walk_at"";refine⟨v,n,rfl,hk,?_⟩;refine rd_exb ?_;cases hv:isInt v with
  | false=>
   refine aq ?_;rw[za hv]at q;exact q
  | true=>
   obtain⟨i,rfl⟩:=jG hv;refine ax ?_;walk_at"";unfold cF at q;dsimp only at q;cases h0:decide (0<=i)with
   | false=>
    refine aq ?_;rw[h0]at q;exact q
   | true=>
    refine ax ?_;walk_at"";rw[h0,Bool.true_and]at q;exact q
def rX(K:FD):Sp:=λvs H Q _=>∃v n,vs=[v]/\dk H v n/\Q (.bl (gG v)) H
abbrev pQ:Stmt:=stq 33
def uM:FnScope ["thing"] ["thing"] (aA pQ):=⟨rfl,rfl,rfl,by decide +kernel,rfl,by decide +kernel,by decide +kernel⟩
def Ey{P:Program}{w:World}{K:FD}{mg:Str->Option Value}{base:Heap}(D:Dfn K mg "is_deed" pQ ["thing"])(T:Blt mg)(g_TURNED:∃a,mg "TURNED" = some (.ref a)/\GDict w K a nS):Cal P w K mg base "is_deed" 1 ["thing"] (rX K):=by
 have nd:=(uM).nd;refine D.ok uM (λvs H Q E h=>?_) (λX hX H vs Q E h=>?_)
 ·obtain⟨z,n,rfl,_⟩:=h;rfl
 ·obtain⟨f,cdv,A,outer,s,H0,E0,rfl,hr⟩:=hX;obtain⟨a_TURNED,m_TURNED,d_TURNED⟩:=g_TURNED;obtain⟨v,n,rfl,hk,q⟩:=h;refine⟨_,(aj (aG (eQ (bq fY rfl T.isinstance_ PyProof.Rows.boot_isinstance (aa (pv 0) (aa (fu (v:=.ty "str") rfl T.str_ PyProof.Rows.boot_str rfl) ae))) (eY (Fh (zV rfl m_TURNED d_TURNED (pv 0)) (by with_unfolding_all rfl)))))),?_⟩;walk_at"";refine eR hk (yr hk) ?_;walk_at"";cases hv:isStr v with
  | false=>
   refine aq ?_;rw[zJ hv]at q;exact q
  | true=>
   obtain⟨z,rfl⟩:=isStr_of hv;refine ax ?_;walk_at"";exact⟨.inr z,rfl,q⟩
def si(K:FD):Sp:=λvs H Q _=>∃v n j,vs=[v]/\dk H v n/\bp H j v/\Q (.bl (gW v)) H
abbrev oX:Stmt:=stq 34
def yE:FnScope ["thing"] ["thing"] (aA oX):=⟨rfl,rfl,rfl,by decide +kernel,rfl,by decide +kernel,by decide +kernel⟩
def AB{P:Program}{w:World}{K:FD}{mg:Str->Option Value}{base:Heap}(D:Dfn K mg "is_sign" oX ["thing"])(T:Blt mg):Cal P w K mg base "is_sign" 1 ["thing"] (si K):=by
 have nd:=(yE).nd;refine D.ok yE (λvs H Q E h=>?_) (λX hX H vs Q E h=>?_)
 ·obtain⟨z,n,j,rfl,_⟩:=h;rfl
 ·obtain⟨f,cdv,A,outer,s,H0,E0,rfl,hr⟩:=hX;obtain⟨v,n,j,rfl,hk,ht,q⟩:=h;refine⟨_,(aj (aG (eQ (bq fY rfl T.isinstance_ PyProof.Rows.boot_isinstance (aa (pv 0) (aa (fu (v:=.ty "str") rfl T.str_ PyProof.Rows.boot_str rfl) ae))) (eQ (eG bX (bq zc rfl T.len_ PySem.boot_len (aa (pv 0) ae)) af (aP _)) (eY (pf uY uY az (pv 0) az)))))),?_⟩;walk_at"";refine eR hk (yr hk) ?_;walk_at"";cases hv:isStr v with
  | false=>
   refine aq ?_;rw[BP hv]at q;exact q
  | true=>
   obtain⟨z,rfl⟩:=isStr_of hv;refine ax ?_;walk_at"";refine⟨_,rfl,gD (Gh (show z.length<=1000 by cases j<;>exact ht) (by decide)),?_⟩;walk_at"";unfold gW kE at q;dsimp only at q;by_cases h1:z.length=1
   ·rw[GF (show((z.length:Nat):Int)=1 by omega)];refine ax ?_;walk_at"";rw[GF h1,Bool.true_and]at q;cases h2:!decide (z.cps.toList<(Gp "a").cps.toList)with
    | false=>
     refine aq ?_;rw[h2]at q;exact q
    | true=>
     refine ax ?_;walk_at"";rw[h2,Bool.true_and]at q;exact q
   ·rw[GD (show ¬((z.length:Nat):Int)=1 by omega)];refine aq ?_;rw[GD h1,Bool.false_and]at q;exact q
def fU(m:Int):List V->Bool
 | [a,b,c,d]=>cF m a && (cF m c && (gG b && gW d))
 | _=>false
def bP(H:Hp)(m:Int):V->Bool
 | .ref p=>match H p with
  | some (.tup xs)=>fU m xs
  | _=>false
 | _=>false
def tV{H:Hp}{m:Int}{v:V}(h:isTup H v=false):bP H m v=false:=by
 cases v with
 | ref p=>
  unfold isTup at h;unfold bP;dsimp only at h ⊢;split
  ·rename_i xs e;rw[e]at h;cases h
  ·rfl
 | _=>rfl
def eB{H:Hp}{m:Int}{p:Addr}{xs:List V}(h:H p=some (.tup xs)):bP H m (.ref p)=fU m xs:=by unfold bP;dsimp only;rw[h]
def qz{m:Int}{xs:List V}(h:xs.length≠4):fU m xs=false:=by
 unfold fU;split
 ·exact absurd rfl h
 ·rfl
def four{xs:List V}(h:xs.length=4):∃a b c d,xs=[a,b,c,d]:=by
 match xs,h with
 | [a,b,c,d],_=>exact⟨a,b,c,d,rfl⟩
def uR(K:FD):Sp:=λvs H Q _=>∃v m,vs=[v,.int m]/\bp H 2 v/\Q (.bl (bP H m v)) H
abbrev pO:Stmt:=stq 35
def qR:FnScope ["thing","many"] ["thing","many"] (aA pO):=⟨rfl,rfl,rfl,by decide +kernel,rfl,by decide +kernel,by decide +kernel⟩
def Bo{P:Program}{w:World}{K:FD}{mg:Str->Option Value}{base:Heap}(D:Dfn K mg "is_way" pO ["thing","many"])(T:Blt mg)(C_is_sign:Cal P w K mg base "is_sign" 1 ["thing"] (si K))(C_is_deed:Cal P w K mg base "is_deed" 1 ["thing"] (rX K))(C_is_room:Cal P w K mg base "is_room" 2 ["thing","many"] (qN K)):Cal P w K mg base "is_way" 3 ["thing","many"] (uR K):=by
 have nd:=(qR).nd;refine D.ok qR (λvs H Q E h=>?_) (λX hX H vs Q E h=>?_)
 ·obtain⟨p,m,rfl,_⟩:=h;rfl
 ·obtain⟨f,cdv,A,outer,s,H0,E0,rfl,hr⟩:=hX;obtain⟨v,m,rfl,ht,q⟩:=h;obtain⟨n,hk⟩:=ht.kind;refine⟨_,(ai (bD (PW.pt (dn (dh (bE (bq fY rfl T.isinstance_ PyProof.Rows.boot_isinstance (aa (pv 0) (aa (fu (v:=.ty "tuple") rfl T.tuple_ PyProof.Rows.boot_tuple rfl) ae))))) (eo (aT dG (bq (dD K) rfl T.len_ PySem.boot_len (aa (pv 0) ae)) af (aP _))))) (aj (aG bN)) aU)
    (ai (bD (PW.pt (dn (dh (bE (aD C_is_room hr (aa (ah (aH K) (pv 0) af (λ_ _=>rfl)) (aa (pv 1) ae))))) (eo (dh (bE (aD C_is_room hr (aa (ah (aH K) (pv 0) af (λ_ _=>rfl)) (aa (pv 1) ae)))))))) (aj (aG bN)) aU)
    (aj (aG (eQ (aD C_is_deed hr (aa (ah (aH K) (pv 0) af (λ_ _=>rfl)) ae)) (eY (aD C_is_sign hr (aa (ah (aH K) (pv 0) af (λ_ _=>rfl)) ae)))))))),?_⟩
  walk_at"";refine eR hk (pN hk) ?_;walk_at"";cases hv:isTup H v with
  | false=>
   refine ax ?_;walk_at"";rw[tV hv]at q;exact q
  | true=>
   refine aq ?_;obtain⟨p,xs,rfl,hp⟩:=kh hv;obtain⟨hx1,hx2⟩:=ht.items hp;rw[eB hp]at q;walk_at"";refine hJ (ao.of hp) ?_;walk_at"";by_cases h4:xs.length=4
   ·obtain⟨a,b,c,d,rfl⟩:=four h4;have ta:=hx2 a (by simp);have tb:=hx2 b (by simp);have tc:=hx2 c (by simp);have td:=hx2 d (by simp);obtain⟨ka,hka⟩:=ta.kind;obtain⟨kb,hkb⟩:=tb.kind;obtain⟨kc,hkc⟩:=tc.kind;obtain⟨kd,hkd⟩:=td.kind;unfold fU at q;dsimp only at q;refine aq ?_;walk_at"";refine aI (ao.of hp) (v:=a) rfl ?_;walk_at"";refine⟨a,m,ka,rfl,hka,?_⟩;walk_at"";cases ra:cF m a with
    | false=>
     refine ax ?_;walk_at"";rw[ra]at q;exact q
    | true=>
     refine aq ?_;walk_at"";refine aI (ao.of hp) (v:=c) rfl ?_;walk_at"";refine⟨c,m,kc,rfl,hkc,?_⟩;walk_at"";rw[ra,Bool.true_and]at q;cases rc:cF m c with
     | false=>
      refine ax ?_;walk_at"";rw[rc]at q;exact q
     | true=>
      refine aq ?_;walk_at"";refine aI (ao.of hp) (v:=b) rfl ?_;walk_at"";refine⟨b,kb,rfl,hkb,?_⟩;walk_at"";rw[rc,Bool.true_and]at q;cases rb:gG b with
      | false=>
       refine aq ?_;rw[rb]at q;exact q
      | true=>
       refine ax ?_;walk_at"";refine aI (ao.of hp) (v:=d) rfl ?_;walk_at"";rw[rb,Bool.true_and]at q;exact⟨d,kd,1,rfl,hkd,td,q⟩
   ·rw[qz h4]at q;rw[GD (show ¬((xs.length:Nat):Int)=4 by omega)];refine ax ?_;walk_at"";exact q
def bI{n:Nat}(h:n<=1000000):n<=sizeLine:=Gh h (by decide)
def aw{xs:List V}{H:Hp}{o:HO}{Q:VK}(h:∀p H',Ext H H'->H' p=some o->H p=none->Q (.ref p) H')(hz:xs.length<=1000000:=by simp):xs.length<=sizeLine/\eW H o Q:=⟨bI hz,cM h⟩
def nW(K:FD):Sp:=λvs H Q _=>∃(a:Addr) (ns:List Int) (k:Int),vs=[.ref a,.int k]/\ag K H a (ns.map V.int)/\ns.length<=63/\0<=k/\∀z,Q (.int z) H
def yB{ns:List Int}{i:Int}(h0:0<=i)(h:i<ns.length):∃z,bF (ns.map V.int) i=some (.int z)/\ns[i.toNat]?=some z:=by
 have hi:i.toNat<ns.length:=by omega
 refine⟨ns[i.toNat],fN h0 ?_,FI hi⟩;rw[FJ,FI hi];rfl
abbrev qw:Stmt:=stq 75
def uj:FnScope ["_law_script","_law_k"] ["_law_script","_law_k"] (aA qw):=⟨rfl,rfl,rfl,by decide +kernel,rfl,by decide +kernel,by decide +kernel⟩
def AZ{P:Program}{w:World}{K:FD}{mg:Str->Option Value}{base:Heap}(D:Dfn K mg "_law_cell" qw ["_law_script","_law_k"])(T:Blt mg):Cal P w K mg base "_law_cell" 1 ["_law_script","_law_k"] (nW K):=by
 have nd:=(uj).nd;refine D.ok uj (λvs H Q E h=>?_) (λX hX H vs Q E h=>?_)
 ·obtain⟨a,ns,k,rfl,_⟩:=h;rfl
 ·obtain⟨f,cdv,A,outer,s,H0,E0,rfl,hr⟩:=hX;obtain⟨a,ns,k,rfl,ha,hl,hk,q⟩:=h;refine⟨_,(ai (bD (aT bX (bq (dD K) rfl T.len_ PySem.boot_len (aa (pv 0) ae)) af (aP _)) (aj (aG (av ef af (av aY (pv 1) af)))) aU)
    (ai (bD (aT f6 (pv 1) (bq (dD K) rfl T.len_ PySem.boot_len (aa (pv 0) ae)) (aP _)) (aj (aG (ah (aF K) (pv 0) (pv 1) (λ_ _=>rfl)))) aU)
    (aj (aG (av aY (ah (aF K) (pv 0) (av cj (pv 1) (bq (dD K) rfl T.len_ PySem.boot_len (aa (pv 0) ae))) (λ_ _=>rfl)) (av ef af (pv 1))))))),?_⟩
  walk_at"";refine gC ha ?_;walk_at"";rw[FH];by_cases h0:(ns.length:Int)=0
  ·rw[GF h0];refine ax ?_;walk_at"";exact q _
  ·rw[GD h0];refine aq ?_;walk_at"";refine gC ha ?_;walk_at"";rw[FH];by_cases h1:k<ns.length
   ·rw[GF h1];refine ax ?_;obtain⟨z,hz,_⟩:=yB hk h1;walk_at"";refine aE ha hz ?_;exact q _
   ·rw[GD h1];refine aq ?_;walk_at"";refine gC ha ?_;rw[FH];have hp:(0:Int)<ns.length:=by omega
    refine rd_I hp ?_;obtain⟨z,hz,_⟩:=yB (ns:=ns) (Int.emod_nonneg k (by omega)) (Int.emod_lt_of_pos k hp);refine aE ha hz ?_;walk_at"";exact q _
def vJ(K:FD):Sp:=λvs H Q _=>∃c k p,vs=[.int c,.int k,.int p]/\0<=k/\k<100000/\0<p/\∀z,0<=z->z<p->Q (.int z) H
abbrev mV:Stmt:=stq 67
def uG:FnScope ["_law_cell_here","_law_k","_law_prime","_law_far"] ["_law_cell_here","_law_k","_law_prime"] (aA mV):=⟨rfl,rfl,rfl,by decide +kernel,rfl,by decide +kernel,by decide +kernel⟩
def DX{P:Program}{w:World}{K:FD}{mg:Str->Option Value}{base:Heap}(D:Dfn K mg "_law_mixed" mV ["_law_cell_here","_law_k","_law_prime"])(T:Blt mg):Cal P w K mg base "_law_mixed" 1 ["_law_cell_here","_law_k","_law_prime"] (vJ K):=by
 have nd:=(uG).nd;refine D.ok uG (λvs H Q E h=>?_) (λX hX H vs Q E h=>?_)
 ·obtain⟨c,k,p,rfl,_⟩:=h;rfl
 ·obtain⟨f,cdv,A,outer,s,H0,E0,rfl,hr⟩:=hX;obtain⟨c,k,p,rfl,hk,hk2,hp,q⟩:=h;refine⟨_,(ai (aM (i:=3) nd rfl (Or.inl rfl) (av cj (av ef (av aY (av aY (av aY (pv 0) (av ef (av ef af (pv 1)) (pv 1))) (av ef af (pv 1))) af) af) af))
    (ai (aM (i:=3) nd rfl (Or.inl rfl) (av cj (av ef (pv 3) (pv 3)) af))
    (aj (aG (av cj (av ef (pv 3) af) (pv 2)))))),?_⟩
  walk_at"";exact q _ (Int.emod_nonneg _ (by omega)) (Int.emod_lt_of_pos _ hp)
def cR{H H2:Hp}{q:Addr}{o:HO}(e:Ext H H2)(hq:H q=none):Ext H (upd H2 q o):=λb u hb=>by rw[aC (cw hb hq)];exact e b u hb
def gn(K:FD):Sp:=λvs H Q _=>∃(c:Int) (w:Addr) (ws:List Int) (p:Int),vs=[.int c,.ref w,.int p]/\H w=some (.lst (ws.map V.int))/\(∀x∈ws,0<x/\x<2 ^ 40)/\ws.length<=10000/\0<p ∧
 ∀(q:Addr) (ds:List Int) (H':Hp),Ext H H'->H' q=some (.lst (ds.map V.int))->H q=none->ds.length=ws.length->(∀(i:Nat) d x,ds[i]?=some d->ws[i]?=some x->0<=d/\d<x)->Q (.ref q) H'
def iG{K:FD}{H:Hp}{c:Int}{w:Addr}{p:Int}{Q:VK}{xe:XK}(ws:List Int)(h1:H w=some (.lst (ws.map V.int)))(h2:∀x∈ws,0<x/\x<2 ^ 40)(h3:ws.length<=10000)(h4:0<p)
  (k:∀(q:Addr) (ds:List Int) (H':Hp),Ext H H'->H' q=some (.lst (ds.map V.int))->H q=none->ds.length=ws.length->(∀(i:Nat) d x,ds[i]?=some d->ws[i]?=some x->0<=d/\d<x)->Q (.ref q) H'):gn K [.int c,.ref w,.int p] H Q xe:=⟨c,w,ws,p,rfl,h1,h2,h3,h4,k⟩
abbrev mD:Stmt:=stq 68
def uQ:FnScope ["_law_cell_here","_law_widths","_law_prime","_law_left","_law_found","_law_k"] ["_law_cell_here","_law_widths","_law_prime"] (aA mD):=⟨rfl,rfl,rfl,by decide +kernel,rfl,by decide +kernel,by decide +kernel⟩
def Aa{P:Program}{w:World}{K:FD}{mg:Str->Option Value}{base:Heap}(D:Dfn K mg "_law_draws" mD ["_law_cell_here","_law_widths","_law_prime"])(T:Blt mg)(C__law_mixed:Cal P w K mg base "_law_mixed" 1 ["_law_cell_here","_law_k","_law_prime"] (vJ K)):Cal P w K mg base "_law_draws" 2 ["_law_cell_here","_law_widths","_law_prime"] (gn K):=by
 have nd:=(uQ).nd;refine D.ok uQ (λvs H Q E h=>?_) (λX hX H vs Q E h=>?_)
 ·obtain⟨c,w,ws,p,rfl,_⟩:=h;rfl
 ·obtain⟨f,cdv,A,outer,s,H0,E0,rfl,hr⟩:=hX;obtain⟨c,w,ws,p,rfl,hw,hpos,hlen,hp,q⟩:=h;refine⟨_,(ai (aM (i:=3) nd rfl (Or.inl rfl) af)
    (ai (cE (aT og (pv 0) (av fQ af af) (aP _)) (aj (aM (i:=3) nd rfl (Or.inl rfl) (av cU (pv 0) (av fQ af af)))) aU)
    (ai (aM (i:=4) nd rfl (Or.inl rfl) (bo ae))
    (ai (bV PassesOwn.never rfl (cB rfl T.range_ (aa (bq (dD K) rfl T.len_ PySem.boot_len (aa (pv 1) ae)) ae)) (aS (i:=5) nd rfl (Or.inl rfl)) (aj (cE (aT fK (pv 3) af (aP _)) (ai (aZ (bC K FP F6 F7 bL (pv 4) (aa (av cj (pv 3) (ah (aF K) (pv 1) (pv 5) (λ_ _=>rfl))) ae)))
    (aj (aM (i:=3) nd rfl (Or.inl rfl) (av sk (pv 3) (ah (aF K) (pv 1) (pv 5) (λ_ _=>rfl)))))) (aj (aZ (bC K FP F6 F7 bL (pv 4) (aa (av cj (aD C__law_mixed hr (aa (pv 0) (aa (pv 5) (aa (pv 2) ae)))) (ah (aF K) (pv 1) (pv 5) (λ_ _=>rfl))) ae)))))))
    (aj (aG (pv 4))))))),?_⟩
  walk_at"";refine jE (λσ' H'=>H'=H/\∃l,σ'=[some (.int c),some (.ref w),some (.int p),some (.int l),none,none]) ?_ ?_
  ·walk_at"";refine fW (λh=>?_) (λh=>?_)
   ·walk_at"";exact⟨rfl,_,rfl⟩
   ·walk_at"";exact⟨rfl,_,rfl⟩
  rintro σ' H' ⟨rfl,l,rfl⟩;walk_at"";refine aw λf H1 e1 hf hfn=>?_;walk_at"";refine gC (ag.of (e1 _ _ hw)) ?_;rw[FH];walk_at"";refine ck (by omega) ?_;refine forR (λi σ H2=>Ext H' H2/\∃(l:Int) (k:Option V) (ds:List Int),σ=[some (.int c),some (.ref w),some (.int p),some (.int l),some (.ref f),k]/\H2 f=some (.lst (ds.map V.int))/\ds.length=i/\∀(i:Nat) d x,ds[i]?=some d->ws[i]?=some x->0<=d/\d<x)
   ⟨e1,l,none,[],rfl,hf,rfl,λi d x hd=>by simp at hd⟩ ?_ ?_
  ·rintro i σ H2 hi ⟨e2,l,k,ds,rfl,hf2,hds,hb⟩;rw[FV]at hi;have hwi:ws[i]?=some ws[i]:=FI hi;have hx:=hpos ws[i] (Gb hi);have hat:bF (ws.map V.int) (0+(i:Int))=some (.int ws[i]):=by rw[Int.zero_add];exact fE (by rw[FJ,hwi];rfl)
   have next:∀d,0<=d->d<ws[i]->∀(j:Nat) (d' x:Int),(ds++[d])[j]?=some d'->ws[j]?=some x->0<=d'/\d'<x:=λd h0 h1 j d' x hj hx'=>by
    rcases Gw j ds.length with h|h
    ·rw[Ga h]at hj;exact hb j d' x hj hx'
    ·rw[F9 h]at hj;have hj0:j-ds.length=0:=by
      rcases Nat.eq_zero_or_pos (j-ds.length)with h|h
      ·exact h
      ·rw[List.getElem?_eq_none (by simp;omega)]at hj;cases hj
     rw[hj0]at hj;have hji:j=i:=by omega
     subst hji;rw[hwi]at hx';cases hx';have:d=d':=by simpa using hj
     rw[←this];exact⟨h0,h1⟩
   walk_at"";refine bt ?_;walk_at"";refine fW (λh=>?_) (λh=>?_)
   ·have h':1<l:=by simpa using h
    walk_at"";refine⟨cH (ag.of hf2),?_⟩;walk_at"";refine aE (ag.of (e2 _ _ hw)) hat ?_;refine rd_I (show 0<ws[i] by omega) ?_;walk_at"";refine bT hf2 (by rw[FH];exact Nat.lt_of_le_of_lt (show ds.length<=10000 by omega) (by decide)) ?_;walk_at"";refine aE (ag.of (cR e2 hfn _ _ hw)) hat ?_;refine rd_I (show 0<ws[i]/\ws[i]<2 ^ 64 by omega) ?_;walk_at"";refine⟨cR e2 hfn,_,_,ds++[l % ws[i]],rfl,?_,by rw[F0,hds];rfl,next _ (Int.emod_nonneg _ (by omega)) (Int.emod_lt_of_pos _ (by omega))⟩;rw[aN,FZ];rfl
   ·walk_at"";refine⟨cH (ag.of hf2),?_⟩;walk_at"";refine⟨c,0+(i:Int),p,rfl,by omega,by omega,hp,λz hz0 hz1=>?_⟩;walk_at"";refine aE (ag.of (e2 _ _ hw)) hat ?_;refine rd_I (show 0<ws[i] by omega) ?_;walk_at"";refine bT hf2 (by rw[FH];exact Nat.lt_of_le_of_lt (show ds.length<=10000 by omega) (by decide)) ?_;walk_at"";refine⟨cR e2 hfn,_,_,ds++[z % ws[i]],rfl,?_,by rw[F0,hds];rfl,next _ (Int.emod_nonneg _ (by omega)) (Int.emod_lt_of_pos _ (by omega))⟩;rw[aN,FZ];rfl
  ·rintro σ H2 ⟨e2,l,k,ds,rfl,hf2,hds,hb⟩;walk_at"";exact q f ds H2 e2 hf2 hfn (by rw[hds,FV]) hb
def qU(K:FD):Sp:=λvs H Q _=>∃c w,vs=[.int c,.int w]/\0<w/\w<2 ^ 64/\∀z,Q (.int z) H
abbrev pM:Stmt:=stq 69
def vN:FnScope ["_law_cell_here","_law_width"] ["_law_cell_here","_law_width"] (aA pM):=⟨rfl,rfl,rfl,by decide +kernel,rfl,by decide +kernel,by decide +kernel⟩
def Bl{P:Program}{w:World}{K:FD}{mg:Str->Option Value}{base:Heap}(D:Dfn K mg "_law_spare" pM ["_law_cell_here","_law_width"])(T:Blt mg):Cal P w K mg base "_law_spare" 1 ["_law_cell_here","_law_width"] (qU K):=by
 have nd:=(vN).nd;refine D.ok vN (λvs H Q E h=>?_) (λX hX H vs Q E h=>?_)
 ·obtain⟨c,w,rfl,_⟩:=h;rfl
 ·obtain⟨f,cdv,A,outer,s,H0,E0,rfl,hr⟩:=hX;obtain⟨c,w,rfl,h1,h2,q⟩:=h;refine⟨_,(ai (bD (aT og (pv 0) (av fQ af af) (aP _)) (aj (aG (av aY (av sk (av cU (pv 0) (av fQ af af)) (pv 1)) (av fQ af af)))) aU)
    (aj (aG (av aY (pv 0) af)))),?_⟩
  walk_at"";refine fW (λh=>?_) (λh=>?_)
  ·walk_at"";exact q _
  ·walk_at"";exact q _
def Kn(H:Hp):Nat->V->Prop
 | 0,v=>∃n,dk H v n
 | d+1,v=>(∃n,dk H v n)/\∀p xs,v=.ref p->H p=some (.tup xs)->∀x∈xs,Kn H d x
def yi{H:Hp}{v:V}{n:String}(h:dk H v n):(∃p xs,v=.ref p/\H p=some (.tup xs)/\n = "tuple")\/(fS n "tuple" = some false/\∀p xs,v=.ref p->H p≠some (.tup xs)):=by
 cases v with
 | non=>cases(show n = "NoneType" from h);exact .inr ⟨rfl,λp xs e=>nomatch e⟩
 | bl b=>cases(show n = "bool" from h);exact .inr ⟨rfl,λp xs e=>nomatch e⟩
 | int i=>cases(show n = "int" from h);exact .inr ⟨rfl,λp xs e=>nomatch e⟩
 | str z=>cases(show n = "str" from h);exact .inr ⟨rfl,λp xs e=>nomatch e⟩
 | ref a=>
  rcases h with⟨rfl,xs,e⟩|⟨rfl,xs,e⟩
  ·exact .inr ⟨rfl,λp ys q z=>by cases q;rw[e]at z;cases z⟩
  ·exact .inl ⟨a,xs,rfl,e,rfl⟩
 | _=>exact False.elim h
def fh(lo hi:Int):List V->Bool
 | []=>true
 | .int i::r=>decide (lo<=i) && decide (i<hi) && fh (i+1) hi r
 | _::_=>false
def dJ(H:Hp)(lo hi:Int):V->Bool
 | .ref p=>match H p with
  | some (.tup xs)=>fh lo hi xs
  | _=>false
 | _=>false
def qJ{H:Hp}{lo hi:Int}{p:Addr}{xs:List V}(h:H p=some (.tup xs)):dJ H lo hi (.ref p)=fh lo hi xs:=by simp only[dJ,h]
def CD{H:Hp}{lo hi:Int}{v:V}(h:∀p xs,v=.ref p->H p≠some (.tup xs)):dJ H lo hi v=false:=by
 cases v with
 | ref p=>
  cases e:H p with
  | none=>simp only[dJ,e]
  | some o=>
   cases o with
   | tup xs=>exact absurd e (h p xs rfl)
   | _=>simp only[dJ,e]
 | _=>rfl
def CY{lo hi:Int}{x:V}{r:List V}(h:isInt x=false):fh lo hi (x::r)=false:=by cases x<;>first|rfl|cases h
def ve(K:FD):Sp:=λvs H Q _=>∃v lo hi,vs=[v,.int lo,.int hi]/\Kn H 1 v/\Q (.bl (dJ H lo hi v)) H
abbrev qG:Stmt:=stq 17
def uB:FnScope ["thing","low","end","lowest","number"] ["thing","low","end"] (aA qG):=⟨rfl,rfl,rfl,by decide +kernel,rfl,by decide +kernel,by decide +kernel⟩
def CM{P:Program}{w:World}{K:FD}{mg:Str->Option Value}{base:Heap}(D:Dfn K mg "is_rising_row" qG ["thing","low","end"])(T:Blt mg)(C_is_whole:Cal P w K mg base "is_whole" 1 ["thing"] (jB K)):Cal P w K mg base "is_rising_row" 2 ["thing","low","end"] (ve K):=by
 have nd:=(uB).nd;refine D.ok uB (λvs H Q E h=>?_) (λX hX H vs Q E h=>?_)
 ·obtain⟨v,lo,hi,rfl,_⟩:=h;rfl
 ·obtain⟨f,cdv,A,outer,s,H0,E0,rfl,hr⟩:=hX;obtain⟨v,lo,hi,rfl,hk,q⟩:=h;obtain⟨n,hn⟩:=hk.1;refine⟨_,(ai (bD (dh (bE (bq fY rfl T.isinstance_ PyProof.Rows.boot_isinstance (aa (pv 0) (aa (fu (v:=.ty "tuple") rfl T.tuple_ PyProof.Rows.boot_tuple rfl) ae))))) (aj (aG bN)) aU)
    (ai (aM (i:=3) nd rfl (Or.inl rfl) (pv 1))
    (ai (bV PassesOwn.never rfl (kR K (pv 0)) (aS (i:=4) nd rfl (Or.inl rfl)) (ai (bD (PW.pt (dn (dh (bE (aD C_is_whole hr (aa (pv 4) ae)))) (dn (aT f6 (pv 4) (pv 3) (aP _)) (eo (aT og (pv 4) (pv 2) (aP _)))))) (aj (aG bN)) aU)
    (aj (aM (i:=3) nd rfl (Or.inl rfl) (av aY (pv 4) af)))))
    (aj (aG bN))))),?_⟩
  walk_at"";rcases yi hn with⟨p,xs,rfl,hp,rfl⟩|⟨hf,hno⟩
  ·refine eR hn (b:=true) rfl ?_;walk_at"";refine aq ?_;walk_at"";refine lE (ao.of hp) ?_;rw[qJ hp]at q;refine yx (xs:=xs) (λi σ H'=>H'=H/\∃lw w,σ=[some (.ref p),some (.int lo),some (.int hi),some (.int lw),w]/\fh lo hi xs=fh lw hi (xs.drop i))
    ⟨rfl,lo,none,rfl,rfl⟩ (λi σ H' _ h=>by rw[h.1];exact ao.of hp) ?_ ?_
   ·rintro i x σ H' hx ⟨rfl,lw,w,rfl,e⟩;have hd:xs.drop i=x::xs.drop (i+1):=by obtain⟨hi',rfl⟩:=FQ.mp hx;exact List.drop_eq_getElem_cons hi'
    rw[hd]at e;obtain⟨m,hm⟩:=hk.2 p xs rfl hp x (FR hx);walk_at"";refine⟨x,m,rfl,hm,?_⟩;walk_at"";cases hx':isInt x with
    | false=>
     refine ax (ax ?_);walk_at"";rw[e,CY hx']at q;exact q
    | true=>
     obtain⟨z,rfl⟩:=jG hx';refine aq ?_;walk_at"";have e':fh lo hi xs=(decide (lw<=z) && decide (z<hi) && fh (z+1) hi (xs.drop (i+1))):=e;by_cases h1:z<lw
     ·rw[GF h1];refine ax (ax ?_);walk_at"";rw[e',GD (show ¬lw<=z by omega)]at q;exact q
     ·rw[GD h1];refine aq ?_;walk_at"";by_cases h2:hi<=z
      ·rw[GF h2];refine ax ?_;walk_at"";rw[e',GD (show ¬z<hi by omega),Bool.and_false,Bool.false_and]at q;exact q
      ·rw[GD h2];refine aq ?_;walk_at"";refine⟨rfl,z+1,_,rfl,?_⟩;rw[e',GF (show lw<=z by omega),GF (show z<hi by omega)];rfl
   ·rintro σ H' ⟨rfl,lw,w,rfl,e⟩;walk_at"";rw[e,List.drop_length]at q;exact q
  ·refine eR hn hf ?_;walk_at"";refine ax ?_;walk_at"";rw[CD hno]at q;exact q
def iB(H:Hp):V->V->V->V->Bool
 | .int b,.int s,o,a=>decide (0<=b) && decide (1<=s) && dJ H 0 b o && dJ H b (b+s) a
 | _,_,_,_=>false
def DW{H:Hp}{b s o a:V}(h:isInt b=false):iB H b s o a=false:=by cases b<;>first|rfl|cases h
def zS{H:Hp}{b s o a:V}(h:isInt s=false):iB H b s o a=false:=by cases s<;>first|(cases b<;>rfl)|cases h
def sN(K:FD):Sp:=λvs H Q _=>∃b s o a,vs=[b,s,o,a]/\Kn H 0 b/\Kn H 0 s/\Kn H 1 o/\Kn H 1 a/\Q (.bl (iB H b s o a)) H
abbrev qr:Stmt:=stq 18
def rJ:FnScope ["base","step","once","again"] ["base","step","once","again"] (aA qr):=⟨rfl,rfl,rfl,by decide +kernel,rfl,by decide +kernel,by decide +kernel⟩
def AF{P:Program}{w:World}{K:FD}{mg:Str->Option Value}{base:Heap}(D:Dfn K mg "are_stair_places" qr ["base","step","once","again"])(T:Blt mg)(C_is_rising_row:Cal P w K mg base "is_rising_row" 2 ["thing","low","end"] (ve K))(C_is_whole:Cal P w K mg base "is_whole" 1 ["thing"] (jB K)):Cal P w K mg base "are_stair_places" 3 ["base","step","once","again"] (sN K):=by
 have nd:=(rJ).nd;refine D.ok rJ (λvs H Q E h=>?_) (λX hX H vs Q E h=>?_)
 ·obtain⟨b,s,o,a,rfl,_⟩:=h;rfl
 ·obtain⟨f,cdv,A,outer,s,H0,E0,rfl,hr⟩:=hX;obtain⟨b,s',o,a,rfl,⟨nb,hb⟩,⟨ns,hs⟩,ho,ha,q⟩:=h;refine⟨_,(ai (bD (PW.pt (dn (dh (bE (aD C_is_whole hr (aa (pv 0) ae)))) (dn (dh (bE (aD C_is_whole hr (aa (pv 1) ae)))) (dn (aT f6 (pv 0) af (aP _)) (eo (aT f6 (pv 1) af (aP _))))))) (aj (aG bN)) aU)
    (aj (aG (eQ (aD C_is_rising_row hr (aa (pv 2) (aa af (aa (pv 0) ae)))) (eY (aD C_is_rising_row hr (aa (pv 3) (aa (pv 0) (aa (av aY (pv 0) (pv 1)) ae))))))))),?_⟩
  walk_at"";refine⟨b,nb,rfl,hb,?_⟩;walk_at"";cases ib:isInt b with
  | false=>
   refine ax (ax ?_);walk_at"";rw[DW ib]at q;exact q
  | true=>
   refine aq ?_;walk_at"";refine⟨s',ns,rfl,hs,?_⟩;walk_at"";cases is':isInt s' with
   | false=>
    refine ax (ax ?_);walk_at"";rw[zS is']at q;exact q
   | true=>
    obtain⟨zb,rfl⟩:=jG ib;obtain⟨zs,rfl⟩:=jG is';refine aq ?_;walk_at"";have e:iB H (.int zb) (.int zs) o a=(decide (0<=zb) && decide (1<=zs) && dJ H 0 zb o && dJ H zb (zb+zs) a):=rfl;by_cases h1:zb<0
    ·rw[GF h1];refine ax (ax ?_);walk_at"";rw[e,GD (show ¬0<=zb by omega)]at q;exact q
    ·rw[GD h1];refine aq ?_;walk_at"";by_cases h2:zs<1
     ·rw[GF h2];refine ax ?_;walk_at"";rw[e,GD (show ¬1<=zs by omega),Bool.and_false,Bool.false_and,Bool.false_and]at q;exact q
     ·rw[GD h2];refine aq ?_;walk_at"";refine⟨o,0,zb,rfl,ho,?_⟩;walk_at"";rw[e,GF (show 0<=zb by omega),GF (show 1<=zs by omega)]at q;cases ho':dJ H 0 zb o with
      | false=>
       refine aq ?_;rw[ho']at q;exact q
      | true=>
       refine ax ?_;walk_at"";refine⟨a,zb,zb+zs,rfl,ha,?_⟩;rw[ho']at q;exact q
def fD(H:Hp):V->Bool
 | .ref p=>match H p with
  | some (.tup [b,s,o,a])=>iB H b s o a
  | _=>false
 | _=>false
def wz{H:Hp}{p:Addr}{b s o a:V}(h:H p=some (.tup [b,s,o,a])):fD H (.ref p)=iB H b s o a:=by simp only[fD,h]
def zC{H:Hp}{p:Addr}{xs:List V}(h:H p=some (.tup xs))(hl:xs.length≠4):fD H (.ref p)=false:=by
 simp only[fD,h]
 match xs,hl with
 | [],_=>rfl
 | [_],_=>rfl
 | [_,_],_=>rfl
 | [_,_,_],_=>rfl
 | [_,_,_,_],hl=>exact absurd rfl hl
 | _::_::_::_::_::_,_=>rfl
def Bb{H:Hp}{v:V}(h:∀p xs,v=.ref p->H p≠some (.tup xs)):fD H v=false:=by
 cases v with
 | ref p=>
  cases e:H p with
  | none=>simp only[fD,e]
  | some o=>
   cases o with
   | tup xs=>exact absurd e (h p xs rfl)
   | _=>simp only[fD,e]
 | _=>rfl
def yj(K:FD):Sp:=λvs H Q _=>∃v,vs=[v]/\Kn H 2 v/\Q (.bl (fD H v)) H
def Fq{xs:List V}(h:xs.length=4):∃b s o a,xs=[b,s,o,a]:=by
 match xs,h with
 | [b,s,o,a],_=>exact⟨b,s,o,a,rfl⟩
def Kn.down{H:Hp}{v:V}(h:Kn H 1 v):Kn H 0 v:=h.1
abbrev oF:Stmt:=stq 19
def uU:FnScope ["thing"] ["thing"] (aA oF):=⟨rfl,rfl,rfl,by decide +kernel,rfl,by decide +kernel,by decide +kernel⟩
def Dd{P:Program}{w:World}{K:FD}{mg:Str->Option Value}{base:Heap}(D:Dfn K mg "is_stair" oF ["thing"])(T:Blt mg)(C_are_stair_places:Cal P w K mg base "are_stair_places" 3 ["base","step","once","again"] (sN K)):Cal P w K mg base "is_stair" 4 ["thing"] (yj K):=by
 have nd:=(uU).nd;refine D.ok uU (λvs H Q E h=>?_) (λX hX H vs Q E h=>?_)
 ·obtain⟨v,rfl,_⟩:=h;rfl
 ·obtain⟨f,cdv,A,outer,s,H0,E0,rfl,hr⟩:=hX;obtain⟨v,rfl,hk,q⟩:=h;obtain⟨n,hn⟩:=hk.1;refine⟨_,(ai (bD (PW.pt (dn (dh (bE (bq fY rfl T.isinstance_ PyProof.Rows.boot_isinstance (aa (pv 0) (aa (fu (v:=.ty "tuple") rfl T.tuple_ PyProof.Rows.boot_tuple rfl) ae))))) (eo (aT dG (bq (dD K) rfl T.len_ PySem.boot_len (aa (pv 0) ae)) af (aP _))))) (aj (aG bN)) aU)
    (aj (aG (aD C_are_stair_places hr (aa (ah (aH K) (pv 0) af (λ_ _=>rfl)) (aa (ah (aH K) (pv 0) af (λ_ _=>rfl)) (aa (ah (aH K) (pv 0) af (λ_ _=>rfl)) (aa (ah (aH K) (pv 0) af (λ_ _=>rfl)) ae)))))))),?_⟩
  walk_at"";rcases yi hn with⟨p,xs,rfl,hp,rfl⟩|⟨hf,hno⟩
  ·refine eR hn (b:=true) rfl ?_;walk_at"";refine aq ?_;walk_at"";refine hJ (ao.of hp) ?_;walk_at"";by_cases hl:xs.length=4
   ·obtain⟨b,s',o,a,rfl⟩:=Fq hl;refine aq ?_;walk_at"";refine aI (ao.of hp) rfl ?_;walk_at"";refine aI (ao.of hp) rfl ?_;walk_at"";refine aI (ao.of hp) rfl ?_;walk_at"";refine aI (ao.of hp) rfl ?_;walk_at"";have hi:=hk.2 p _ rfl hp;rw[wz hp]at q;exact⟨b,s',o,a,rfl,(hi b (by simp)).down,(hi s' (by simp)).down,hi o (by simp),hi a (by simp),q⟩
   ·rw[GD (show ¬((xs.length:Nat):Int)=4 by omega)];refine ax ?_;walk_at"";rw[zC hp hl]at q;exact q
  ·refine eR hn hf ?_;walk_at"";refine ax (ax ?_);walk_at"";rw[Bb hno]at q;exact q
def dg(H:Hp)(v:V)(b s:Int)(o a:List Int):Prop:=∃p q r,v=.ref p/\H p=some (.tup [.int b,.int s,.ref q,.ref r])/\H q=some (.tup (o.map V.int))/\H r=some (.tup (a.map V.int))
structure Gd(b s:Int)(o a:List Int):Prop where
 ok:Ok b s o a
 b3:b<=3000
 s8:s<=840
def dg.ext{H H':Hp}{v:V}{b s:Int}{o a:List Int}(e:Ext H H')(h:dg H v b s o a):dg H' v b s o a:=by obtain⟨p,q,r,rfl,h1,h2,h3⟩:=h;exact⟨p,q,r,rfl,e _ _ h1,e _ _ h2,e _ _ h3⟩
def Bw{lo hi x:Int}{r:List Int}:ie lo hi (x::r)↔lo<=x/\x<hi/\ie (x+1) hi r:=by
 constructor
 ·rintro⟨h1,h2⟩;obtain⟨p1,p2⟩:=List.pairwise_cons.mp h1;have hx:=h2 x FO;exact⟨hx.1,hx.2,p2,λz hz=>⟨by have:=p1 z hz;omega,(h2 z (FK _ hz)).2⟩⟩
 ·rintro⟨h1,h2,h3,h4⟩;refine⟨List.pairwise_cons.mpr ⟨λz hz=>by have:=h4 z hz;omega,h3⟩,λz hz=>?_⟩;rcases FX.mp hz with rfl|hz
  ·exact⟨h1,h2⟩
  ·have:=h4 z hz;exact⟨by omega,this.2⟩
def mZ{hi:Int}:∀{lo:Int} {xs:List Int},fh lo hi (xs.map V.int)=true↔ie lo hi xs
 | lo,[]=>⟨λ_=>⟨List.Pairwise.nil,λx hx=>by simp at hx⟩,λ_=>rfl⟩
 | lo,x::r=>by rw[Bw,←mZ (lo:=x+1) (xs:=r)];show(decide (lo<=x) && decide (x<hi) && fh (x+1) hi (r.map V.int))=true↔_;simp[and_assoc]
def dg.yes{H:Hp}{v:V}{b s:Int}{o a:List Int}(h:dg H v b s o a)(k:Ok b s o a):fD H v=true:=by obtain⟨p,q,r,rfl,h1,h2,h3⟩:=h;rw[wz h1];show(decide (0<=b) && decide (1<=s) && dJ H 0 b (.ref q) && dJ H b (b+s) (.ref r))=true;rw[qJ h2,qJ h3,mZ.mpr k.ho,mZ.mpr k.ha,GF k.hb,GF k.hs];rfl
def uN{H:Hp}{q:Addr}{xs:List Int}(h:H q=some (.tup (xs.map V.int))):Kn H 1 (.ref q):=by refine⟨⟨"tuple",.inr ⟨rfl,_,h⟩⟩,λp ys e z x hx=>?_⟩;cases e;rw[h]at z;cases z;obtain⟨i,_,rfl⟩:=List.mem_map.mp hx;exact⟨"int",rfl⟩
def dg.kn{H:Hp}{v:V}{b s:Int}{o a:List Int}(h:dg H v b s o a):Kn H 2 v:=by
 obtain⟨p,q,r,rfl,h1,h2,h3⟩:=h;refine⟨⟨"tuple",.inr ⟨rfl,_,h1⟩⟩,λp' ys e z x hx=>?_⟩;cases e;rw[h1]at z;cases z;simp only[FX,Gi,or_false]at hx;rcases hx with rfl|rfl|rfl|rfl
 ·exact⟨⟨"int",rfl⟩,λ_ _ e=>nomatch e⟩
 ·exact⟨⟨"int",rfl⟩,λ_ _ e=>nomatch e⟩
 ·exact uN h2
 ·exact uN h3
def wQ(K:FD):Sp:=λvs H Q _=>∃v,vs=[v]/\Kn H 2 v/\fD H v=true/\Q .non H
abbrev oN:Stmt:=stq 20
def v7:FnScope ["thing"] ["thing"] (aA oN):=⟨rfl,rfl,rfl,by decide +kernel,rfl,by decide +kernel,by decide +kernel⟩
def Ak{P:Program}{w:World}{K:FD}{mg:Str->Option Value}{base:Heap}(D:Dfn K mg "refuse_no_stair" oN ["thing"])(T:Blt mg)(C_is_stair:Cal P w K mg base "is_stair" 4 ["thing"] (yj K)):Cal P w K mg base "refuse_no_stair" 5 ["thing"] (wQ K):=by
 have nd:=(v7).nd;refine D.ok v7 (λvs H Q E h=>?_) (λX hX H vs Q E h=>?_)
 ·obtain⟨v,rfl,_⟩:=h;rfl
 ·obtain⟨f,cdv,A,outer,s,H0,E0,rfl,hr⟩:=hX;obtain⟨v,rfl,hk,hv,q⟩:=h;refine⟨_,(aj (bD (dh (bE (aD C_is_stair hr (aa (pv 0) ae)))) (aj o8) aU)),?_⟩;walk_at"";refine⟨v,rfl,hk,?_⟩;walk_at"";rw[hv];exact aq q
def uc(K:FD):Sp:=λvs H Q _=>∃v b s o a,vs=[v]/\dg H v b s o a/\b<=3000/\s<=840/\Q .non H
abbrev oZ:Stmt:=stq 21
def qV:FnScope ["stair"] ["stair"] (aA oZ):=⟨rfl,rfl,rfl,by decide +kernel,rfl,by decide +kernel,by decide +kernel⟩
def yX{P:Program}{w:World}{K:FD}{mg:Str->Option Value}{base:Heap}(D:Dfn K mg "refuse_great_stair" oZ ["stair"])(T:Blt mg)(g_GREATEST_STEP:∃t,mg "GREATEST_STEP" = some (.int 840 t))(g_GREATEST_BASE:∃t,mg "GREATEST_BASE" = some (.int 3000 t)):Cal P w K mg base "refuse_great_stair" 1 ["stair"] (uc K):=by
 have nd:=(qV).nd;refine D.ok qV (λvs H Q E h=>?_) (λX hX H vs Q E h=>?_)
 ·obtain⟨v,b,s,o,a,rfl,_⟩:=h;rfl
 ·obtain⟨f,cdv,A,outer,s,H0,E0,rfl,hr⟩:=hX;obtain⟨t_GREATEST_STEP,c_GREATEST_STEP⟩:=g_GREATEST_STEP;obtain⟨t_GREATEST_BASE,c_GREATEST_BASE⟩:=g_GREATEST_BASE;obtain⟨v,b,s',o,a,rfl,⟨p,q',r,rfl,h1,h2,h3⟩,hb,hs,q⟩:=h;refine⟨_,(ai (bD (aT fK (ah (aH K) (pv 0) af (λ_ _=>rfl)) (cx (v:=.int 3000) rfl c_GREATEST_BASE ⟨_,rfl⟩) (aP _)) (aj o8) aU)
    (aj (bD (aT fK (ah (aH K) (pv 0) af (λ_ _=>rfl)) (cx (v:=.int 840) rfl c_GREATEST_STEP ⟨_,rfl⟩) (aP _)) (aj o8) aU))),?_⟩
  walk_at"";refine aI (ao.of h1) rfl ?_;walk_at"";rw[GD (show ¬3000<b by omega)];refine aq ?_;walk_at"";refine aI (ao.of h1) rfl ?_;walk_at"";rw[GD (show ¬840<s' by omega)];exact aq q
def tH(K:FD):Sp:=λvs H Q _=>∃v b s o a,vs=[v]/\dg H v b s o a/\Gd b s o a/\Q .non H
abbrev qo:Stmt:=stq 22
def xA:FnScope ["thing"] ["thing"] (aA qo):=⟨rfl,rfl,rfl,by decide +kernel,rfl,by decide +kernel,by decide +kernel⟩
def EI{P:Program}{w:World}{K:FD}{mg:Str->Option Value}{base:Heap}(D:Dfn K mg "refuse_bad_stair" qo ["thing"])(T:Blt mg)(C_refuse_great_stair:Cal P w K mg base "refuse_great_stair" 1 ["stair"] (uc K))(C_refuse_no_stair:Cal P w K mg base "refuse_no_stair" 5 ["thing"] (wQ K)):Cal P w K mg base "refuse_bad_stair" 6 ["thing"] (tH K):=by
 have nd:=(xA).nd;refine D.ok xA (λvs H Q E h=>?_) (λX hX H vs Q E h=>?_)
 ·obtain⟨v,b,s,o,a,rfl,_⟩:=h;rfl
 ·obtain⟨f,cdv,A,outer,s,H0,E0,rfl,hr⟩:=hX;obtain⟨v,b,s',o,a,rfl,hv,hg,q⟩:=h;refine⟨_,(ai (aZ (aD C_refuse_no_stair hr (aa (pv 0) ae)))
    (aj (aZ (aD C_refuse_great_stair hr (aa (pv 0) ae))))),?_⟩
  walk_at"";refine⟨v,rfl,hv.kn,hv.yes hg.ok,?_⟩;walk_at"";exact⟨v,b,s',o,a,rfl,hv,hg.b3,hg.s8,q⟩
def rZ(x:Int)(xs:List Int):iO (.int x) (xs.map V.int)=xs.contains x:=by
 unfold iO;rw[List.any_map,Gm,Gk,List.contains_iff_mem];constructor
 ·rintro⟨y,hy,e⟩;have e':(y == x)=true:=e;rw[←(by simpa using e':y=x)];exact hy
 ·intro hx;exact⟨x,hx,by show(x == x)=true;simp⟩
def xW(xs:List Int):(xs.map V.int).all eP=true:=by rw[List.all_map,Gj];intro x _;rfl
def sx(K:FD):Sp:=λvs H Q _=>∃v x b s o a,vs=[v,.int x]/\dg H v b s o a/\Gd b s o a/\Q (.bl (mem b s o a x)) H
abbrev qh:Stmt:=stq 25
def sY:FnScope ["stair","x","base"] ["stair","x"] (aA qh):=⟨rfl,rfl,rfl,by decide +kernel,rfl,by decide +kernel,by decide +kernel⟩
def zj{P:Program}{w:World}{K:FD}{mg:Str->Option Value}{base:Heap}(D:Dfn K mg "holds" qh ["stair","x"])(T:Blt mg)(C_refuse_bad_stair:Cal P w K mg base "refuse_bad_stair" 6 ["thing"] (tH K)):Cal P w K mg base "holds" 7 ["stair","x"] (sx K):=by
 have nd:=(sY).nd;refine D.ok sY (λvs H Q E h=>?_) (λX hX H vs Q E h=>?_)
 ·obtain⟨v,x,b,s,o,a,rfl,_⟩:=h;rfl
 ·obtain⟨f,cdv,A,outer,s,H0,E0,rfl,hr⟩:=hX;obtain⟨v,x,b,s',o,a,rfl,hv,hg,q⟩:=h;have hs:=hg.ok.hs;refine⟨_,(ai (aZ (aD C_refuse_bad_stair hr (aa (pv 0) ae)))
    (ai (aM (i:=2) nd rfl (Or.inl rfl) (ah (aH K) (pv 0) af (λ_ _=>rfl)))
    (ai (bD (aT f6 (pv 1) (pv 2) (aP _)) (aj (aG (eG (qZ K) (pv 1) (ah (aH K) (pv 0) af (λ_ _=>rfl)) (by with_unfolding_all rfl)))) aU)
    (aj (aG (eG (qZ K) (av aY (pv 2) (av cj (av cU (pv 1) (pv 2)) (ah (aH K) (pv 0) af (λ_ _=>rfl)))) (ah (aH K) (pv 0) af (λ_ _=>rfl)) (by with_unfolding_all rfl))))))),?_⟩
  walk_at"";refine⟨v,b,s',o,a,rfl,hv,hg,?_⟩;obtain⟨p,q',r,rfl,h1,h2,h3⟩:=hv;walk_at"";refine aI (ao.of h1) rfl ?_;walk_at"";by_cases hx:x<b
  ·rw[GF hx];refine ax ?_;walk_at"";refine aI (ao.of h1) rfl ?_;walk_at"";refine r6 (.inr (ao.of h2)) rfl (xW o) ?_;rw[nv _ hx]at q;rw[rZ];exact q
  ·rw[GD hx];refine aq ?_;walk_at"";refine aI (ao.of h1) rfl ?_;walk_at"";refine aI (ao.of h1) rfl ?_;walk_at"";refine r6 (.inr (ao.of h3)) rfl (xW a) ?_;rw[xy _ (by omega)]at q;rw[rZ];exact q
def xi:List V->List Key
 | [.int a,.str b,.int c,.str d]=>[.inl a,.inr b,.inl c,.inr d]
 | _=>[]
def cZ(H:Hp):V->List Key
 | .ref p=>match H p with
  | some (.tup xs)=>xi xs
  | _=>[]
 | _=>[]
def q0{H:Hp}{p:Addr}{xs:List V}(h:H p=some (.tup xs)):cZ H (.ref p)=xi xs:=by unfold cZ;dsimp only;rw[h]
def B5{H:Hp}{m:Int}{v:V}(h:bP H m v=true):∃p a b c d,v=.ref p/\H p=some (.tup [.int a,.str b,.int c,.str d])/\(0<=a/\a<m)/\(0<=c/\c<m)/\gG (.str b)=true/\gW (.str d)=true:=by
 cases ht:isTup H v with
 | false=>rw[tV ht]at h;cases h
 | true=>
  obtain⟨p,xs,rfl,hp⟩:=kh ht;rw[eB hp]at h;by_cases h4:xs.length=4
  ·obtain⟨a,b,c,d,rfl⟩:=four h4;unfold fU at h;simp only[Gn]at h;obtain⟨h1,h2,h3,h5⟩:=h;cases a with
   | int i=>
    cases c with
    | int j=>
     cases b with
     | str y=>
      cases d with
      | str z=>
       unfold cF at h1 h2;simp only[Gn,decide_eq_true_eq]at h1 h2;exact⟨p,i,y,j,z,rfl,hp,h1,h2,h3,h5⟩
      | _=>cases h5
     | _=>cases h3
    | _=>cases h2
   | _=>cases h1
  ·rw[qz h4]at h;cases h
def w8{H:Hp}{m:Int}:∀{xs:List V},xs.all (bP H m)=true->∃bs:List Addr,xs=bs.map V.ref/\i9 H bs (xs.map (cZ H))
 | [],_=>⟨[],rfl,rfl,λj b k e=>by simp at e⟩
 | x::xs,h=>by
  rw[List.all_cons,Gn]at h;obtain⟨bs,e,h1,h2⟩:=w8 h.2;obtain⟨p,a,b,c,d,rfl,hp,_⟩:=B5 h.1;refine⟨p::bs,by rw[List.map_cons,←e],by rw[Ge,List.map_cons,Ge,h1],λj b' k e1 e2=>?_⟩;cases j with
  | zero=>
   cases e1;rw[List.map_cons,q0 hp]at e2;cases e2;exact hp
  | succ j=>exact h2 j b' k e1 e2
def lC{H H':Hp}{m:Int}{n:Nat}{v:V}(e:Ext H H')(h:bp H n v):bP H' m v=bP H m v:=by
 cases v with
 | ref p=>
  cases n with
  | zero=>exact h.elim
  | succ n=>
   obtain⟨xs,h1,_⟩:=h;unfold bP;dsimp only;rcases h1 with h1|h1<;>rw[h1,e _ _ h1]
 | _=>rfl
def AS{H H':Hp}{n:Nat}{v:V}(e:Ext H H')(h:bp H n v):cZ H' v=cZ H v:=by
 cases v with
 | ref p=>
  cases n with
  | zero=>exact h.elim
  | succ n=>
   obtain⟨xs,h1,_⟩:=h;unfold cZ;dsimp only;rcases h1 with h1|h1<;>rw[h1,e _ _ h1]
 | _=>rfl
def fm(H:Hp)(m:Int)(xs:List V):Bool:=decide (xs.length<=100) && (xs.all (bP H m) && decide (xs.map (cZ H)).Nodup)
def dW(H:Hp)(m:Int):V->Bool
 | .ref p=>match H p with
  | some (.tup xs)=>fm H m xs
  | _=>false
 | _=>false
def AE{H:Hp}{m:Int}{v:V}(h:isTup H v=false):dW H m v=false:=by
 cases v with
 | ref p=>
  unfold isTup at h;unfold dW;dsimp only at h ⊢;split
  ·rename_i xs e;rw[e]at h;cases h
  ·rfl
 | _=>rfl
def jf{H:Hp}{m:Int}{p:Addr}{xs:List V}(h:H p=some (.tup xs)):dW H m (.ref p)=fm H m xs:=by unfold dW;dsimp only;rw[h]
open Classical in
def lh{α:Type}:∀{D l:List α},D.Nodup->(∀k∈D,k∈l)->D.length<=l.length
 | [],l,_,_=>Nat.zero_le _
 | d::D,l,hn,hs=>by have hn':=List.nodup_cons.mp hn;have hm:=hs d FO;have:=lh (D:=D) (l:=l.erase d) hn'.2 λk hk=>(List.mem_erase_of_ne (by rintro rfl;exact hn'.1 hk)).mpr (hs k (FK _ hk));rw[List.length_erase_of_mem hm]at this;have h0:0<l.length:=List.length_pos_of_mem hm;rw[Ge];omega
def nodup_iff{α:Type}{D l:List α}(hn:D.Nodup)(hm:∀k,k∈D↔k∈l):D.length=l.length↔l.Nodup:=by
 constructor
 ·intro e;exact(wW hn (λk hk=>(hm k).mp hk) e.symm).nodup_iff.mpr hn
 ·intro hl;have h1:=lh hn λk hk=>(hm k).mp hk;have h2:=lh hl λk hk=>(hm k).mpr hk;omega
def vc(K:FD):Sp:=λvs H Q _=>∃v m,vs=[v,.int m]/\bp H 3 v/\∀H',Ext H H'->Q (.bl (dW H m v)) H'
abbrev mw:Stmt:=stq 36
def sR:FnScope ["thing","many"] ["thing","many"] (aA mw):=⟨rfl,rfl,rfl,by decide +kernel,rfl,by decide +kernel,by decide +kernel⟩
def Bn{P:Program}{w:World}{K:FD}{mg:Str->Option Value}{base:Heap}(D:Dfn K mg "are_ways" mw ["thing","many"])(T:Blt mg)(g_GREATEST_WAYS:∃t,mg "GREATEST_WAYS" = some (.int 100 t))(C_is_way:Cal P w K mg base "is_way" 3 ["thing","many"] (uR K)):Cal P w K mg base "are_ways" 4 ["thing","many"] (vc K):=by
 have nd:=(sR).nd;refine D.ok sR (λvs H Q E h=>?_) (λX hX H vs Q E h=>?_)
 ·obtain⟨p,m,rfl,_⟩:=h;rfl
 ·obtain⟨f,cdv,A,outer,s,H0,E0,rfl,hr⟩:=hX;obtain⟨t_GREATEST_WAYS,c_GREATEST_WAYS⟩:=g_GREATEST_WAYS;obtain⟨v,m,rfl,ht,q⟩:=h;obtain⟨n,hk⟩:=ht.kind;refine⟨_,(ai (bD (PW.pt (dn (dh (bE (bq fY rfl T.isinstance_ PyProof.Rows.boot_isinstance (aa (pv 0) (aa (fu (v:=.ty "tuple") rfl T.tuple_ PyProof.Rows.boot_tuple rfl) ae))))) (eo (aT fK (bq (dD K) rfl T.len_ PySem.boot_len (aa (pv 0) ae)) (cx (v:=.int 100) rfl c_GREATEST_WAYS ⟨_,rfl⟩) (aP _))))) (aj (aG bN)) aU)
    (aj (aG (eQ (bq (ph K rfl) rfl T.all_ PyProof.Rows.boot_all (aa (dE ["way"] [1] (kR K (pv 0)) (λ_=>(aS (i:=0) (show(["way","many"]:List Str).Nodup from by decide +kernel) rfl (Or.inl rfl) (Or.inr rfl))) (λ_=>fX) (λ_=>(aD C_is_way hr (aa (pv 0) (aa (pv 1) ae))))) ae)) (eY (eG bX (bq E4 rfl T.len_ PySem.boot_len (aa (iM (Bz hr) rfl T.set_ PyProof.Rows.boot_set (aa (pv 0) ae)) ae)) (bq (dD K) rfl T.len_ PySem.boot_len (aa (pv 0) ae)) (aP _))))))),?_⟩
  walk_at"";refine eR hk (pN hk) ?_;walk_at"";cases hv:isTup H v with
  | false=>
   refine ax ?_;walk_at"";rw[AE hv]at q;exact q H λ_ _ z=>z
  | true=>
   refine aq ?_;obtain⟨p,xs,rfl,hp⟩:=kh hv;obtain⟨hx1,hx2⟩:=ht.items hp;rw[jf hp]at q;unfold fm at q;walk_at"";refine hJ (ao.of hp) ?_;walk_at"";by_cases h4:xs.length<=100
   ·rw[GD (show ¬((100:Int)<((xs.length:Nat):Int)) by omega)];rw[GF h4,Bool.true_and]at q;refine aq ?_;walk_at"";refine lE (ao.of hp) ?_;refine uP (xs:=xs) (λi ys H'=>Ext H H'/\ys=((xs.take i).map (bP H m)).map V.bl) (gD hx1) ⟨λ_ _ z=>z,rfl⟩ (λi ys H' hi h=>⟨ao.of (h.1 _ _ hp),by rw[h.2,FH,FH,Gz];omega⟩) ?_ ?_
    ·rintro i x ys H' hx ⟨e,rfl⟩;have hxt:=hx2 x (FR hx);walk_at"";refine ax ?_;walk_at"";refine⟨x,m,rfl,hxt.ext e,e,?_⟩;rw[lC e hxt,List.take_add_one,hx];simp
    ·rintro ys H' pl ⟨e,rfl⟩ hpl;rw[Gf];walk_at"";have eN:Ext H (upd H' pl (.lst ((xs.map (bP H m)).map V.bl))):=e.trans (bS hpl);refine⟨pl,xs.map (bP H m),rfl,ag.of aN,?_⟩;have ea:(xs.map (bP H m)).all id=xs.all (bP H m):=by rw[List.all_map];rfl
     rw[ea];walk_at"";cases hall:xs.all (bP H m)with
     | false=>
      refine aq ?_;rw[hall,Bool.false_and]at q;exact q _ eN
     | true=>
      refine ax ?_;rw[hall,Bool.true_and]at q;obtain⟨bs,ebs,hka⟩:=w8 hall;generalize upd H' pl (.lst ((xs.map (bP H m)).map V.bl))=H2 at eN ⊢;walk_at"";refine⟨p,bs,xs.map (cZ H),rfl,.inl (by rw[←ebs];exact eN _ _ hp),hka.ext eN,by rw[FH];omega,λl L hl hnd hmem hL=>?_⟩;have hll:L.length<=xs.length:=by
       have:=lh hnd λk hk=>(hmem k).mp hk
       rwa [FH,FH]at this
      walk_at"";refine⟨l,L,rfl,aN,by omega,?_⟩;walk_at"";have eL:Ext H (upd H2 l (lz P w l L)):=eN.trans (bS hl);refine hJ (ao.of (eL _ _ hp)) ?_;walk_at"";have hiff:=nodup_iff hnd hmem;rw[FH,FH]at hiff;have eb:decide ((((L.length:Nat):Int))=((xs.length:Nat):Int))=decide ((xs.map (cZ H)).Nodup):=by
       by_cases hq:(xs.map (cZ H)).Nodup
       ·rw[GF (show((L.length:Nat):Int)=((xs.length:Nat):Int) by have:=hiff.mpr hq;omega)];exact(GF hq).symm
       ·rw[GD (show ¬((L.length:Nat):Int)=((xs.length:Nat):Int)from λz=>hq (hiff.mp (by omega)))];exact(GD hq).symm
      rw[eb];exact q _ eL
   ·rw[GF (show((100:Int)<((xs.length:Nat):Int)) by omega)];rw[GD h4,Bool.false_and]at q;refine ax ?_;walk_at"";exact q H λ_ _ z=>z
def dP(H:Hp):List V->Bool
 | [.int m,q]=>decide (1<=m) && (decide (m<=12) && dW H m q)
 | _=>false
def dj(H:Hp):V->Bool
 | .ref p=>match H p with
  | some (.tup xs)=>dP H xs
  | _=>false
 | _=>false
def DL{H:Hp}{v:V}(h:isTup H v=false):dj H v=false:=by
 cases v with
 | ref p=>
  unfold isTup at h;unfold dj;dsimp only at h ⊢;split
  ·rename_i xs e;rw[e]at h;cases h
  ·rfl
 | _=>rfl
def dH{H:Hp}{p:Addr}{xs:List V}(h:H p=some (.tup xs)):dj H (.ref p)=dP H xs:=by unfold dj;dsimp only;rw[h]
def kr{H:Hp}{xs:List V}(h:xs.length≠2):dP H xs=false:=by
 unfold dP;split
 ·exact absurd rfl h
 ·rfl
def CZ{H:Hp}{a b:V}(h:isInt a=false):dP H [a,b]=false:=by cases a<;>first|rfl|cases h
def Es{xs:List V}(h:xs.length=2):∃a b,xs=[a,b]:=by
 match xs,h with
 | [a,b],_=>exact⟨a,b,rfl⟩
def sU(K:FD):Sp:=λvs H Q _=>∃v,vs=[v]/\bp H 4 v/\∀H',Ext H H'->Q (.bl (dj H v)) H'
abbrev nU:Stmt:=stq 37
def xk:FnScope ["thing"] ["thing"] (aA nU):=⟨rfl,rfl,rfl,by decide +kernel,rfl,by decide +kernel,by decide +kernel⟩
def AA{P:Program}{w:World}{K:FD}{mg:Str->Option Value}{base:Heap}(D:Dfn K mg "is_house" nU ["thing"])(T:Blt mg)(g_GREATEST_MANY:∃t,mg "GREATEST_MANY" = some (.int 12 t))(C_are_ways:Cal P w K mg base "are_ways" 4 ["thing","many"] (vc K))(C_is_whole:Cal P w K mg base "is_whole" 1 ["thing"] (jB K)):Cal P w K mg base "is_house" 5 ["thing"] (sU K):=by
 have nd:=(xk).nd;refine D.ok xk (λvs H Q E h=>?_) (λX hX H vs Q E h=>?_)
 ·obtain⟨p,rfl,_⟩:=h;rfl
 ·obtain⟨f,cdv,A,outer,s,H0,E0,rfl,hr⟩:=hX;obtain⟨t_GREATEST_MANY,c_GREATEST_MANY⟩:=g_GREATEST_MANY;obtain⟨v,rfl,ht,q⟩:=h;obtain⟨n,hk⟩:=ht.kind;refine⟨_,(ai (bD (PW.pt (dn (dh (bE (bq fY rfl T.isinstance_ PyProof.Rows.boot_isinstance (aa (pv 0) (aa (fu (v:=.ty "tuple") rfl T.tuple_ PyProof.Rows.boot_tuple rfl) ae))))) (eo (aT dG (bq (dD K) rfl T.len_ PySem.boot_len (aa (pv 0) ae)) af (aP _))))) (aj (aG bN)) aU)
    (aj (aG (eQ (aD C_is_whole hr (aa (ah (aH K) (pv 0) af (λ_ _=>rfl)) ae)) (eQ (pf jW jW af (ah (aH K) (pv 0) af (λ_ _=>rfl)) (cx (v:=.int 12) rfl c_GREATEST_MANY ⟨_,rfl⟩)) (eY (aD C_are_ways hr (aa (ah (aH K) (pv 0) af (λ_ _=>rfl)) (aa (ah (aH K) (pv 0) af (λ_ _=>rfl)) ae))))))))),?_⟩
  walk_at"";refine eR hk (pN hk) ?_;walk_at"";cases hv:isTup H v with
  | false=>
   refine ax ?_;walk_at"";rw[DL hv]at q;exact q H λ_ _ z=>z
  | true=>
   refine aq ?_;obtain⟨p,xs,rfl,hp⟩:=kh hv;obtain⟨hx1,hx2⟩:=ht.items hp;rw[dH hp]at q;walk_at"";refine hJ (ao.of hp) ?_;walk_at"";by_cases h4:xs.length=2
   ·obtain⟨a,b,rfl⟩:=Es h4;have ta:=hx2 a (by simp);have tb:=hx2 b (by simp);obtain⟨ka,hka⟩:=ta.kind;refine aq ?_;walk_at"";refine aI (ao.of hp) (v:=a) rfl ?_;walk_at"";refine⟨a,ka,rfl,hka,?_⟩;refine rd_exb ?_;cases ha:isInt a with
    | false=>
     refine aq ?_;rw[CZ ha]at q;exact q H λ_ _ z=>z
    | true=>
     obtain⟨m,rfl⟩:=jG ha;refine ax ?_;unfold dP at q;dsimp only at q;walk_at"";refine aI (ao.of hp) (v:=.int m) rfl ?_;walk_at"";cases h1:decide (1<=m)with
     | false=>
      refine aq ?_;walk_at"";refine aq ?_;rw[h1]at q;exact q H λ_ _ z=>z
     | true=>
      refine ax ?_;walk_at"";rw[h1,Bool.true_and]at q;cases h2:decide (m<=12)with
      | false=>
       refine aq ?_;rw[h2]at q;exact q H λ_ _ z=>z
      | true=>
       refine ax ?_;walk_at"";refine aI (ao.of hp) (v:=b) rfl ?_;walk_at"";refine aI (ao.of hp) (v:=.int m) rfl ?_;walk_at"";rw[h2,Bool.true_and]at q;exact⟨b,m,rfl,tb,q⟩
   ·rw[kr h4]at q;rw[GD (show ¬((xs.length:Nat):Int)=2 by omega)];refine ax ?_;walk_at"";exact q H λ_ _ z=>z
def cS(H:Hp)(p:Addr)(kk:List (List Key)):Prop:=∃bs:List Addr,H p=some (.tup (bs.map V.ref))/\bs.length=kk.length/\∀(j:Nat) (b:Addr) (k:List Key),bs[j]?=some b->kk[j]?=some k->H b=some (.tup (k.map kV))
def cS.ext{H H':Hp}{p:Addr}{kk:List (List Key)}(e:Ext H H')(h:cS H p kk):cS H' p kk:=by obtain⟨bs,h1,h2,h3⟩:=h;exact⟨bs,e _ _ h1,h2,λj b k e1 e2=>e _ _ (h3 j b k e1 e2)⟩
structure Way where
 room:Int
 deed:Str
 other:Int
 sign:Str
 deriving DecidableEq
abbrev Way.key(w:Way):List Key:=[.inl w.room,.inr w.deed,.inl w.other,.inr w.sign]
abbrev Way.vs(w:Way):List V:=[.int w.room,.str w.deed,.int w.other,.str w.sign]
def Way.key_inj{w u:Way}(h:w.key=u.key):w=u:=by cases w;cases u;simp only[Way.key,List.cons.injEq,Sum.inl.injEq,Sum.inr.injEq]at h;obtain⟨rfl,rfl,rfl,rfl,_⟩:=h;rfl
def x9(z:Str):Prop:=∃c:Nat,97<=c/\c<=122/\z=⟨#[c]⟩
def cI(z:Str):Prop:=z = "up"\/z = "down"\/z = "stay"\/z = "zero"
structure Way.Ok(m:Int)(w:Way):Prop where
 r0:0<=w.room
 r1:w.room<m
 o0:0<=w.other
 o1:w.other<m
 dd:cI w.deed
 sg:x9 w.sign
structure HOuse(m:Int)(ws:List Way):Prop where
 m1:1<=m
 m12:m<=12
 few:ws.length<=100
 ok:∀w∈ws,w.Ok m
 nd:ws.Nodup
def bh(H:Hp)(v:V)(m:Int)(ws:List Way):Prop:=∃p q,v=.ref p/\H p=some (.tup [.int m,.ref q])/\cS H q (ws.map Way.key)
def bh.ext{H H':Hp}{v:V}{m:Int}{ws:List Way}(e:Ext H H')(h:bh H v m ws):bh H' v m ws:=by obtain⟨p,q,rfl,h1,h2⟩:=h;exact⟨p,q,rfl,e _ _ h1,h2.ext e⟩
def cS.item{H:Hp}{ws:List Way}{bs:List Addr}(h:∀(j:Nat) (b:Addr) (k:List Key),bs[j]?=some b->(ws.map Way.key)[j]?=some k->H b=some (.tup (k.map kV))){j:Nat}{b:Addr}{w:Way}(e1:bs[j]?=some b)(e2:ws[j]?=some w):H b=some (.tup w.vs):=
 h j b w.key e1 (by rw[FJ,e2];rfl)
def aJ(H:Hp)(bs:List Addr)(ws:List Way):Prop:=bs.length=ws.length/\∀(j:Nat) (b:Addr) (w:Way),bs[j]?=some b->ws[j]?=some w->H b=some (.tup w.vs)
def aJ.ext{H H':Hp}{bs:List Addr}{ws:List Way}(e:Ext H H')(h:aJ H bs ws):aJ H' bs ws:=⟨h.1,λj b w e1 e2=>e _ _ (h.2 j b w e1 e2)⟩
def aJ.put{H:Hp}{f:Addr}{xs ys:List V}{bs:List Addr}{ws:List Way}(hf:H f=some (.lst xs))(h:aJ H bs ws):aJ (upd H f (.lst ys)) bs ws:=⟨h.1,λj b w e1 e2=>by have:=h.2 j b w e1 e2;rw[aC (fj this hf (by intro z;cases z))];exact this⟩
def aJ.nil(H:Hp):aJ H [] []:=⟨rfl,λj b w e=>by simp at e⟩
def aJ.snoc{H:Hp}{bs:List Addr}{ws:List Way}{b:Addr}{w:Way}(h:aJ H bs ws)(hb:H b=some (.tup w.vs)):aJ H (bs++[b]) (ws++[w]):=by
 refine⟨by simp[h.1],λj b' w' e1 e2=>?_⟩;rcases Gw j bs.length with hj|hj
 ·rw[Ga hj]at e1;rw[Ga (by rw[←h.1];exact hj)]at e2;exact h.2 j b' w' e1 e2
 ·rw[F9 hj]at e1;rw[F9 (by rw[←h.1];exact hj),←h.1]at e2;cases hk:j-bs.length with
  | zero=>
   rw[hk]at e1 e2;cases e1;cases e2;exact hb
  | succ k=>rw[hk]at e1;simp at e1
def aJ.ways{H:Hp}{p:Addr}{bs:List Addr}{ws:List Way}(h:aJ H bs ws)(hp:H p=some (.tup (bs.map V.ref))):cS H p (ws.map Way.key):=
 ⟨bs,hp,by rw[FH];exact h.1,λj b k e1 e2=>by rw[FJ]at e2;obtain⟨w,hw,rfl⟩:=FU.mp e2;exact h.2 j b w e1 hw⟩
def cS.al{H:Hp}{p:Addr}{ws:List Way}(h:cS H p (ws.map Way.key)):∃bs:List Addr,H p=some (.tup (bs.map V.ref))/\aJ H bs ws:=by obtain⟨bs,h1,h2,h3⟩:=h;rw[FH]at h2;exact⟨bs,h1,h2,λj b w e1 e2=>cS.item h3 e1 e2⟩
abbrev Way.D(w:Way):PyData:=.tuple [.int w.room,.str w.deed,.int w.other,.str w.sign]
structure Way.Lay(w:Way):Prop where
 d:(PyData.str w.deed).canLay0=true
 s:(PyData.str w.sign).canLay0=true
def Eo:∀c:Fin 123,97<=c.1->(PyData.str ⟨#[c.1]⟩).canLay0=true:=by decide +kernel
def Way.Ok.lay{m:Int}{w:Way}(h:w.Ok m):w.Lay:=by
 constructor
 ·rcases h.dd with e|e|e|e<;>rw[e]<;>decide +kernel
 ·obtain⟨c,h1,h2,e⟩:=h.sg;rw[e];exact Eo ⟨c,Nat.lt_succ_of_le h2⟩ h1
def Way.rep{H:Hp}{b:Addr}{w:Way}(h:H b=some (.tup w.vs))(l:w.Lay):aW H 1 (.ref b) w.D:=
 .inr ⟨b,w.vs,_,rfl,.inl ⟨h,rfl⟩,.cons rfl (.cons ⟨rfl,l.d⟩ (.cons rfl (.cons ⟨rfl,l.s⟩ .nil)))⟩
def Way.eqv(w u:Way):PyData.eqv w.D u.D=decide (w=u):=by
 simp only[PyData.eqv,PyData.eqvAll];by_cases h:w=u
 ·subst h;simp
 ·rw[GD h];obtain⟨a,b,c,d⟩:=w;obtain⟨a',b',c',d'⟩:=u;simp only[Way.mk.injEq,not_and]at h;simp only[Bool.and_true,Bool.and_eq_false_iff,beq_eq_false_iff_ne];by_cases h1:a=a'
  ·by_cases h2:b=b'
   ·by_cases h3:c=c'
    ·exact .inr (.inr (.inr (h h1 h2 h3)))
    ·exact .inr (.inr (.inl h3))
   ·exact .inr (.inl h2)
  ·exact .inl h1
def aJ.reps{H:Hp}:∀{bs:List Addr} {ws:List Way},aJ H bs ws->(∀w∈ws,w.Lay)->Paired (aW H 1) (bs.map V.ref) (ws.map Way.D)
 | [],[],_,_=>.nil
 | [],_::_,h,_=>by cases h.1
 | _::_,[],h,_=>by cases h.1
 | b::bs,w::ws,h,l=>.cons (Way.rep (h.2 0 b w rfl rfl) (l w FO)) (aJ.reps ⟨Nat.succ.inj h.1,λj b w e1 e2=>h.2 (j+1) b w e1 e2⟩ λu hu=>l u (FK _ hu))
def Dn(ws:List Way)(w:Way):((ws.map Way.D).any λe=>PyData.eqv e w.D)=decide (w∈ws):=by
 rw[List.any_map];induction ws with
 | nil=>rfl
 | cons u ws ih=>
  rw[List.any_cons,ih,Function.comp_apply,Way.eqv];by_cases h:w∈ws
  ·simp[h]
  ·by_cases e:u=w
   ·simp[e]
   ·have:¬w=u:=λz=>e z.symm;simp[h,e,this]
def oJ(K:FD):Sp:=λvs H Q _=>∃l bs ws,vs=[.ref l]/\H l=some (.lst (bs.map V.ref))/\aJ H bs ws/\(∀w∈ws,Way.Lay w)/\ws.length<=200 ∧
 ∀q H' us,Ext H H'->cS H' q (List.map Way.key us)->us.Nodup->(∀u∈us,u∈ws)->us.length<=ws.length->Q (.ref q) H'
abbrev oI:Stmt:=stq 71
def vQ:FnScope ["_law_ways","_law_found","_law_way"] ["_law_ways"] (aA oI):=⟨rfl,rfl,rfl,by decide +kernel,rfl,by decide +kernel,by decide +kernel⟩
def CS{P:Program}{w:World}{K:FD}{mg:Str->Option Value}{base:Heap}(D:Dfn K mg "_law_unlike" oI ["_law_ways"])(T:Blt mg):Cal P w K mg base "_law_unlike" 1 ["_law_ways"] (oJ K):=by
 have nd:=(vQ).nd;refine D.ok vQ (λvs H Q E h=>?_) (λX hX H vs Q E h=>?_)
 ·obtain⟨l,bs,ws,rfl,_⟩:=h;rfl
 ·obtain⟨f,cdv,A,outer,s,H0,E0,rfl,hr⟩:=hX;obtain⟨l,bs,ws,rfl,hl,al,lay,hlen,q⟩:=h;refine⟨_,(ai (aM (i:=1) nd rfl (Or.inl rfl) (bo ae))
    (ai (bV PassesOwn.never rfl (cD K (pv 0)) (aS (i:=2) nd rfl (Or.inl rfl)) (aj (cE (aT (xY hr) (pv 2) (pv 1) (by with_unfolding_all rfl)) (aj (aZ (bC K FP F6 F7 bL (pv 1) (aa (pv 2) ae)))) aU)))
    (aj (aG (iM (lV K) rfl T.tuple_ PyProof.Rows.boot_tuple (aa (pv 1) ae)))))),?_⟩
  walk_at"";refine aw λf H1 e1 hf hfn=>?_;walk_at"";refine cG (ag.of (e1 _ _ hl)) ?_;refine forL (xs:=bs.map V.ref) (λi σ H2=>Ext H H2/\∃(k:Option V) (cs:List Addr) (us:List Way),σ=[some (.ref l),some (.ref f),k]/\H2 f=some (.lst (cs.map V.ref))/\aJ H2 cs us/\us.Nodup/\(∀u∈us,u∈ws)/\us.length<=i)
   ⟨e1,none,[],[],rfl,hf,aJ.nil _,List.nodup_nil,λu hu=>by simp at hu,F5 _⟩ (λi σ H2 _ h=>ag.of (h.1 _ _ hl)) ?_ ?_
  ·rintro i x σ H2 hx ⟨e2,k,cs,us,rfl,hf2,al2,nd2,sub2,len2⟩;rw[FJ]at hx;obtain⟨b,hb,rfl⟩:=FU.mp hx;have hi:i<ws.length:=by rw[←al.1];exact(FQ.mp hb).1
   have hwi:ws[i]?=some ws[i]:=FI hi;have hbw:=e2 _ _ (al.2 i b _ hb hwi);walk_at"";refine bt ?_;walk_at"";refine xm (Way.rep hbw (lay _ (Gb hi))) hf2 (al2.reps λu hu=>lay u (sub2 u hu)) (by decide) ?_;simp only[if_true,Dn];refine rd_exb ?_;by_cases hm:ws[i]∈us
   ·rw[GF hm];refine aq ?_;walk_at"";exact⟨e2,_,cs,us,rfl,hf2,al2,nd2,sub2,by omega⟩
   ·rw[GD hm];refine ax ?_;walk_at"";refine⟨cH (ag.of hf2),?_⟩;walk_at"";refine bT hf2 (by rw[FH,al2.1];exact Nat.lt_of_le_of_lt (show us.length<=1000 by omega) (by decide)) ?_;walk_at"";refine⟨cR e2 hfn,_,cs++[b],us++[ws[i]],rfl,by rw[aN,FZ];rfl,(al2.put hf2).snoc ?_,?_,?_,by simp;omega⟩
    ·rw[aC (fj hbw hf2 (by intro z;cases z))];exact hbw
    ·rw[List.nodup_append];exact⟨nd2,by simp,λa ha c hc=>by rw[FT.mp hc];exact λz=>hm (z ▸ ha)⟩
    ·intro u hu;rcases F8.mp hu with hu|hu
     ·exact sub2 u hu
     ·rw[FT.mp hu];exact Gb hi
  ·rintro σ H2 ⟨e2,k,cs,us,rfl,hf2,al2,nd2,sub2,len2⟩;walk_at"";refine lT (ag.of hf2) (cM λp H3 e3 hp _=>?_);exact q p H3 us (e2.trans e3) ((al2.ext e3).ways hp) nd2 sub2 (by rw[FH,al.1]at len2;exact len2)
def lJ(z:Str):Prop:=∃c:Nat,97<=c/\c<=99/\z=⟨#[c]⟩
structure Way.Ok3(m:Int)(w:Way):Prop where
 r0:0<=w.room
 r1:w.room<m
 o0:0<=w.other
 o1:w.other<m
 dd:cI w.deed
 sg:lJ w.sign
structure HOuse3(m:Int)(ws:List Way):Prop where
 m1:1<=m
 m12:m<=12
 few:ws.length<=100
 ok:∀w∈ws,w.Ok3 m
 nd:ws.Nodup
def Way.Ok3.ok{m:Int}{w:Way}(h:w.Ok3 m):w.Ok m:=by obtain⟨c,h1,h2,h3⟩:=h.sg;exact⟨h.r0,h.r1,h.o0,h.o1,h.dd,c,h1,by omega,h3⟩
def Way.Ok3.lay{m:Int}{w:Way}(h:w.Ok3 m):w.Lay:=h.ok.lay
def HOuse3.house{m:Int}{ws:List Way}(h:HOuse3 m ws):HOuse m ws:=⟨h.m1,h.m12,h.few,λw hw=>(h.ok w hw).ok,h.nd⟩
def Bq{ds:List Int}{i:Nat}(h:i+4<=ds.length):∃a b c d,bW (ds.map V.int) (some (i:Int)) (some ((i+4:Nat):Int))=[.int a,.int b,.int c,.int d]/\ds[i]?=some a/\ds[i+1]?=some b/\ds[i+2]?=some c/\ds[i+3]?=some d:=by refine⟨ds[i],ds[i+1],ds[i+2],ds[i+3],?_,FI _,FI _,FI _,FI _⟩;unfold bW;rw[HT.pJ,HT.pJ,FH,Nat.min_eq_left (by omega),Nat.min_eq_left (by omega),show i+4-i=4 by omega,←List.map_drop,←List.map_take];rw[List.drop_eq_getElem_cons (show i<ds.length by omega),List.drop_eq_getElem_cons (show i+1<ds.length by omega),List.drop_eq_getElem_cons (show i+1+1<ds.length by omega),List.drop_eq_getElem_cons (show i+1+1+1<ds.length by omega)];rfl
def fi:List Int:=[8,12,13,31]++(Gu 30 ([12,6,12,3]:List Int)).flatten
def E1{k:Nat}(h:k<30):fi[4+4*k]?=some 12/\fi[4+4*k+1]?=some 6/\fi[4+4*k+2]?=some 12/\fi[4+4*k+3]?=some 3:=by
 have:∀k:Fin 30,fi[4+4*k.val]?=some 12/\fi[4+4*k.val+1]?=some 6/\fi[4+4*k.val+2]?=some 12/\fi[4+4*k.val+3]?=some 3:=by decide +kernel
 exact this ⟨k,h⟩
def sE(K:FD):Sp:=λvs H Q _=>∃c p,vs=[.int c,.int p]/\0<p/\∀v m ws H',Ext H H'->bh H' v m ws->HOuse3 m ws->Q v H'
def zH{e:Int}(h0:0<=e)(h1:e<6):∃z,bF ([.str "up",.str "down",.str "stay",.str "zero",.str "up",.str "down"]:List V) e=some (.str z)/\cI z:=by
 have:e=0\/e=1\/e=2\/e=3\/e=4\/e=5:=by omega
 rcases this with rfl|rfl|rfl|rfl|rfl|rfl
 ·exact⟨_,rfl,.inl rfl⟩
 ·exact⟨_,rfl,.inr (.inl rfl)⟩
 ·exact⟨_,rfl,.inr (.inr (.inl rfl))⟩
 ·exact⟨_,rfl,.inr (.inr (.inr rfl))⟩
 ·exact⟨_,rfl,.inl rfl⟩
 ·exact⟨_,rfl,.inr (.inl rfl)⟩
def Bt:(Gp "abc").cps.toList=[97,98,99]:=by decide +kernel
def Dl{e:Int}(h0:0<=e)(h1:e<3):∃c,bF (Gp "abc").cps.toList e=some c/\97<=c/\c<=99:=by
 rw[Bt];have:e=0\/e=1\/e=2:=by omega
 rcases this with rfl|rfl|rfl
 ·exact⟨97,rfl,by decide,by decide⟩
 ·exact⟨98,rfl,by decide,by decide⟩
 ·exact⟨99,rfl,by decide,by decide⟩
def EK{e:Int}(h0:0<=e)(h1:e<8):∃w:Int,bF (([4,4,4,5,3,2,5,12]:List Int).map V.int) e=some (.int w)/\1<=w/\w<=12:=by
 obtain⟨n,rfl⟩:=Int.eq_ofNat_of_zero_le h0;have hn:n<8:=Int.ofNat_lt.mp h1;have key:∀i:Fin 8,1<=([4,4,4,5,3,2,5,12]:List Int)[i]/\([4,4,4,5,3,2,5,12]:List Int)[i]<=12:=by decide
 exact⟨([4,4,4,5,3,2,5,12]:List Int)[n],fE (by rw[FJ,FI hn];rfl),key ⟨n,hn⟩⟩
def bh.mk{H:Hp}{p q:Addr}{m:Int}{ws:List Way}(h1:H p=some (.tup [.int m,.ref q]))(h2:cS H q (ws.map Way.key)):bh H (.ref p) m ws:=⟨p,q,rfl,h1,h2⟩
abbrev oD:Stmt:=stq 73
def vm:FnScope ["_law_cell_here","_law_prime","_law_draws_here","_law_many","_law_often","_law_ways","_law_k","_law_room","_law_deed","_law_other","_law_sign","_law_word"] ["_law_cell_here","_law_prime"] (aA oD):=⟨rfl,rfl,rfl,by decide +kernel,rfl,by decide +kernel,by decide +kernel⟩
def yK{P:Program}{w:World}{K:FD}{mg:Str->Option Value}{base:Heap}(D:Dfn K mg "_law_drawn_house" oD ["_law_cell_here","_law_prime"])(T:Blt mg)(C__law_unlike:Cal P w K mg base "_law_unlike" 1 ["_law_ways"] (oJ K))(C__law_draws:Cal P w K mg base "_law_draws" 2 ["_law_cell_here","_law_widths","_law_prime"] (gn K)):Cal P w K mg base "_law_drawn_house" 3 ["_law_cell_here","_law_prime"] (sE K):=by
 have nd:=(vm).nd;refine D.ok vm (λvs H Q E h=>?_) (λX hX H vs Q E h=>?_)
 ·obtain⟨c,p,rfl,_⟩:=h;rfl
 ·obtain⟨f,cdv,A,outer,s,H0,E0,rfl,hr⟩:=hX;obtain⟨c,p,rfl,hp,q⟩:=h;refine⟨_,(@ai _ _ _ _ _ (@aM _ _ 2 _ _ _ _ nd rfl (Or.inl rfl) (aD C__law_draws hr (@aa _ _ _ _ _ (pv 0) (@aa _ _ _ _ _ (av qP (@bo _ _ _ _ (jo (.c (.c (.c (.c .n)))))) (av qQ (@bo _ _ _ _ (jo (.c (.c (.c (.c .n)))))) af)) (@aa _ _ _ _ _ (pv 1) ae rfl) rfl) rfl)) rfl (Or.inl rfl))
    (@ai _ _ _ _ _ (@aM _ _ 3 _ _ _ _ nd rfl (Or.inl rfl) (av aY af (av cj (@ah _ _ _ _ _ _ _ (aF K) (pv 2) af (λ_ _=>rfl)) (@ah _ _ _ _ _ _ _ (aF K) (@bo _ _ _ _ (jo (.c (.c (.c (.c (.c (.c (.c (.c .n)))))))))) (@ah _ _ _ _ _ _ _ (aF K) (pv 2) af (λ_ _=>rfl)) (λ_ _=>rfl)))) rfl (Or.inl rfl))
    (@ai _ _ _ _ _ (@aM _ _ 4 _ _ _ _ nd rfl (Or.inl rfl) (@ah _ _ _ _ _ _ _ (aF K) (pv 2) af (λ_ _=>rfl)) rfl (Or.inl rfl))
    (@ai _ _ _ _ _ (cE (aT bX (@ah _ _ _ _ _ _ _ (aF K) (pv 2) af (λ_ _=>rfl)) af (aP _)) (@aj _ _ _ (@aM _ _ 4 _ _ _ _ nd rfl (Or.inl rfl) (@ah _ _ _ _ _ _ _ (aF K) (pv 2) af (λ_ _=>rfl)) rfl (Or.inl rfl))) aU)
    (@ai _ _ _ _ _ (@aM _ _ 5 _ _ _ _ nd rfl (Or.inl rfl) (@bo _ _ _ _ ae) rfl (Or.inl rfl))
    (@ai _ _ _ _ _ (bV PassesOwn.never rfl (cB rfl T.range_ (@aa _ _ _ _ _ (pv 4) ae rfl)) (aS (i:=6) nd rfl (Or.inl rfl)) (@ai _ _ _ _ _ (@gY _ _ _ _ _ _ (gj (jw K) (pv 2) (fF (av aY af (av ef af (pv 6)))) (fF (av aY af (av ef af (pv 6))))) (E8 (n:=4) K rfl (dF (aS (i:=7) nd rfl (Or.inl rfl)) (dF (aS (i:=8) nd rfl (Or.inl rfl)) (dF (aS (i:=9) nd rfl (Or.inl rfl)) (dF (aS (i:=10) nd rfl (Or.inl rfl)) iI))))) rfl rfl rfl)
    (@ai _ _ _ _ _ (@aM _ _ 11 _ _ _ _ nd rfl (Or.inl rfl) (@ah _ _ _ _ _ _ _ (aF K) (@bo _ _ _ _ (@aa _ _ _ _ _ az (@aa _ _ _ _ _ az (@aa _ _ _ _ _ az (@aa _ _ _ _ _ az (@aa _ _ _ _ _ az (@aa _ _ _ _ _ az ae rfl) rfl) rfl) rfl) rfl) rfl)) (pv 8) (λ_ _=>rfl)) rfl (Or.inl rfl))
    (@aj _ _ _ (aZ (bC K FP F6 F7 bL (pv 5) (@aa _ _ _ _ _ (@aR _ _ _ _ _ (@aa _ _ _ _ _ (av cj (pv 7) (pv 3)) (@aa _ _ _ _ _ (pv 11) (@aa _ _ _ _ _ (av cj (pv 9) (pv 3)) (@aa _ _ _ _ _ (@ah _ _ _ _ _ _ _ rC az (pv 10) (λ_ _=>rfl)) ae rfl) rfl) rfl) rfl)) ae rfl)))))))
    (@aj _ _ _ (@aG _ _ _ _ (@aR _ _ _ _ _ (@aa _ _ _ _ _ (pv 3) (@aa _ _ _ _ _ (aD C__law_unlike hr (@aa _ _ _ _ _ (pv 5) ae rfl)) ae rfl) rfl)))))))))),?_⟩
  walk_at"";refine aw λw0 G1 f1 hw0 _=>?_;walk_at"";refine aw λw1 G2 f2 hw1 _=>?_;walk_at"";refine o7 hw1 (by omega) (bI (by decide)) (cM λw2 G3 f3 hw2 _=>?_);walk_at"";refine oU (f3 _ _ (f2 _ _ hw0)) hw2 (bI (by decide)) (cM λw3 G4 f4 hw3 _=>?_);walk_at"";refine iG fi hw3 (by decide +kernel) (by decide +kernel) (hp) λdq ds H1 e1 hd hdn hl hb=>?_;have eH:Ext H H1:=f1.trans (f2.trans (f3.trans (f4.trans e1)));have hl':ds.length=124:=hl;have at_:∀(i:Nat) (x:Int),fi[i]?=some x->∃d,ds[i]?=some d/\0<=d/\d<x:=λi x hx=>by
   have hi:i<ds.length:=by rw[hl];exact(FQ.mp hx).1
   exact⟨ds[i],FI hi,hb i _ x (FI hi) hx⟩
  obtain⟨d0,g0,b00,b01⟩:=at_ 0 8 rfl;obtain⟨d1,g1,b10,b11⟩:=at_ 1 12 rfl;obtain⟨d2,g2,b20,b21⟩:=at_ 2 13 rfl;obtain⟨d3,g3,b30,b31⟩:=at_ 3 31 rfl;have pick:∀{i:Nat} {d:Int},ds[i]?=some d->bF (ds.map V.int) (i:Int)=some (.int d):=λ{i d} h=>fE (by rw[FJ,h];rfl);walk_at"";refine aE (ag.of hd) (pick (i:=1) g1) ?_;walk_at"";refine aw λmq H2 e2 hmq _=>?_;walk_at"";refine aE (ag.of (e2 _ _ hd)) (pick (i:=0) g0) ?_;obtain⟨w,hw,hw1',hw2'⟩:=EK b00 b01;refine aE (ag.of hmq) hw ?_
  try refine rd_I (show(0:Int)<w by omega) ?_
  walk_at"";have r0:0<=d1 % w:=Int.emod_nonneg _ (by omega);have r1:d1 % w<w:=Int.emod_lt_of_pos _ (by omega);obtain⟨m,hm,m1,m2⟩:∃m,1+d1 % w=m/\1<=m/\m<=12:=⟨_,rfl,by omega,by omega⟩;rw[hm];refine aE (ag.of (e2 _ _ hd)) (pick (i:=2) g2) ?_;walk_at"";have eH2:Ext H H2:=eH.trans e2;have hd2:=e2 _ _ hd;refine jE (λσ' H'=>H'=H2/\∃o:Nat,o<=30/\σ'=[some (.int c),some (.int p),some (.ref dq),some (.int m),some (.int o),none,none,none,none,none,none,none]) ?_ ?_
  ·walk_at"";refine aE (ag.of hd2) (pick (i:=0) g0) ?_;walk_at"";refine fW (λh=>?_) (λh=>?_)
   ·walk_at"";refine aE (ag.of hd2) (pick (i:=3) g3) ?_;walk_at"";exact⟨rfl,d3.toNat,by omega,by rw[FW b30];rfl⟩
   ·walk_at"";exact⟨rfl,d2.toNat,by omega,by rw[FW b20];rfl⟩
  rintro σ' H' ⟨rfl,o,ho,rfl⟩;clear hw hw1' hw2' r0 r1 b00 b01 b10 b11 b20 b21 b30 b31;walk_at"";refine aw λf H3 e3 hf hfn=>?_;walk_at"";refine ck (by omega) ?_;refine forR (λi σ H4=>Ext H' H4/\∃(k1 k2 k3 k4 k5 k6:Option V) (cs:List Addr) (us:List Way),σ=[some (.int c),some (.int p),some (.ref dq),some (.int m),some (.int o),some (.ref f),k1,k2,k3,k4,k5,k6]/\H4 f=some (.lst (cs.map V.ref))/\aJ H4 cs us/\(∀u∈us,u.Ok3 m)/\us.length=i)
   ⟨e3,none,none,none,none,none,none,[],[],rfl,hf,aJ.nil _,λu hu=>by simp at hu,rfl⟩ ?_ ?_
  ·rintro i σ H4 hi ⟨e4,k1,k2,k3,k4,k5,k6,cs,us,rfl,hf4,al,ok,len⟩;rw[FV]at hi;have hi30:i<30:=by omega
   obtain⟨a,b,c',d,hcut,ga,gb,gc,gd⟩:=Bq (ds:=ds) (i:=4+4*i) (by omega);obtain⟨y0,y1,y2,y3⟩:=E1 hi30;have ba:=hb _ _ _ ga y0;have bb:=hb _ _ _ gb y1;have bc:=hb _ _ _ gc y2;have bd:=hb _ _ _ gd y3;have hd4:=e4 _ _ hd2;walk_at"";refine jD (ag.of hd4) (cM λt H5 e5 ht htn=>?_);rw[show (4:Int)+4*(0+(i:Int))=((4+4*i:Nat):Int) by omega,show (8:Int)+4*(0+(i:Int))=((4+4*i+4:Nat):Int) by omega,hcut]at ht;walk_at"";refine B6 (ag.of ht) rfl ?_;walk_at"";refine aw λu1 H6 e6 hu1 _=>?_;walk_at"";obtain⟨z,hz,okz⟩:=zH bb.1 bb.2;refine aE (ag.of hu1) hz ?_;walk_at"";have hf6:=e6 _ _ (e5 _ _ hf4);refine⟨cH (ag.of hf6),?_⟩;walk_at""
   try refine rd_I (show(0:Int)<m by omega) ?_
   walk_at""
   try refine rd_I (show(0:Int)<m by omega) ?_
   walk_at"";obtain⟨s,hs,s1,s2⟩:=Dl bd.1 bd.2;refine⟨_,_,s,rfl,rfl,gD (by decide +kernel),hs,?_⟩;walk_at"";refine aw λv H7 e7 hv _=>?_;have hf7:=e7 _ _ hf6;walk_at"";refine bT hf7 (by rw[FH,al.1,len];exact Nat.lt_of_le_of_lt (show i<=1000 by omega) (by decide)) ?_;walk_at"";have al7:aJ H7 cs us:=((al.ext e5).ext e6).ext e7;have hv7:H7 v=some (.tup (Way.vs ⟨a % m,z,c' % m,⟨#[s]⟩⟩)):=hv;refine⟨cR (e4.trans (e5.trans (e6.trans e7))) hfn,_,_,_,_,_,_,cs++[v],us++[⟨a % m,z,c' % m,⟨#[s]⟩⟩],rfl,by rw[aN,FZ];rfl,(al7.put hf7).snoc ?_,?_,by simp[len]⟩
   ·rw[aC (fj hv7 hf7 (by intro z;cases z))];exact hv7
   ·intro u hu;rcases F8.mp hu with hu|hu
    ·exact ok u hu
    ·rw[FT.mp hu];exact⟨Int.emod_nonneg _ (by omega),Int.emod_lt_of_pos _ (by omega),Int.emod_nonneg _ (by omega),Int.emod_lt_of_pos _ (by omega),okz,s,s1,s2,rfl⟩
  ·rintro σ H4 ⟨e4,k1,k2,k3,k4,k5,k6,cs,us,rfl,hf4,al,ok,len⟩;rw[FV]at len;walk_at"";refine⟨f,cs,us,rfl,hf4,al,λu hu=>(ok u hu).lay,by omega,λr H5 ws e5 hws nd sub ln=>?_⟩;walk_at"";refine aw λt H6 e6 ht _=>?_;exact q _ m ws H6 (eH2.trans (e4.trans (e5.trans e6))) (bh.mk ht (hws.ext e6)) ⟨m1,m2,by omega,λu hu=>ok u (sub u hu),nd⟩
structure WL(H0 H:Hp)(f:Addr)(us:List Way):Prop where
 ext:Ext H0 H
 at_:∃cs:List Addr,H f=some (.lst (cs.map V.ref))/\aJ H cs us
def WL.nil{H0 H:Hp}{f:Addr}(e:Ext H0 H)(hf:H f=some (.lst [])):WL H0 H f []:=⟨e,[],hf,aJ.nil _⟩
def WL.push{H0 H H1:Hp}{f v:Addr}{us:List Way}{w:Way}(h:WL H0 H f us)(hfn:H0 f=none)(e:Ext H H1)(hv:H1 v=some (.tup w.vs)):
  ∃xs,H1 f=some (.lst xs)/\xs.length=us.length/\WL H0 (upd H1 f (.lst (xs++[.ref v]))) f (us++[w]):=by
 obtain⟨e0,cs,hf,al⟩:=h;have hf1:=e _ _ hf;refine⟨cs.map V.ref,hf1,by rw[FH];exact al.1,cR (e0.trans e) hfn,cs++[v],by rw[aN,FZ];rfl,((al.ext e).put hf1).snoc ?_⟩;rw[aC (fj hv hf1 (by intro z;cases z))];exact hv
def WL.ty{K:FD}{H0 H H1:Hp}{f:Addr}{us:List Way}(h:WL H0 H f us)(e:Ext H H1):i4 K "list" (.ref f) H1:=by obtain⟨_,cs,hf,al⟩:=h;exact cH (ag.of (e _ _ hf))
def kO:lJ "a":=⟨97,by decide,by decide,by decide +kernel⟩
def jq:lJ "b":=⟨98,by decide,by decide,by decide +kernel⟩
def m9:lJ "c":=⟨99,by decide,by decide,by decide +kernel⟩
def lS:cI "up":=.inl rfl
def mM:cI "down":=.inr (.inl rfl)
def iP:cI "stay":=.inr (.inr (.inl rfl))
def pP:cI "zero":=.inr (.inr (.inr rfl))
def cK{n:Nat}(h:n<=1000):n<sizeLine:=Nat.lt_of_le_of_lt h (by decide)
def kN{a b:V}{e:Int}(h0:0<=e)(h1:e<2):∃v,bF [a,b] e=some v/\(v=a\/v=b):=by
 have:e=0\/e=1:=by omega
 rcases this with rfl|rfl
 ·exact⟨a,rfl,.inl rfl⟩
 ·exact⟨b,rfl,.inr rfl⟩
def eZ{m:Int}{us:List Way}{w:Way}(h:∀u∈us,u.Ok3 m)(hw:w.Ok3 m):∀u∈us++[w],u.Ok3 m:=λu hu=>by
 rcases F8.mp hu with hu|hu
 ·exact h u hu
 ·rw[FT.mp hu];exact hw
def zY:(Gp "ab").cps.toList=[97,98]:=by decide +kernel
def Bh{e:Int}(h0:0<=e)(h1:e<2):∃c,bF (Gp "ab").cps.toList e=some c/\97<=c/\c<=99:=by
 rw[zY];have:e=0\/e=1:=by omega
 rcases this with rfl|rfl
 ·exact⟨97,rfl,by decide,by decide⟩
 ·exact⟨98,rfl,by decide,by decide⟩
def cP{ws ds:List Int}(hl:ds.length=ws.length)(hb:∀(i:Nat) (d x:Int),ds[i]?=some d->ws[i]?=some x->0<=d/\d<x)(i:Nat){x:Int}(hx:ws[i]?=some x):∃d,bF (ds.map V.int) (i:Int)=some (.int d)/\0<=d/\d<x:=by
 have hi:i<ds.length:=by rw[hl];exact(FQ.mp hx).1
 have g:ds[i]?=some ds[i]:=FI hi;exact⟨ds[i],fE (by rw[FJ,g];rfl),hb i _ x g hx⟩
def tG(K:FD):Sp:=λvs H Q _=>∃c p,vs=[.int c,.int p]/\0<p/\∀v m ws H',Ext H H'->bh H' v m ws->HOuse3 m ws->Q v H'
abbrev qk:Stmt:=stq 72
def xS:FnScope ["_law_cell_here","_law_prime","_law_draws_here","_law_up","_law_down","_law_many","_law_ways","_law_k"] ["_law_cell_here","_law_prime"] (aA qk):=⟨rfl,rfl,rfl,by decide +kernel,rfl,by decide +kernel,by decide +kernel⟩
def Av{P:Program}{w:World}{K:FD}{mg:Str->Option Value}{base:Heap}(D:Dfn K mg "_law_gate_house" qk ["_law_cell_here","_law_prime"])(T:Blt mg)(C__law_unlike:Cal P w K mg base "_law_unlike" 1 ["_law_ways"] (oJ K))(C__law_draws:Cal P w K mg base "_law_draws" 2 ["_law_cell_here","_law_widths","_law_prime"] (gn K)):Cal P w K mg base "_law_gate_house" 3 ["_law_cell_here","_law_prime"] (tG K):=by
 have nd:=(xS).nd;refine D.ok xS (λvs H Q E h=>?_) (λX hX H vs Q E h=>?_)
 ·obtain⟨c,p,rfl,_⟩:=h;rfl
 ·obtain⟨f,cdv,A,outer,s,H0,E0,rfl,hr⟩:=hX;obtain⟨c,p,rfl,hp,q⟩:=h;refine⟨_,(@ai _ _ _ _ _ (@aM _ _ 2 _ _ _ _ nd rfl (Or.inl rfl) (aD C__law_draws hr (@aa _ _ _ _ _ (pv 0) (@aa _ _ _ _ _ (@bo _ _ _ _ (jo (.c (.c (.c (.c (.c (.c (.c .n))))))))) (@aa _ _ _ _ _ (pv 1) ae rfl) rfl) rfl)) rfl (Or.inl rfl))
    (@ai _ _ _ _ _ (xR (i:=3) (j:=4) rfl nd rfl rfl (by decide) rfl rfl (@aa _ _ _ _ _ (av aY af (@ah _ _ _ _ _ _ _ (aF K) (pv 2) af (λ_ _=>rfl))) (@aa _ _ _ _ _ (av aY af (@ah _ _ _ _ _ _ _ (aF K) (pv 2) af (λ_ _=>rfl))) ae rfl) rfl) rfl)
    (@ai _ _ _ _ _ (@aM _ _ 5 _ _ _ _ nd rfl (Or.inl rfl) (av aY (av aY (pv 3) (pv 4)) af) rfl (Or.inl rfl))
    (@ai _ _ _ _ _ (@aM _ _ 6 _ _ _ _ nd rfl (Or.inl rfl) (@bo _ _ _ _ ae) rfl (Or.inl rfl))
    (@ai _ _ _ _ _ (bV PassesOwn.never rfl (cB rfl T.range_ (@aa _ _ _ _ _ (pv 3) ae rfl)) (aS (i:=7) nd rfl (Or.inl rfl)) (@aj _ _ _ (aZ (bC K FP F6 F7 bL (pv 6) (@aa _ _ _ _ _ (@aR _ _ _ _ _ (@aa _ _ _ _ _ (pv 7) (@aa _ _ _ _ _ az (@aa _ _ _ _ _ (av cj (av aY (pv 7) af) (pv 3)) (@aa _ _ _ _ _ (@ah _ _ _ _ _ _ _ rC az (@ah _ _ _ _ _ _ _ (aF K) (pv 2) af (λ_ _=>rfl)) (λ_ _=>rfl)) ae rfl) rfl) rfl) rfl)) ae rfl)))))
    (@ai _ _ _ _ _ (aZ (bC K FP F6 F7 bL (pv 6) (@aa _ _ _ _ _ (@aR _ _ _ _ _ (@aa _ _ _ _ _ (av cj (@ah _ _ _ _ _ _ _ (aF K) (pv 2) af (λ_ _=>rfl)) (pv 3)) (@aa _ _ _ _ _ az (@aa _ _ _ _ _ (pv 3) (@aa _ _ _ _ _ az ae rfl) rfl) rfl) rfl)) ae rfl)))
    (@ai _ _ _ _ _ (bV PassesOwn.never rfl (cB rfl T.range_ (@aa _ _ _ _ _ (pv 4) ae rfl)) (aS (i:=7) nd rfl (Or.inl rfl)) (@aj _ _ _ (aZ (bC K FP F6 F7 bL (pv 6) (@aa _ _ _ _ _ (@aR _ _ _ _ _ (@aa _ _ _ _ _ (av aY (pv 3) (pv 7)) (@aa _ _ _ _ _ az (@aa _ _ _ _ _ (av aY (pv 3) (av cj (av aY (pv 7) af) (pv 4))) (@aa _ _ _ _ _ az ae rfl) rfl) rfl) rfl)) ae rfl)))))
    (@ai _ _ _ _ _ (aZ (bC K FP F6 F7 bL (pv 6) (@aa _ _ _ _ _ (@aR _ _ _ _ _ (@aa _ _ _ _ _ (av aY (pv 3) (av cj (@ah _ _ _ _ _ _ _ (aF K) (pv 2) af (λ_ _=>rfl)) (pv 4))) (@aa _ _ _ _ _ az (@aa _ _ _ _ _ (av cU (pv 5) af) (@aa _ _ _ _ _ az ae rfl) rfl) rfl) rfl)) ae rfl)))
    (@ai _ _ _ _ _ (aZ (bC K FP F6 F7 bL (pv 6) (@aa _ _ _ _ _ (@aR _ _ _ _ _ (@aa _ _ _ _ _ (av cU (pv 5) af) (@aa _ _ _ _ _ (@ah _ _ _ _ _ _ _ (aF K) (@bo _ _ _ _ (@aa _ _ _ _ _ az (@aa _ _ _ _ _ az ae rfl) rfl)) (@ah _ _ _ _ _ _ _ (aF K) (pv 2) af (λ_ _=>rfl)) (λ_ _=>rfl)) (@aa _ _ _ _ _ (@ah _ _ _ _ _ _ _ (aF K) (@bo _ _ _ _ (@aa _ _ _ _ _ af (@aa _ _ _ _ _ (av cU (pv 5) af) ae rfl) rfl)) (@ah _ _ _ _ _ _ _ (aF K) (pv 2) af (λ_ _=>rfl)) (λ_ _=>rfl)) (@aa _ _ _ _ _ az ae rfl) rfl) rfl) rfl)) ae rfl)))
    (@aj _ _ _ (@aG _ _ _ _ (@aR _ _ _ _ _ (@aa _ _ _ _ _ (pv 5) (@aa _ _ _ _ _ (aD C__law_unlike hr (@aa _ _ _ _ _ (pv 6) ae rfl)) ae rfl) rfl))))))))))))),?_⟩
  walk_at"";refine aw λw0 G1 f1 hw0 _=>?_;walk_at"";refine iG [6,5,6,5,2,2,2] hw0 (by decide) (by decide) (hp) λdq ds H1 e1 hd hdn hl hb=>?_;have eH:Ext H H1:=f1.trans e1;obtain⟨d0,g0,b00,b01⟩:=cP hl hb 0 rfl;obtain⟨d1,g1,b10,b11⟩:=cP hl hb 1 rfl;obtain⟨d2,g2,b20,b21⟩:=cP hl hb 2 rfl;obtain⟨d3,g3,b30,b31⟩:=cP hl hb 3 rfl;obtain⟨d4,g4,b40,b41⟩:=cP hl hb 4 rfl;obtain⟨d5,g5,b50,b51⟩:=cP hl hb 5 rfl;obtain⟨d6,g6,b60,b61⟩:=cP hl hb 6 rfl;clear hb hl;walk_at"";refine aE (ag.of hd) g0 ?_;walk_at"";refine aE (ag.of hd) g1 ?_;walk_at"";obtain⟨U,hU⟩:∃U:Nat,1+d0=(U:Int):=⟨(1+d0).toNat,by omega⟩;obtain⟨D,hD⟩:∃D:Nat,1+d1=(D:Int):=⟨(1+d1).toNat,by omega⟩;rw[hU,hD];have u1:1<=U:=by omega
  have u6:U<=6:=by omega
  have v1:1<=D:=by omega
  have v5:D<=5:=by omega
  clear b00 b01 b10 b11 hU hD;obtain⟨m,hm⟩:∃m:Int,(U:Int)+(D:Int)+1=m:=⟨_,rfl⟩;rw[hm];refine aw λf H2 e2 hf hfn=>?_;walk_at"";refine ck (by omega) ?_;have hfn0:H1 f=none:=hfn;refine forR (λi σ H3=>∃(k:Option V) (us:List Way),σ=[some (.int c),some (.int p),some (.ref dq),some (.int U),some (.int D),some (.int m),some (.ref f),k]/\WL H1 H3 f us/\(∀u∈us,u.Ok3 m)/\us.length=i)
   ⟨none,[],rfl,WL.nil e2 hf,λu hu=>by simp at hu,rfl⟩ ?_ ?_
  ·rintro i σ H3 hi ⟨k,us,rfl,wl,ok,len⟩;rw[FV]at hi;walk_at"";refine⟨wl.ty (Ext.rfl' _),?_⟩;walk_at""
   try refine rd_I (show(0:Int)<(U:Int) by omega) ?_
   walk_at"";refine aE (ag.of (wl.ext _ _ hd)) g4 ?_;obtain⟨s,hs,s1,s2⟩:=Bh b40 b41;refine⟨_,_,s,rfl,rfl,gD (by decide +kernel),hs,?_⟩;walk_at"";refine aw λv H4 e4 hv _=>?_;walk_at"";obtain⟨xs,hx,hlx,wl'⟩:=wl.push (w:=⟨0+(i:Int),"up",(0+(i:Int)+1) % (U:Int),⟨#[s]⟩⟩) hfn0 e4 hv;refine bT hx (cK (by omega)) ?_;walk_at"";exact⟨_,_,rfl,wl',eZ ok ⟨by show 0<=0+(i:Int);omega,by show 0+(i:Int)<m;omega,Int.emod_nonneg _ (by omega),Int.lt_trans (Int.emod_lt_of_pos _ (by omega)) (by omega),lS,s,s1,s2,rfl⟩,by simp[len]⟩
  rintro σ H3 ⟨k,us,rfl,wl,ok,len⟩;rw[FV]at len;walk_at"";refine⟨wl.ty (Ext.rfl' _),?_⟩;walk_at"";refine aE (ag.of (wl.ext _ _ hd)) g2 ?_
  try refine rd_I (show(0:Int)<(U:Int) by omega) ?_
  walk_at"";refine aw λv H4 e4 hv _=>?_;walk_at"";have r0:0<=d2 % (U:Int):=Int.emod_nonneg _ (by omega);have r1:d2 % (U:Int)<U:=Int.emod_lt_of_pos _ (by omega);obtain⟨xs,hx,hlx,wl2⟩:=wl.push (w:=⟨d2 % (U:Int),"stay",(U:Int),"b"⟩) hfn0 e4 hv;have ok2:=eZ ok (w:=⟨d2 % (U:Int),"stay",(U:Int),"b"⟩) ⟨r0,by show d2 % (U:Int)<m;omega,by show 0<=(U:Int);omega,by show(U:Int)<m;omega,iP,jq⟩;refine bT hx (cK (by omega)) ?_;generalize upd H4 f _=H5 at wl2 ⊢;generalize hus2:us++[_]=us2 at wl2 ok2;have len2:us2.length=U+1:=by rw[←hus2];simp[len]
  clear hus2 hx hlx hv e4 r0 r1 wl ok len;walk_at"";refine ck (by omega) ?_;refine forR (λi σ H3=>∃(k:Option V) (us:List Way),σ=[some (.int c),some (.int p),some (.ref dq),some (.int U),some (.int D),some (.int m),some (.ref f),k]/\WL H1 H3 f us/\(∀u∈us,u.Ok3 m)/\us.length=U+1+i)
   ⟨_,us2,rfl,wl2,ok2,len2⟩ ?_ ?_
  ·rintro i σ H3 hi ⟨k,us,rfl,wl,ok,len⟩;rw[FV]at hi;walk_at"";refine⟨wl.ty (Ext.rfl' _),?_⟩;walk_at""
   try refine rd_I (show(0:Int)<(D:Int) by omega) ?_
   walk_at"";refine aw λv H4 e4 hv _=>?_;walk_at"";have r0:0<=(0+(i:Int)+1) % (D:Int):=Int.emod_nonneg _ (by omega);have r1:(0+(i:Int)+1) % (D:Int)<D:=Int.emod_lt_of_pos _ (by omega);obtain⟨xs,hx,hlx,wl'⟩:=wl.push (w:=⟨(U:Int)+(0+(i:Int)),"down",(U:Int)+(0+(i:Int)+1) % (D:Int),"a"⟩) hfn0 e4 hv;refine bT hx (cK (by omega)) ?_;walk_at"";exact⟨_,_,rfl,wl',eZ ok ⟨by show 0<=(U:Int)+(0+(i:Int));omega,by show(U:Int)+(0+(i:Int))<m;omega,by show 0<=(U:Int)+(0+(i:Int)+1) % (D:Int);omega,by show(U:Int)+(0+(i:Int)+1) % (D:Int)<m;omega,mM,kO⟩,by simp[len];omega⟩
  clear wl2 ok2 len2;rintro σ H3 ⟨k,us,rfl,wl,ok,len⟩;rw[FV]at len;walk_at"";refine⟨wl.ty (Ext.rfl' _),?_⟩;walk_at"";refine aE (ag.of (wl.ext _ _ hd)) g3 ?_
  try refine rd_I (show(0:Int)<(D:Int) by omega) ?_
  walk_at"";refine aw λv H4 e4 hv _=>?_;walk_at"";have r0:0<=d3 % (D:Int):=Int.emod_nonneg _ (by omega);have r1:d3 % (D:Int)<D:=Int.emod_lt_of_pos _ (by omega);obtain⟨xs,hx,hlx,wl2⟩:=wl.push (w:=⟨(U:Int)+d3 % (D:Int),"zero",m-1,"c"⟩) hfn0 e4 hv;have ok2:=eZ ok (w:=⟨(U:Int)+d3 % (D:Int),"zero",m-1,"c"⟩) ⟨by show 0<=(U:Int)+d3 % (D:Int);omega,by show(U:Int)+d3 % (D:Int)<m;omega,by show 0<=m-1;omega,by show m-1<m;omega,pP,m9⟩;refine bT hx (cK (by omega)) ?_;generalize upd H4 f _=H5 at wl2 ⊢;generalize hus2:us++[_]=us2 at wl2 ok2;have len2:us2.length=U+D+2:=by rw[←hus2];simp[len];omega
  clear hus2 hx hlx hv e4 r0 r1 wl ok len;walk_at"";refine⟨wl2.ty (Ext.rfl' _),?_⟩;walk_at"";refine aw λt1 H6 e6 ht1 _=>?_;walk_at"";refine aE (ag.of (e6 _ _ (wl2.ext _ _ hd))) g5 ?_;obtain⟨x5,hx5,ax5⟩:=kN (a:=V.str "up") (b:=V.str "stay") b50 b51;refine aE (ag.of ht1) hx5 ?_;walk_at"";refine aw λt2 H7 e7 ht2 _=>?_;walk_at"";refine aE (ag.of (e7 _ _ (e6 _ _ (wl2.ext _ _ hd)))) g6 ?_;obtain⟨x6,hx6,ax6⟩:=kN (a:=V.int 0) (b:=V.int (m-1)) b60 b61;refine aE (ag.of ht2) hx6 ?_;walk_at"";refine aw λv H8 e8 hv _=>?_;walk_at"";obtain⟨z,rfl,oz⟩:∃z,x5=.str z/\cI z:=by
   rcases ax5 with rfl|rfl
   ·exact⟨_,rfl,lS⟩
   ·exact⟨_,rfl,iP⟩
  obtain⟨y,rfl,y0,y1⟩:∃y:Int,x6=.int y/\0<=y/\y<m:=by
   rcases ax6 with rfl|rfl
   ·exact⟨_,rfl,by omega,by omega⟩
   ·exact⟨_,rfl,by omega,by omega⟩
  obtain⟨xs,hx,hlx,wl3⟩:=wl2.push (w:=⟨m-1,z,y,"b"⟩) hfn0 (e6.trans (e7.trans e8)) hv;have ok3:=eZ ok2 (w:=⟨m-1,z,y,"b"⟩) ⟨by show 0<=m-1;omega,by show m-1<m;omega,y0,y1,oz,jq⟩;refine bT hx (cK (by omega)) ?_;generalize upd H8 f _=H9 at wl3 ⊢;generalize hus3:us2++[_]=us3 at wl3 ok3;have len3:us3.length=U+D+3:=by rw[←hus3];simp[len2]
  walk_at"";obtain⟨ew,cs,hcs,al⟩:=wl3;refine⟨f,cs,us3,rfl,hcs,al,λu hu=>(ok3 u hu).lay,by omega,λr I1 ws e5 hws nd sub ln=>?_⟩;walk_at"";refine aw λt I2 e6' ht _=>?_;exact q _ m ws I2 (eH.trans (ew.trans (e5.trans e6'))) (bh.mk ht (hws.ext e6')) ⟨by omega,by omega,by omega,λu hu=>ok3 u (sub u hu),nd⟩
def aJ.rev{H:Hp}{bs:List Addr}{ws:List Way}(h:aJ H bs ws):aJ H bs.reverse ws.reverse:=by
 refine⟨by rw[List.length_reverse,List.length_reverse];exact h.1,λj b w e1 e2=>?_⟩;have hj:j<bs.length:=by have:=(FQ.mp e1).1;simpa using this
 rw[List.getElem?_reverse hj]at e1;rw[List.getElem?_reverse (by rw[←h.1];exact hj),←h.1]at e2;exact h.2 _ b w e1 e2
def iJ{us:List Way}{w:Way}(h:us.Nodup)(hw:w∉us):(us++[w]).Nodup:=by rw[List.nodup_append];exact⟨h,by simp,λa ha c hc=>by rw[FT.mp hc];exact λz=>hw (z ▸ ha)⟩
def jR{P:Way->Prop}{us:List Way}{w:Way}(h:∀u∈us,P u)(hw:P w):∀u∈us++[w],P u:=λu hu=>by
 rcases F8.mp hu with hu|hu
 ·exact h u hu
 ·rw[FT.mp hu];exact hw
def wC:(Gp "a")≠"b":=by decide +kernel
def wI:(Gp "a")≠"c":=by decide +kernel
def qC:(Gp "b")≠"c":=by decide +kernel
def xx(K:FD):Sp:=λvs H Q _=>∃c p,vs=[.int c,.int p]/\0<p/\∀v m ws H',Ext H H'->bh H' v m ws->HOuse3 m ws->Q v H'
abbrev pq:Stmt:=stq 70
def rT:FnScope ["_law_cell_here","_law_prime","_law_draws_here","_law_one","_law_two","_law_many","_law_ways","_law_k"] ["_law_cell_here","_law_prime"] (aA pq):=⟨rfl,rfl,rfl,by decide +kernel,rfl,by decide +kernel,by decide +kernel⟩
def CK{P:Program}{w:World}{K:FD}{mg:Str->Option Value}{base:Heap}(D:Dfn K mg "_law_ring_house" pq ["_law_cell_here","_law_prime"])(T:Blt mg)(C__law_draws:Cal P w K mg base "_law_draws" 2 ["_law_cell_here","_law_widths","_law_prime"] (gn K)):Cal P w K mg base "_law_ring_house" 3 ["_law_cell_here","_law_prime"] (xx K):=by
 have nd:=(rT).nd;refine D.ok rT (λvs H Q E h=>?_) (λX hX H vs Q E h=>?_)
 ·obtain⟨c,p,rfl,_⟩:=h;rfl
 ·obtain⟨f,cdv,A,outer,s,H0,E0,rfl,hr⟩:=hX;obtain⟨c,p,rfl,hp,q⟩:=h;refine⟨_,(@ai _ _ _ _ _ (@aM _ _ 2 _ _ _ _ nd rfl (Or.inl rfl) (aD C__law_draws hr (@aa _ _ _ _ _ (pv 0) (@aa _ _ _ _ _ (@bo _ _ _ _ (jo (.c (.c (.c (.c (.c (.c (.c .n))))))))) (@aa _ _ _ _ _ (pv 1) ae rfl) rfl) rfl)) rfl (Or.inl rfl))
    (@ai _ _ _ _ _ (xR (i:=3) (j:=4) rfl nd rfl rfl (by decide) rfl rfl (@aa _ _ _ _ _ (av aY af (@ah _ _ _ _ _ _ _ (aF K) (pv 2) af (λ_ _=>rfl))) (@aa _ _ _ _ _ (av aY af (@ah _ _ _ _ _ _ _ (aF K) (pv 2) af (λ_ _=>rfl))) ae rfl) rfl) rfl)
    (@ai _ _ _ _ _ (@aM _ _ 5 _ _ _ _ nd rfl (Or.inl rfl) (av aY (av aY (pv 3) (pv 4)) af) rfl (Or.inl rfl))
    (@ai _ _ _ _ _ (@aM _ _ 6 _ _ _ _ nd rfl (Or.inl rfl) (@bo _ _ _ _ (@aa _ _ _ _ _ (@aR _ _ _ _ _ (@aa _ _ _ _ _ af (@aa _ _ _ _ _ az (@aa _ _ _ _ _ af (@aa _ _ _ _ _ az ae rfl) rfl) rfl) rfl)) (@aa _ _ _ _ _ (@aR _ _ _ _ _ (@aa _ _ _ _ _ af (@aa _ _ _ _ _ (@ah _ _ _ _ _ _ _ (aF K) (@bo _ _ _ _ (@aa _ _ _ _ _ az (@aa _ _ _ _ _ az ae rfl) rfl)) (@ah _ _ _ _ _ _ _ (aF K) (pv 2) af (λ_ _=>rfl)) (λ_ _=>rfl)) (@aa _ _ _ _ _ (av aY af (pv 3)) (@aa _ _ _ _ _ az ae rfl) rfl) rfl) rfl)) ae rfl) rfl)) rfl (Or.inl rfl))
    (@ai _ _ _ _ _ (bV PassesOwn.never rfl (cB rfl T.range_ (@aa _ _ _ _ _ (pv 3) ae rfl)) (aS (i:=7) nd rfl (Or.inl rfl)) (@aj _ _ _ (aZ (bC K FP F6 F7 bL (pv 6) (@aa _ _ _ _ _ (@aR _ _ _ _ _ (@aa _ _ _ _ _ (av aY af (pv 7)) (@aa _ _ _ _ _ az (@aa _ _ _ _ _ (av aY af (av cj (av aY (pv 7) af) (pv 3))) (@aa _ _ _ _ _ az ae rfl) rfl) rfl) rfl)) ae rfl)))))
    (@ai _ _ _ _ _ (bV PassesOwn.never rfl (cB rfl T.range_ (@aa _ _ _ _ _ (pv 4) ae rfl)) (aS (i:=7) nd rfl (Or.inl rfl)) (@aj _ _ _ (aZ (bC K FP F6 F7 bL (pv 6) (@aa _ _ _ _ _ (@aR _ _ _ _ _ (@aa _ _ _ _ _ (av aY (av aY af (pv 3)) (pv 7)) (@aa _ _ _ _ _ (@ah _ _ _ _ _ _ _ (aF K) (@bo _ _ _ _ (@aa _ _ _ _ _ az (@aa _ _ _ _ _ az ae rfl) rfl)) (@ah _ _ _ _ _ _ _ (aF K) (pv 2) af (λ_ _=>rfl)) (λ_ _=>rfl)) (@aa _ _ _ _ _ (av aY (av aY af (pv 3)) (av cj (av aY (pv 7) af) (pv 4))) (@aa _ _ _ _ _ az ae rfl) rfl) rfl) rfl)) ae rfl)))))
    (@ai _ _ _ _ _ (aZ (bC K FP F6 F7 bL (pv 6) (@aa _ _ _ _ _ (@aR _ _ _ _ _ (@aa _ _ _ _ _ af (@aa _ _ _ _ _ az (@aa _ _ _ _ _ (av cU (pv 5) af) (@aa _ _ _ _ _ az ae rfl) rfl) rfl) rfl)) ae rfl)))
    (@ai _ _ _ _ _ (aZ (bC K FP F6 F7 bL (pv 6) (@aa _ _ _ _ _ (@aR _ _ _ _ _ (@aa _ _ _ _ _ (av aY af (pv 3)) (@aa _ _ _ _ _ az (@aa _ _ _ _ _ (av cU (pv 5) af) (@aa _ _ _ _ _ az ae rfl) rfl) rfl) rfl)) ae rfl)))
    (@ai _ _ _ _ _ (cE (aT bX (@ah _ _ _ _ _ _ _ (aF K) (pv 2) af (λ_ _=>rfl)) af (aP _)) (@aj _ _ _ (aZ (bC K FP F6 F7 bL (pv 6) (@aa _ _ _ _ _ (@aR _ _ _ _ _ (@aa _ _ _ _ _ (av cU (pv 5) af) (@aa _ _ _ _ _ az (@aa _ _ _ _ _ (av cU (pv 5) af) (@aa _ _ _ _ _ az ae rfl) rfl) rfl) rfl)) ae rfl)))) aU)
    (@ai _ _ _ _ _ (cE (aT bX (@ah _ _ _ _ _ _ _ (aF K) (pv 2) af (λ_ _=>rfl)) af (aP _)) (@aj _ _ _ (aZ (bC K FP F6 F7 bL (pv 6) (@aa _ _ _ _ _ (@aR _ _ _ _ _ (@aa _ _ _ _ _ (av cU (pv 5) af) (@aa _ _ _ _ _ az (@aa _ _ _ _ _ af (@aa _ _ _ _ _ az ae rfl) rfl) rfl) rfl)) ae rfl)))) aU)
    (@ai _ _ _ _ _ (cE (aT bX (@ah _ _ _ _ _ _ _ (aF K) (pv 2) af (λ_ _=>rfl)) af (aP _)) (@aj _ _ _ (@aM _ _ 6 _ _ _ _ nd rfl (Or.inl rfl) (zF K (pv 6) (fF (eM eE af))) rfl (Or.inl rfl))) aU)
    (@aj _ _ _ (@aG _ _ _ _ (@aR _ _ _ _ _ (@aa _ _ _ _ _ (pv 5) (@aa _ _ _ _ _ (iM (lV K) rfl T.tuple_ PyProof.Rows.boot_tuple (@aa _ _ _ _ _ (pv 6) ae rfl)) ae rfl) rfl))))))))))))))),?_⟩
  walk_at"";refine aw λw0 G1 f1 hw0 _=>?_;walk_at"";refine iG [5,5,2,2,4,4,2] hw0 (by decide) (by decide) (hp) λdq ds H1 e1 hd hdn hl hb=>?_;have eH:Ext H H1:=f1.trans e1;obtain⟨d0,g0,b00,b01⟩:=cP hl hb 0 rfl;obtain⟨d1,g1,b10,b11⟩:=cP hl hb 1 rfl;obtain⟨d2,g2,b20,b21⟩:=cP hl hb 2 rfl;obtain⟨d3,g3,b30,b31⟩:=cP hl hb 3 rfl;obtain⟨d4,g4,_⟩:=cP hl hb 4 rfl;obtain⟨d5,g5,_⟩:=cP hl hb 5 rfl;obtain⟨d6,g6,_⟩:=cP hl hb 6 rfl;clear hb hl;walk_at"";refine aE (ag.of hd) g0 ?_;walk_at"";refine aE (ag.of hd) g1 ?_;walk_at"";obtain⟨U,hU⟩:∃U:Nat,1+d0=(U:Int):=⟨(1+d0).toNat,by omega⟩;obtain⟨D,hD⟩:∃D:Nat,1+d1=(D:Int):=⟨(1+d1).toNat,by omega⟩;rw[hU,hD];have u1:1<=U:=by omega
  have u6:U<=5:=by omega
  have v1:1<=D:=by omega
  have v5:D<=5:=by omega
  clear b00 b01 b10 b11 hU hD;obtain⟨m,hm⟩:∃m:Int,(U:Int)+(D:Int)+2=m:=⟨_,rfl⟩;rw[hm];refine aw λa1 H2 e2 ha1 _=>?_;walk_at"";refine aw λt1 H3 e3 ht1 _=>?_;walk_at"";refine aE (ag.of (e3 _ _ (e2 _ _ hd))) g2 ?_;obtain⟨x2,hx2,ax2⟩:=kN (a:=V.str "stay") (b:=V.str "zero") b20 b21;refine aE (ag.of ht1) hx2 ?_;walk_at"";obtain⟨z2,rfl,oz2⟩:∃z,x2=.str z/\cI z:=by
   rcases ax2 with rfl|rfl
   ·exact⟨_,rfl,iP⟩
   ·exact⟨_,rfl,pP⟩
  refine aw λa2 H4 e4 ha2 _=>?_;walk_at"";refine aw λf H5 e5 hf hfn=>?_;have e15:Ext H1 H5:=e2.trans (e3.trans (e4.trans e5));have hfn0:H1 f=none:=(e2.trans (e3.trans e4)).none hfn;obtain⟨y1,hy1⟩:∃y:Way,y=⟨0,"stay",1,"a"⟩:=⟨_,rfl⟩;obtain⟨y2,hy2⟩:∃y:Way,y=⟨0,z2,1+(U:Int),"b"⟩:=⟨_,rfl⟩;have wl0:WL H1 H5 f [y1,y2]:=by
   refine⟨e15,[a1,a2],hf,?_⟩;have k1:H5 a1=some (.tup y1.vs):=by rw[hy1];exact e5 _ _ (e4 _ _ (e3 _ _ ha1))
   have k2:H5 a2=some (.tup y2.vs):=by rw[hy2];exact e5 _ _ ha2
   exact((aJ.nil H5).snoc k1).snoc k2
  have ok0:∀u∈[y1,y2],u.Ok3 m:=by
   intro u hu;rcases FX.mp hu with rfl|hu
   ·subst hy1;exact⟨Int.le_refl _,by show(0:Int)<m;omega,by show(0:Int)<=1;decide,by show(1:Int)<m;omega,iP,kO⟩
   ·rw[FT.mp hu];subst hy2;exact⟨Int.le_refl _,by show(0:Int)<m;omega,by show(0:Int)<=1+(U:Int);omega,by show 1+(U:Int)<m;omega,oz2,jq⟩
  have nd0:[y1,y2].Nodup:=by subst hy1 hy2;refine List.nodup_cons.mpr ⟨λz=>?_,by simp⟩;have:=congrArg Way.sign (FT.mp z);exact wC this
  have pr0:∀u∈[y1,y2],u.room<=((0:Nat):Int)/\u.sign≠"c":=by
   intro u hu;rcases FX.mp hu with rfl|hu
   ·subst hy1;exact⟨Int.le_refl _,wI⟩
   ·rw[FT.mp hu];subst hy2;exact⟨Int.le_refl _,qC⟩
  have ln0:[y1,y2].length=2:=rfl;generalize [y1,y2]=us0 at wl0 ok0 nd0 pr0 ln0;clear hy1 hy2 ha1 ha2 ht1 hf e2 e3 e4 e5;walk_at"";refine ck (by omega) ?_;refine forR (λi σ H3=>∃(k:Option V) (us:List Way),σ=[some (.int c),some (.int p),some (.ref dq),some (.int U),some (.int D),some (.int m),some (.ref f),k]/\WL H1 H3 f us/\(∀u∈us,u.Ok3 m)/\us.Nodup/\(∀u∈us,u.room<=(i:Int)/\u.sign≠"c")/\us.length=2+i)
   ⟨none,us0,rfl,wl0,ok0,nd0,pr0,ln0⟩ ?_ ?_
  ·rintro i σ H3 hi ⟨k,us,rfl,wl,ok,nd',pr,len⟩;rw[FV]at hi;walk_at"";refine⟨wl.ty (Ext.rfl' _),?_⟩;walk_at""
   try refine rd_I (show(0:Int)<(U:Int) by omega) ?_
   walk_at"";refine aw λv H4 e4 hv _=>?_;walk_at"";have r0:0<=(0+(i:Int)+1) % (U:Int):=Int.emod_nonneg _ (by omega);have r1:(0+(i:Int)+1) % (U:Int)<U:=Int.emod_lt_of_pos _ (by omega);obtain⟨xs,hx,hlx,wl'⟩:=wl.push (w:=⟨1+(0+(i:Int)),"up",1+(0+(i:Int)+1) % (U:Int),"a"⟩) hfn0 e4 hv;refine bT hx (cK (by omega)) ?_;walk_at"";refine⟨_,_,rfl,wl',eZ ok ⟨by show 0<=1+(0+(i:Int));omega,by show 1+(0+(i:Int))<m;omega,by show 0<=1+(0+(i:Int)+1) % (U:Int);omega,by show 1+(0+(i:Int)+1) % (U:Int)<m;omega,lS,kO⟩,iJ nd' λz=>?_,jR (λu hu=>⟨by have:=(pr u hu).1;omega,(pr u hu).2⟩) ⟨by show 1+(0+(i:Int))<=_;omega,wI⟩,by simp[len];omega⟩;have:=(pr _ z).1;have:1+(0+(i:Int))<=(i:Int):=this;omega
  clear wl0 ok0 nd0 pr0 ln0;rintro σ H3 ⟨k,us,rfl,wl,ok,nd',pr,len⟩;rw[FV]at pr len;walk_at"";refine ck (by omega) ?_;refine forR (λi σ H3=>∃(k:Option V) (us:List Way),σ=[some (.int c),some (.int p),some (.ref dq),some (.int U),some (.int D),some (.int m),some (.ref f),k]/\WL H1 H3 f us/\(∀u∈us,u.Ok3 m)/\us.Nodup/\(∀u∈us,u.room<=(U:Int)+(i:Int)/\u.sign≠"c"/\(u.room=1+(U:Int)->u.sign = "b"))/\us.length=2+U+i)
   ⟨_,us,rfl,wl,ok,nd',λu hu=>⟨by have:=(pr u hu).1;omega,(pr u hu).2,λz=>by have:=(pr u hu).1;omega⟩,len⟩ ?_ ?_
  ·clear wl ok nd' pr len;rintro i σ H3 hi ⟨k,us,rfl,wl,ok,nd',pr,len⟩;rw[FV]at hi;walk_at"";refine⟨wl.ty (Ext.rfl' _),?_⟩;walk_at"";refine aw λt1 H6 e6 ht1 _=>?_;walk_at"";refine aE (ag.of (e6 _ _ (wl.ext _ _ hd))) g3 ?_;obtain⟨x3,hx3,ax3⟩:=kN (a:=V.str "up") (b:=V.str "down") b30 b31;refine aE (ag.of ht1) hx3 ?_;walk_at"";obtain⟨z3,rfl,oz3⟩:∃z,x3=.str z/\cI z:=by
    rcases ax3 with rfl|rfl
    ·exact⟨_,rfl,lS⟩
    ·exact⟨_,rfl,mM⟩
   try refine rd_I (show(0:Int)<(D:Int) by omega) ?_
   walk_at"";refine aw λv H4 e4 hv _=>?_;walk_at"";have r0:0<=(0+(i:Int)+1) % (D:Int):=Int.emod_nonneg _ (by omega);have r1:(0+(i:Int)+1) % (D:Int)<D:=Int.emod_lt_of_pos _ (by omega);obtain⟨xs,hx,hlx,wl'⟩:=wl.push (w:=⟨1+(U:Int)+(0+(i:Int)),z3,1+(U:Int)+(0+(i:Int)+1) % (D:Int),"b"⟩) hfn0 (e6.trans e4) hv;refine bT hx (cK (by omega)) ?_;walk_at"";refine⟨_,_,rfl,wl',eZ ok ⟨by show 0<=1+(U:Int)+(0+(i:Int));omega,by show 1+(U:Int)+(0+(i:Int))<m;omega,by show 0<=1+(U:Int)+(0+(i:Int)+1) % (D:Int);omega,by show 1+(U:Int)+(0+(i:Int)+1) % (D:Int)<m;omega,oz3,jq⟩,iJ nd' λz=>?_,jR (λu hu=>⟨by have:=(pr u hu).1;omega,(pr u hu).2⟩) ⟨by show 1+(U:Int)+(0+(i:Int))<=_;omega,qC,λ_=>rfl⟩,by simp[len];omega⟩;have:=(pr _ z).1;have:1+(U:Int)+(0+(i:Int))<=(U:Int)+(i:Int):=this;omega
  clear wl ok nd' pr len;rintro σ H3 ⟨k,us,rfl,wl,ok,nd',pr,len⟩;rw[FV]at pr len;walk_at"";refine⟨wl.ty (Ext.rfl' _),?_⟩;walk_at"";refine aw λv H4 e4 hv _=>?_;walk_at"";obtain⟨xs,hx,hlx,wl2⟩:=wl.push (w:=⟨1,"stay",m-1,"c"⟩) hfn0 e4 hv;have ok2:=eZ ok (w:=⟨1,"stay",m-1,"c"⟩) ⟨by show(0:Int)<=1;decide,by show(1:Int)<m;omega,by show 0<=m-1;omega,by show m-1<m;omega,iP,m9⟩;have nd2:=iJ nd' (w:=⟨1,"stay",m-1,"c"⟩) λz=>(pr _ z).2.1 rfl;have pr2:=jR (P:=λu=>u.room<=(U:Int)+(D:Int)/\(u.room=1+(U:Int)->u.sign = "b")) (λu hu=>⟨(pr u hu).1,(pr u hu).2.2⟩) (w:=⟨1,"stay",m-1,"c"⟩) ⟨by show(1:Int)<=_;omega,λz=>by have:(1:Int)=1+(U:Int):=z;omega⟩;refine bT hx (cK (by omega)) ?_;generalize upd H4 f _=H5 at wl2 ⊢;generalize hus2:us++[_]=us2 at wl2 ok2 nd2 pr2;have len2:us2.length=3+U+D:=by rw[←hus2];simp[len];omega
  clear hus2 hx hlx hv e4 wl ok nd' pr len;walk_at"";refine⟨wl2.ty (Ext.rfl' _),?_⟩;walk_at"";refine aw λv H4 e4 hv _=>?_;walk_at"";obtain⟨xs,hx,hlx,wl3⟩:=wl2.push (w:=⟨1+(U:Int),"stay",m-1,"a"⟩) hfn0 e4 hv;have ok3:=eZ ok2 (w:=⟨1+(U:Int),"stay",m-1,"a"⟩) ⟨by show(0:Int)<=1+(U:Int);omega,by show 1+(U:Int)<m;omega,by show 0<=m-1;omega,by show m-1<m;omega,iP,kO⟩;have nd3:=iJ nd2 (w:=⟨1+(U:Int),"stay",m-1,"a"⟩) λz=>wC ((pr2 _ z).2 rfl);have pr3:=jR (P:=λu=>u.room<=(U:Int)+(D:Int)) (λu hu=>(pr2 u hu).1) (w:=⟨1+(U:Int),"stay",m-1,"a"⟩) (by show 1+(U:Int)<=_;omega);refine bT hx (cK (by omega)) ?_;generalize upd H4 f _=H6 at wl3 ⊢;generalize hus3:us2++[_]=us3 at wl3 ok3 nd3 pr3;have len3:us3.length=4+U+D:=by rw[←hus3];simp[len2];omega
  clear hus3 hx hlx hv e4 wl2 ok2 nd2 pr2 len2;walk_at"";refine jE (λσ' H'=>∃(k:Option V) (us:List Way),σ'=[some (.int c),some (.int p),some (.ref dq),some (.int U),some (.int D),some (.int m),some (.ref f),k]/\WL H1 H' f us/\(∀u∈us,u.Ok3 m)/\us.Nodup/\(∀u∈us,u.room<=(U:Int)+(D:Int)\/u.sign = "c")/\us.length<=5+U+D) ?_ ?_
  ·walk_at"";refine aE (ag.of (wl3.ext _ _ hd)) g4 ?_;walk_at"";refine fW (λh=>?_) (λh=>?_)
   ·walk_at"";refine⟨wl3.ty (Ext.rfl' _),?_⟩;walk_at"";refine aw λv H4 e4 hv _=>?_;walk_at"";obtain⟨xs,hx,hlx,wl4⟩:=wl3.push (w:=⟨m-1,"down",m-1,"c"⟩) hfn0 e4 hv;refine bT hx (cK (by omega)) ?_;walk_at"";exact⟨_,_,rfl,wl4,eZ ok3 ⟨by show 0<=m-1;omega,by show m-1<m;omega,by show 0<=m-1;omega,by show m-1<m;omega,mM,m9⟩,iJ nd3 λz=>by have:m-1<=(U:Int)+(D:Int):=pr3 _ z;omega,jR (λu hu=>.inl (pr3 u hu)) (.inr rfl),by simp[len3];omega⟩
   ·walk_at"";exact⟨_,us3,rfl,wl3,ok3,nd3,λu hu=>.inl (pr3 u hu),by omega⟩
  clear wl3 ok3 nd3 pr3 len3;rintro σ' H7 ⟨k,us,rfl,wl,ok,nd',pr,len⟩;walk_at"";refine jE (λσ' H'=>∃(k:Option V) (us:List Way),σ'=[some (.int c),some (.int p),some (.ref dq),some (.int U),some (.int D),some (.int m),some (.ref f),k]/\WL H1 H' f us/\(∀u∈us,u.Ok3 m)/\us.Nodup/\us.length<=6+U+D) ?_ ?_
  ·walk_at"";refine aE (ag.of (wl.ext _ _ hd)) g5 ?_;walk_at"";refine fW (λh=>?_) (λh=>?_)
   ·walk_at"";refine⟨wl.ty (Ext.rfl' _),?_⟩;walk_at"";refine aw λv H4 e4 hv _=>?_;walk_at"";obtain⟨xs,hx,hlx,wl4⟩:=wl.push (w:=⟨m-1,"zero",0,"b"⟩) hfn0 e4 hv;refine bT hx (cK (by omega)) ?_;walk_at"";exact⟨_,_,rfl,wl4,eZ ok ⟨by show 0<=m-1;omega,by show m-1<m;omega,by show(0:Int)<=0;decide,by show(0:Int)<m;omega,pP,jq⟩,iJ nd' (λz=>(pr _ z).elim (λy=>by have:m-1<=(U:Int)+(D:Int):=y;omega) λy=>qC y),by simp;omega⟩
   ·walk_at"";exact⟨_,us,rfl,wl,ok,nd',by omega⟩
  clear wl ok nd' pr len;rintro σ' H8 ⟨k,us,rfl,wl,ok,nd',len⟩;walk_at"";refine jE (λσ' H'=>∃(k:Option V) (f:Addr) (cs:List Addr) (us:List Way),σ'=[some (.int c),some (.int p),some (.ref dq),some (.int U),some (.int D),some (.int m),some (.ref f),k]/\Ext H1 H'/\H' f=some (.lst (cs.map V.ref))/\aJ H' cs us/\(∀u∈us,u.Ok3 m)/\us.Nodup/\us.length<=6+U+D) ?_ ?_
  ·walk_at"";refine aE (ag.of (wl.ext _ _ hd)) g6 ?_;walk_at"";obtain⟨ew,cs,hcs,al⟩:=wl;refine fW (λh=>?_) (λh=>?_)
   ·walk_at"";refine⟨rfl,E6 (ag.of hcs) (cM λr H9 e9 hr9 _=>?_)⟩;walk_at"";exact⟨_,r,cs.reverse,us.reverse,rfl,ew.trans e9,by rw[hr9,List.map_reverse],(al.ext e9).rev,λu hu=>ok u (List.mem_reverse.mp hu),List.pairwise_reverse.mpr (nd'.imp λh=>Ne.symm h),by rw[List.length_reverse];omega⟩
   ·walk_at"";exact⟨_,f,cs,us,rfl,ew,hcs,al,ok,nd',by omega⟩
  clear wl ok nd' len;rintro σ' H9 ⟨k,g,cs,us,rfl,ew,hcs,al,ok,nd',len⟩;walk_at"";refine lT (ag.of hcs) (cM λr I1 i1 hr1 _=>?_);walk_at"";refine aw λt I2 i2 ht _=>?_;exact q _ m us I2 (eH.trans (ew.trans (i1.trans i2))) (bh.mk ht (((al.ext i1).ways hr1).ext i2)) ⟨by omega,by omega,by omega,ok,nd'⟩
def yh(K:FD):Sp:=λvs H Q _=>∃c p,vs=[.int c,.int p]/\0<p/\∀v m ws H',Ext H H'->bh H' v m ws->HOuse3 m ws->Q v H'
abbrev nj:Stmt:=stq 74
def wD:FnScope ["_law_cell_here","_law_prime","_law_kind_here","_law_left"] ["_law_cell_here","_law_prime"] (aA nj):=⟨rfl,rfl,rfl,by decide +kernel,rfl,by decide +kernel,by decide +kernel⟩
def Ex{P:Program}{w:World}{K:FD}{mg:Str->Option Value}{base:Heap}(D:Dfn K mg "_law_house" nj ["_law_cell_here","_law_prime"])(T:Blt mg)(C__law_drawn_house:Cal P w K mg base "_law_drawn_house" 3 ["_law_cell_here","_law_prime"] (sE K))(C__law_gate_house:Cal P w K mg base "_law_gate_house" 3 ["_law_cell_here","_law_prime"] (tG K))(C__law_ring_house:Cal P w K mg base "_law_ring_house" 3 ["_law_cell_here","_law_prime"] (xx K))(C__law_spare:Cal P w K mg base "_law_spare" 1 ["_law_cell_here","_law_width"] (qU K))(C__law_draws:Cal P w K mg base "_law_draws" 2 ["_law_cell_here","_law_widths","_law_prime"] (gn K)):Cal P w K mg base "_law_house" 4 ["_law_cell_here","_law_prime"] (yh K):=by
 have nd:=(wD).nd;refine D.ok wD (λvs H Q E h=>?_) (λX hX H vs Q E h=>?_)
 ·obtain⟨c,p,rfl,_⟩:=h;rfl
 ·obtain⟨f,cdv,A,outer,s,H0,E0,rfl,hr⟩:=hX;obtain⟨c,p,rfl,hp,q⟩:=h;refine⟨_,(ai (aM (i:=2) nd rfl (Or.inl rfl) (ah (aF K) (aD C__law_draws hr (aa (pv 0) (aa (bo (aa af ae)) (aa (pv 1) ae)))) af (λ_ _=>rfl)))
    (ai (aM (i:=3) nd rfl (Or.inl rfl) (aD C__law_spare hr (aa (pv 0) (aa af ae))))
    (ai (bD (aT bX (pv 2) af (aP _)) (aj (aG (aD C__law_ring_house hr (aa (pv 3) (aa (pv 1) ae))))) aU)
    (ai (bD (aT bX (pv 2) af (aP _)) (aj (aG (aD C__law_gate_house hr (aa (pv 3) (aa (pv 1) ae))))) aU)
    (aj (aG (aD C__law_drawn_house hr (aa (pv 3) (aa (pv 1) ae))))))))),?_⟩
  walk_at"";refine aw λw0 G1 f1 hw0 _=>?_;walk_at"";refine iG [8] hw0 (by decide) (by decide) (hp) λdq ds H1 e1 hd hdn hl hb=>?_;have eH:Ext H H1:=f1.trans e1;obtain⟨d0,g0,_⟩:=cP hl hb 0 rfl;walk_at"";refine aE (ag.of hd) g0 ?_;walk_at"";refine⟨c,8,rfl,by decide,by decide,λz=>?_⟩;walk_at"";refine fW (λh=>?_) (λh=>?_)
  ·walk_at"";exact⟨z,p,rfl,hp,λv m ws H' e hv ok=>q v m ws H' (eH.trans e) hv ok⟩
  ·walk_at"";refine fW (λh=>?_) (λh=>?_)
   ·walk_at"";exact⟨z,p,rfl,hp,λv m ws H' e hv ok=>q v m ws H' (eH.trans e) hv ok⟩
   ·walk_at"";exact⟨z,p,rfl,hp,λv m ws H' e hv ok=>q v m ws H' (eH.trans e) hv ok⟩
def rG{H:Hp}{m:Int}{xs:List V}{x:V}(hx:x∈xs)(h:bP H m x=false):fm H m xs=false:=by
 unfold fm;have:xs.all (bP H m)=false:=by rw[List.all_eq_false];exact⟨x,hx,by rw[h];exact FY⟩
 rw[this,Bool.false_and,Bool.and_false]
def Dk{m i:Int}(h:i<0):cF m (.int i)=false:=by unfold cF;dsimp only;rw[GD (show ¬0<=i by omega)];rfl
def rW{m i:Int}(h:m<=i):cF m (.int i)=false:=by unfold cF;dsimp only;rw[GD (show ¬i<m by omega)];exact Bool.and_false _
def tL{m i:Int}(h:0<=i)(h':i<m):cF m (.int i)=true:=by unfold cF;dsimp only;rw[GF h,GF h'];rfl
def gy{m:Int}{a b c d:V}(h:cF m a=false\/cF m c=false\/gG b=false\/gW d=false):fU m [a,b,c,d]=false:=by unfold fU;dsimp only;rcases h with h|h|h|h<;>rw[h]<;>simp
def b7(H:Hp)(n:Nat)(xs:List V):Prop:=∀x∈xs,bp H n x
def b7.ext{H H':Hp}{n:Nat}{xs:List V}(e:Ext H H')(h:b7 H n xs):b7 H' n xs:=λx hx=>(h x hx).ext e
def b7.cut{H:Hp}{n:Nat}{xs:List V}{lo hi:Option Int}(h:b7 H n xs):b7 H n (bW xs lo hi):=λx hx=>h x (List.mem_of_mem_drop (List.mem_of_mem_take hx))
def b7.app{H:Hp}{n:Nat}{xs ys:List V}(h:b7 H n xs)(h':b7 H n ys):b7 H n (xs++ys):=λx hx=>(F8.mp hx).elim (h x) (h' x)
def b7.nil(H:Hp)(n:Nat):b7 H n []:=λx hx=>by cases hx
def b7.cons{H:Hp}{n:Nat}{x:V}{xs:List V}(h:bp H n x)(h':b7 H n xs):b7 H n (x::xs):=λy hy=>by
 rcases FX.mp hy with rfl|hy
 ·exact h
 ·exact h' y hy
def bB{H:Hp}{n:Nat}{p:Addr}{xs:List V}(h:H p=some (.tup xs))(hl:xs.length<=2000)(hx:b7 H n xs):bp H (n+1) (.ref p):=⟨xs,.inl h,hl,hx⟩
def kI{H:Hp}{n:Nat}{p:Addr}{xs:List V}(h:H p=some (.lst xs))(hl:xs.length<=2000)(hx:b7 H n xs):bp H (n+1) (.ref p):=⟨xs,.inr h,hl,hx⟩
def bp.up{H:Hp}:∀{n:Nat} {v:V},bp H n v->bp H (n+1) v:=by
 intro n;induction n with
 | zero=>
  intro v h;cases v<;>first|exact h|exact h.elim
 | succ n ih=>
  intro v h;cases v with
  | ref p=>
   obtain⟨xs,h1,h2,h3⟩:=h;exact⟨xs,h1,h2,λx hx=>ih (h3 x hx)⟩
  | _=>exact h
def b7.up{H:Hp}{n:Nat}{xs:List V}(h:b7 H n xs):b7 H (n+1) xs:=λx hx=>(h x hx).up
def bA(H:Hp)(n:Nat)(i:Int):bp H n (.int i):=by cases n<;>trivial
def nK(H:Hp)(n:Nat):bp H n .non:=by cases n<;>trivial
def uD(H:Hp)(n:Nat)(b:Bool):bp H n (.bl b):=by cases n<;>trivial
def cb(H:Hp)(n:Nat){z:Str}(h:z.length<=1000):bp H n (.str z):=by cases n<;>exact h
def om{xs:List V}{lo hi:Option Int}{k:Nat}(h:xs.length<=k):(bW xs lo hi).length<=k:=Gh (mX xs lo hi) h
def Ds{z:Str}(h:cI z):z.length<=1000:=by rcases h with rfl|rfl|rfl|rfl<;>decide +kernel
def Dg{z:Str}(h:x9 z):z.length<=1000:=by obtain⟨c,_,_,rfl⟩:=h;show 1<=1000;decide
def yM{H:Hp}{m:Int}{w:Way}(ok:w.Ok m):b7 H 0 w.vs:=
 .cons (bA _ _ _) (.cons (cb _ _ (Ds ok.dd)) (.cons (bA _ _ _) (.cons (cb _ _ (Dg ok.sg)) (.nil _ _))))
def vA{H:Hp}{v:V}{m:Int}{ws:List Way}(h:bh H v m ws)(ok:HOuse m ws):∃p q bs,v=.ref p/\H p=some (.tup [.int m,.ref q])/\H q=some (.tup (bs.map V.ref))/\bs.length=ws.length/\aJ H bs ws/\b7 H 1 (bs.map V.ref):=by
 obtain⟨p,q,rfl,h1,h2⟩:=h;obtain⟨bs,h3,h4⟩:=h2.al;refine⟨p,q,bs,rfl,h1,h3,h4.1,h4,λx hx=>?_⟩;obtain⟨b,hb,rfl⟩:=List.mem_map.mp hx;obtain⟨j,hj,e⟩:=List.mem_iff_getElem.mp hb;have hjw:j<ws.length:=by rw[←h4.1];exact hj
 have hw:ws[j]?=some ws[j]:=FI hjw;exact bB (h4.2 j b _ (by rw[FI hj,e]) hw) (by show 4<=2000;decide) (yM (ok.ok _ (Gb _)))
def CF{c:Nat}(h1:97<=c)(h2:c<=122):kE ⟨#[c]⟩=true:=by
 have ea:(Gp "a").cps.toList=[97]:=by decide +kernel
 have ez:(Gp "z").cps.toList=[122]:=by decide +kernel
 unfold kE;rw[ea,ez];show(!decide (([c]:List Nat) < [97]) && !decide (([122]:List Nat) < [c]))=true;rw[GD (λz=>by rw[List.cons_lt_cons_iff]at z;simp at z;omega),GD (λz=>by rw[List.cons_lt_cons_iff]at z;simp at z;omega)];rfl
def Ar{z:Str}(h:cI z):gG (.str z)=true:=by rcases h with rfl|rfl|rfl|rfl<;>decide +kernel
def De{H:Hp}{b:Addr}{m:Int}{w:Way}(h:H b=some (.tup w.vs))(ok:w.Ok m):bP H m (.ref b)=true:=by rw[eB h];obtain⟨c,h1,h2,e⟩:=ok.sg;unfold Way.vs fU;dsimp only;rw[tL ok.r0 ok.r1,tL ok.o0 ok.o1,Ar ok.dd,e];unfold gW;dsimp only;rw[CF h1 h2];rfl
def uW{H:Hp}:∀{bs:List Addr} {ws:List Way},aJ H bs ws->(bs.map V.ref).map (cZ H)=ws.map Way.key
 | [],[],_=>rfl
 | [],_::_,h=>by cases h.1
 | _::_,[],h=>by cases h.1
 | b::bs,w::ws,h=>by rw[List.map_cons,List.map_cons,List.map_cons,uW (bs:=bs) (ws:=ws) ⟨Nat.succ.inj h.1,λj b w e1 e2=>h.2 (j+1) b w e1 e2⟩,q0 (h.2 0 b w rfl rfl)];rfl
def Ae{H:Hp}{m:Int}{bs:List Addr}{ws:List Way}(h:aJ H bs ws)(ok:∀w∈ws,w.Ok m):(bs.map V.ref).all (bP H m)=true:=by
 rw[Gj];intro x hx;obtain⟨b,hb,rfl⟩:=List.mem_map.mp hx;obtain⟨j,hj,e⟩:=List.mem_iff_getElem.mp hb;have hjw:j<ws.length:=by rw[←h.1];exact hj
 exact De (h.2 j b _ (by rw[FI hj,e]) (FI hjw)) (ok _ (Gb hjw))
def Ee{H:Hp}{p q:Addr}{m:Int}{bs:List Addr}{ws:List Way}(h1:H p=some (.tup [.int m,.ref q]))(h2:H q=some (.tup (bs.map V.ref)))(h3:aJ H bs ws)(m1:1<=m)(m2:m<=12)(ok:∀w∈ws,w.Ok m)(nd:ws.Nodup):dj H (.ref p)=decide (ws.length<=100):=by
 rw[dH h1];unfold dP;dsimp only;rw[GF m1,GF m2,jf h2];unfold fm;have hk:(ws.map Way.key).Nodup:=by unfold List.Nodup at nd ⊢;rw[List.pairwise_map];exact nd.imp λne e=>ne (Way.key_inj e)
 rw[Ae h3 ok,uW h3,GF hk,FH,h3.1];simp
def Fc{H H':Hp}{m:Int}{n:Nat}{v:V}(e:Ext H H')(h:bp H (n+1) v):dW H' m v=dW H m v:=by
 cases v with
 | ref p=>
  obtain⟨xs,h1,_,h3⟩:=h;unfold dW;dsimp only;rcases h1 with h1|h1
  ·rw[h1,e _ _ h1];dsimp only;unfold fm;have e1:xs.all (bP H' m)=xs.all (bP H m):=by rw[Gm,Gj,Gj];exact⟨λz x hx=>by rw[←lC e (h3 x hx)];exact z x hx,λz x hx=>by rw[lC e (h3 x hx)];exact z x hx⟩
   have e2:xs.map (cZ H')=xs.map (cZ H):=List.map_congr_left λx hx=>AS e (h3 x hx);rw[e1,e2]
  ·rw[h1,e _ _ h1]
 | _=>rfl
def DA{H H':Hp}{v:V}(e:Ext H H')(h:bp H 4 v):dj H' v=dj H v:=by
 cases v with
 | ref p=>
  obtain⟨xs,h1,_,h3⟩:=h;unfold dj;dsimp only;rcases h1 with h1|h1
  ·rw[h1,e _ _ h1];dsimp only;unfold dP;split
   ·rename_i m q _hl;rw[Fc e (h3 q (by simp))]
   ·rfl
  ·rw[h1,e _ _ h1]
 | _=>rfl
def y7{xs:List V}{k:Nat}:bW xs none (some (k:Int))=xs.take k:=by
 unfold bW;rw[HT.pR,HT.pJ,List.drop_zero,Nat.sub_zero];by_cases h:k<=xs.length
 ·rw[Nat.min_eq_left h]
 ·rw[Nat.min_eq_right (by omega),List.take_of_length_le (F5 _),List.take_of_length_le (by omega)]
def cY(H:Hp)(v:V):Prop:=bp H 4 v/\dj H v=false
def cY.ext{H H':Hp}{v:V}(e:Ext H H')(h:cY H v):cY H' v:=⟨h.1.ext e,(DA e h.1).trans h.2⟩
def Ref(K:FD)(H:Hp)(E:XK):Prop:=∀H',Ext H H'->E (.ref (cA K "NoHouse")) none H'
def gv(K:FD):Sp:=λvs H Q E=>∃v,vs=[v]/\bp H 4 v/\∀H',Ext H H'->if dj H v=true then Q .non H' else E (.ref (cA K "NoHouse")) none H'
abbrev mh:Stmt:=stq 38
def vY:FnScope ["thing"] ["thing"] (aA mh):=⟨rfl,rfl,rfl,by decide +kernel,rfl,by decide +kernel,by decide +kernel⟩
def yU{P:Program}{w:World}{K:FD}{mg:Str->Option Value}{base:Heap}(D:Dfn K mg "refuse_no_house" mh ["thing"])(T:Blt mg)(XF:Xf K mg base fz gx)(C_is_house:Cal P w K mg base "is_house" 5 ["thing"] (sU K)):CalX P w K mg base "refuse_no_house" 6 ["thing"] (gv K):=by
 have nd:=(vY).nd;refine D.okX vY (λvs H Q E h=>?_) (λf cdv A outer s H vs Q E hr h=>?_)
 ·obtain⟨v,rfl,_⟩:=h;rfl
 ·obtain⟨v,rfl,ht,q⟩:=h;refine⟨_,(aj (bD (dh (bE (aD C_is_house hr (aa (pv 0) ae)))) (aj (ke (XF.own "NoHouse" (by decide +kernel)) PySem.F.excBase_ValueError (aa az ae))) aU)),?_⟩;walk_at"";refine⟨v,rfl,ht,λH1 e1=>?_⟩;have q1:=q H1 e1;walk_at"";cases hv:dj H v with
  | true=>
   rw[hv,GH rfl]at q1;refine aq ?_;walk_at"";exact q1
  | false=>
   rw[hv,GG FY]at q1;refine ax ?_;walk_at"";exact⟨bI (by simp),q1⟩
def refuses{K:FD}{H:Hp}{v:V}{Q:VK}{E:XK}(hv:cY H v)(q:Ref K H E):gv K [v] H Q E:=
 ⟨v,rfl,hv.1,λH1 e1=>by rw[hv.2];exact aq (q H1 e1)⟩
def yy{H:Hp}{v:V}{m:Int}{ws:List Way}(hv:bh H v m ws)(ok:HOuse m ws):bp H 4 v/\dj H v=true:=by obtain⟨p,q,bs,rfl,h1,h2,h3,h4,h5⟩:=vA hv ok;have hfew:=ok.few;have t2:bp H 2 (.ref q):=bB h2 (by rw[FH,h3];omega) h5;exact⟨bB h1 (by simp) (.cons (bA _ _ _) (.cons t2.up (.nil _ _))),(Ee h1 h2 h4 ok.m1 ok.m12 ok.ok ok.nd).trans (GF ok.few)⟩
def accepts{K:FD}{H:Hp}{v:V}{m:Int}{ws:List Way}{Q:VK}{E:XK}(hv:bh H v m ws)(ok:HOuse m ws)(q:∀H',Ext H H'->Q .non H'):gv K [v] H Q E:=
 ⟨v,rfl,(yy hv ok).1,λH1 e1=>by rw[(yy hv ok).2];exact ax (q H1 e1)⟩
def dX(K:FD)(H:Hp)(E:XK)(c:Str):Prop:=∀H',Ext H H'->E (.ref (cA K c)) none H'
def dX.ext{K:FD}{H H':Hp}{E:XK}{c:Str}(e:Ext H H')(h:dX K H E c):dX K H' E c:=λJ eJ=>h J (e.trans eJ)
def tj(m p:Int):cF m (.int p)=true↔0<=p/\p<m:=by unfold cF;simp
def jt{a b:Str}:decide (V.str a=V.str b)=decide (a=b):=by
 by_cases h:a=b
 ·subst h;simp
 ·rw[GD h,GD (λz=>h (V.str.inj z))]
def nI{a b:Str}{H:Hp}{Q:VK}(h:Q (.bl (decide (a=b))) H):jc (.str a) (.str b) H Q:=⟨rfl,by rw[jt];exact h⟩
def yA{a b:Str}{H:Hp}{Q:VK}(h:Q (.bl (!decide (a=b))) H):j7 (.str a) (.str b) H Q:=⟨rfl,by rw[jt];exact h⟩
def gr{α β:Type}{F:α->β->Prop}{cs:List α}{ts:List β}(h:Paired F cs ts):∀{i:Nat} {c:α},cs[i]?=some c->∃t,ts[i]?=some t/\F c t:=by
 induction h with
 | nil=>intro i c e;simp at e
 | cons h t ih=>
  intro i c e;cases i with
  | zero=>cases e;exact⟨_,rfl,h⟩
  | succ i=>exact ih e
def BW{α β:Type}{F:α->β->Prop}{cs:List α}{ts:List β}(h:Paired F cs ts):∀{i:Nat} {t:β},ts[i]?=some t->∃c,cs[i]?=some c/\F c t:=by
 induction h with
 | nil=>intro i c e;simp at e
 | cons h t ih=>
  intro i c e;cases i with
  | zero=>cases e;exact⟨_,rfl,h⟩
  | succ i=>exact ih e
abbrev aB(H:Hp)(a:Addr)(x:Bfs.Pl):Prop:=H a=some (.tup [.int x.1,.int x.2])
abbrev bZ(x:Bfs.Pl):List Key:=[.inl x.1,.inl x.2]
def vV{x y:Bfs.Pl}(h:bZ x=bZ y):x=y:=by simp only[bZ,List.cons.injEq,Sum.inl.injEq,and_true]at h;exact Prod.ext h.1 h.2
def aB.put{H:Hp}{f a:Addr}{x:Bfs.Pl}{o o':HO}(hf:H f=some o)(hn:∀xs,o≠.tup xs)(h:aB H a x):aB (upd H f o') a x:=by show upd H f o' a=_;rw[aC (fj h hf (λz=>hn _ z.symm))];exact h
def nH(m:Int)(x:Bfs.Pl):Prop:=0<=x.1/\x.1<m/\0<=x.2/\x.2<=1000
def dv(m:Int)(x:Bfs.Pl):Prop:=0<=x.1/\x.1<m/\0<=x.2
def Cd(K:FD)(m:Int)(xs:List Bfs.Pl)(H:Hp)(Q:Hp->Prop)(E:XK):Prop:=
 ((∃x∈xs,¬dv m x)/\dX K H E "NoPlace")\/((∀x∈xs,dv m x)/\(∃x∈xs,1000<x.2)/\dX K H E "TooGreat")\/((∀x∈xs,nH m x)/\Q H)
def mW(K:FD):Sp:=λvs H Q E=>∃hp hq m l as xs,vs=[.ref hp,.ref l]/\H hp=some (.tup [.int m,hq])/\H l=some (.lst (List.map V.ref as))/\Paired (aB H) as xs/\Cd K m xs H (Q .non) E
abbrev qe:Stmt:=stq 39
def tu:FnScope ["house","places","place"] ["house","places"] (aA qe):=⟨rfl,rfl,rfl,by decide +kernel,rfl,by decide +kernel,by decide +kernel⟩
def EA{P:Program}{w:World}{K:FD}{mg:Str->Option Value}{base:Heap}(D:Dfn K mg "refuse_bad_places" qe ["house","places"])(T:Blt mg)(g_GREATEST_NUMBER:∃t,mg "GREATEST_NUMBER" = some (.int 1000 t))(XF:Xf K mg base fz gx)(C_is_room:Cal P w K mg base "is_room" 2 ["thing","many"] (qN K)):CalX P w K mg base "refuse_bad_places" 3 ["house","places"] (mW K):=by
 have nd:=(tu).nd;refine D.okX tu (λvs H Q E h=>?_) (λf cdv A outer s H vs Q E hr h=>?_)
 ·obtain⟨hp,hq,m,l,as,xs,rfl,_⟩:=h;rfl
 ·obtain⟨t_GREATEST_NUMBER,c_GREATEST_NUMBER⟩:=g_GREATEST_NUMBER;obtain⟨hp,hq,m,l,as,xs,rfl,h1,h2,h3,q⟩:=h;have hln:=Paired.length h3;refine⟨_,(ai (bV PassesOwn.leaving rfl (cD K (pv 1)) (aS (i:=2) nd rfl (Or.inl rfl)) (aj (bD (PW.pt (dn (dh (bE (aD C_is_room hr (aa (ah (aH K) (pv 2) af (λ_ _=>rfl)) (aa (ah (aH K) (pv 0) af (λ_ _=>rfl)) ae))))) (eo (aT f6 (ah (aH K) (pv 2) af (λ_ _=>rfl)) af (aP _))))) (aj (ke (XF.own "NoPlace" (by decide +kernel)) PySem.F.excBase_ValueError (aa az ae))) aU)))
    (aj (bV PassesOwn.leaving rfl (cD K (pv 1)) (aS (i:=2) nd rfl (Or.inl rfl)) (aj (bD (aT fK (ah (aH K) (pv 2) af (λ_ _=>rfl)) (cx (v:=.int 1000) rfl c_GREATEST_NUMBER ⟨_,rfl⟩) (aP _)) (aj (ke (XF.own "TooGreat" (by decide +kernel)) PySem.F.excBase_ValueError (aa (wM (cx (v:=.int 1000) rfl c_GREATEST_NUMBER ⟨_,rfl⟩)) ae))) aU))))),?_⟩
  walk_at"";refine cG (ag.of h2) ?_;refine forL (xs:=List.map V.ref as) (λi σ H'=>H'=H/\(∃k,σ=[some (.ref hp),some (.ref l),k])/\∀j y,j<i->xs[j]?=some y->dv m y) ⟨rfl,⟨none,rfl⟩,λj y h=>by omega⟩ (λi σ H' _ h=>by rw[h.1];exact ag.of h2) ?_ ?_
  ·rintro i x σ H' hx ⟨rfl,⟨k,rfl⟩,hok⟩;rw[FJ]at hx;obtain⟨b,hb,rfl⟩:=FU.mp hx;obtain⟨t,ht,hp3⟩:=gr h3 hb;walk_at"";refine aI (ao.of hp3) (v:=.int t.1) rfl ?_;walk_at"";refine aI (ao.of h1) (v:=.int m) rfl ?_;walk_at"";refine⟨_,_,"int",rfl,rfl,?_⟩;have bad:¬dv m t->E (.ref (cA K "NoPlace")) none H':=λhn=>by
    rcases q with⟨_,q⟩|⟨q,_⟩|⟨q,_⟩
    ·exact q _ (Ext.rfl' _)
    ·exact absurd (q t (FR ht)) hn
    ·obtain⟨a,b,c,_⟩:=q t (FR ht);exact absurd ⟨a,b,c⟩ hn
   cases hr:cF m (.int t.1)with
   | false=>
    walk_at"";refine ax ?_;walk_at"";refine⟨bI (by simp),bad λz=>?_⟩;rw[(tj m t.1).mpr ⟨z.1,z.2.1⟩]at hr;cases hr
   | true=>
    obtain⟨r0,r1⟩:=(tj m t.1).mp hr;walk_at"";refine aq ?_;walk_at"";refine aI (ao.of hp3) (v:=.int t.2) rfl ?_;walk_at"";by_cases hn:t.2<0
    ·rw[GF hn];refine ax ?_;walk_at"";refine⟨bI (by simp),bad λz=>?_⟩;have:=z.2.2;omega
    rw[GD hn];refine aq ?_;walk_at"";refine⟨rfl,⟨_,rfl⟩,λj y hj hy=>?_⟩;by_cases hji:j=i
    ·subst hji;rw[ht]at hy;cases hy;exact⟨r0,r1,by omega⟩
    ·exact hok j y (by omega) hy
  ·rintro σ H' ⟨rfl,⟨k,rfl⟩,hok⟩;rw[FH]at hok;have all:∀x∈xs,dv m x:=λx hx=>by obtain⟨j,hj,e⟩:=List.mem_iff_getElem.mp hx;exact hok j x (by omega) (by rw[FI hj,e])
   have q2:((∃x∈xs,1000<x.2)/\dX K H' E "TooGreat")\/((∀x∈xs,nH m x)/\Q .non H'):=by
    rcases q with⟨⟨x,hx,hn⟩,_⟩|⟨_,q⟩|q
    ·exact absurd (all x hx) hn
    ·exact .inl q
    ·exact .inr q
   clear q hok;walk_at"";refine cG (ag.of h2) ?_;refine forL (xs:=List.map V.ref as) (λi σ H2=>H2=H'/\(∃k,σ=[some (.ref hp),some (.ref l),k])/\∀j y,j<i->xs[j]?=some y->¬1000<y.2) ⟨rfl,⟨_,rfl⟩,λj y h=>by omega⟩ (λi σ H2 _ h=>by rw[h.1];exact ag.of h2) ?_ ?_
   ·rintro i x σ H2 hx ⟨rfl,⟨k,rfl⟩,hle⟩;rw[FJ]at hx;obtain⟨b,hb,rfl⟩:=FU.mp hx;obtain⟨t,ht,hp3⟩:=gr h3 hb;walk_at"";refine aI (ao.of hp3) (v:=.int t.2) rfl ?_;walk_at"";by_cases hn:(1000:Int)<t.2
    ·rw[GF hn];refine ax ?_;walk_at"";refine⟨by decide,by decide +kernel,λz=>?_⟩;walk_at"";refine⟨bI (by simp),?_⟩;rcases q2 with⟨_,q⟩|⟨q,_⟩
     ·exact q _ (Ext.rfl' _)
     ·have:=(q t (FR ht)).2.2.2;omega
    rw[GD hn];refine aq ?_;walk_at"";refine⟨rfl,⟨_,rfl⟩,λj y hj hy=>?_⟩;by_cases hji:j=i
    ·subst hji;rw[ht]at hy;cases hy;exact hn
    ·exact hle j y (by omega) hy
   ·rintro σ H2 ⟨rfl,⟨k,rfl⟩,hle⟩;rw[FH]at hle;walk_at"";rcases q2 with⟨⟨x,hx,hn⟩,_⟩|⟨_,q⟩
    ·obtain⟨j,hj,e⟩:=List.mem_iff_getElem.mp hx;exact absurd hn (hle j x (by omega) (by rw[FI hj,e]))
    ·exact q
def cW(w:Way)(r n:Int):Bool:=decide (w.room=r) && (if decide (w.deed = "down")=true then decide (0<n)else(!decide (w.deed = "zero") || decide (n=0)))
def tD(K:FD):Sp:=λvs H Q _=>∃b w p x,vs=[.ref b,.ref p]/\H b=some (.tup (Way.vs w))/\aB H p x/\Q (.bl (cW w x.1 x.2)) H
abbrev pE:Stmt:=stq 40
def wx:FnScope ["way","place"] ["way","place"] (aA pE):=⟨rfl,rfl,rfl,by decide +kernel,rfl,by decide +kernel,by decide +kernel⟩
def zd{P:Program}{w:World}{K:FD}{mg:Str->Option Value}{base:Heap}(D:Dfn K mg "is_open" pE ["way","place"])(T:Blt mg):Cal P w K mg base "is_open" 1 ["way","place"] (tD K):=by
 have nd:=(wx).nd;refine D.ok wx (λvs H Q E h=>?_) (λX hX H vs Q E h=>?_)
 ·obtain⟨b,w,p,x,rfl,_⟩:=h;rfl
 ·obtain⟨f,cdv,A,outer,s,H0,E0,rfl,hr⟩:=hX;obtain⟨b,w,p,⟨r,n⟩,rfl,h1,h2,q⟩:=h;refine⟨_,(ai (bD (aT dG (ah (aH K) (pv 0) af (λ_ _=>rfl)) (ah (aH K) (pv 1) af (λ_ _=>rfl)) (aP _)) (aj (aG bN)) aU)
    (ai (bD (aT bX (ah (aH K) (pv 0) af (λ_ _=>rfl)) az (aP _)) (aj (aG (eG fK (ah (aH K) (pv 1) af (λ_ _=>rfl)) af (aP _)))) aU)
    (aj (aG (vB (eG dG (ah (aH K) (pv 0) af (λ_ _=>rfl)) az (aP _)) (eY (eG bX (ah (aH K) (pv 1) af (λ_ _=>rfl)) af (aP _)))))))),?_⟩
  walk_at"";refine aI (ao.of h1) (v:=.int w.room) rfl ?_;walk_at"";refine aI (ao.of h2) (v:=.int r) rfl ?_;walk_at"";unfold cW at q;dsimp only at q;by_cases e:w.room=r
  ·rw[GF e];refine aq ?_;walk_at"";rw[GF e,Bool.true_and]at q;refine aI (ao.of h1) (v:=.str w.deed) rfl ?_;walk_at"";refine nI ?_;refine rd_exb ?_;cases ed:decide (w.deed = "down")with
   | true=>
    rw[ed]at q;refine ax ?_;walk_at"";refine aI (ao.of h2) (v:=.int n) rfl ?_;walk_at"";exact q
   | false=>
    rw[ed]at q;refine aq ?_;walk_at"";refine aI (ao.of h1) (v:=.str w.deed) rfl ?_;walk_at"";refine yA ?_;refine rd_exb ?_;cases ez:decide (w.deed = "zero")with
    | true=>
     rw[ez]at q;refine aq ?_;walk_at"";refine aI (ao.of h2) (v:=.int n) rfl ?_;walk_at"";exact q
    | false=>
     rw[ez]at q;exact ax q
  ·rw[GD e];refine ax ?_;walk_at"";rw[GD e,Bool.false_and]at q;exact q
def pF:List (Key×V):=[(.inr "up",.int 1),(.inr "down",.int (-1)),(.inr "stay",.int 0),(.inr "zero",.int 0)]
def EX{w:World}{K:FD}{a:Addr}{t1 t2 t3 t4 t5 t6 t7 t8:Tok}{ep:Nat}(h:K.lookup a=some (iL w [("up",t1,.int 1 t2),("down",t3,.int (-1) t4),("stay",t5,.int 0 t6),("zero",t7,.int 0 t8)] ep))(hs:(a == sysModules)=false):GDict w K a pF:=
 ⟨⟨_,_,h,.cons ⟨rfl,⟨_,rfl⟩⟩ (.cons ⟨rfl,⟨_,rfl⟩⟩ (.cons ⟨rfl,⟨_,rfl⟩⟩ (.cons ⟨rfl,⟨_,rfl⟩⟩ .nil)))⟩,by decide +kernel,hs⟩
def rz(z:Str):Int:=if z = "up" then 1 else if z = "down" then -1 else 0
def y9{z:Str}(h:cI z):bO pF (.inr z)=some (.int (rz z)):=by rcases h with rfl|rfl|rfl|rfl<;>decide +kernel
def vD(K:FD):Sp:=λvs H Q _=>∃b w,vs=[.ref b]/\H b=some (.tup (Way.vs w))/\cI w.deed/\Q (.int (rz w.deed)) H
abbrev pG:Stmt:=stq 41
def tN:FnScope ["way"] ["way"] (aA pG):=⟨rfl,rfl,rfl,by decide +kernel,rfl,by decide +kernel,by decide +kernel⟩
def Fp{P:Program}{w:World}{K:FD}{mg:Str->Option Value}{base:Heap}(D:Dfn K mg "raised_by" pG ["way"])(T:Blt mg)(g_RAISED:∃a,mg "RAISED" = some (.ref a)/\GDict w K a pF):Cal P w K mg base "raised_by" 1 ["way"] (vD K):=by
 have nd:=(tN).nd;refine D.ok tN (λvs H Q E h=>?_) (λX hX H vs Q E h=>?_)
 ·obtain⟨b,w,rfl,_⟩:=h;rfl
 ·obtain⟨f,cdv,A,outer,s,H0,E0,rfl,hr⟩:=hX;obtain⟨a_RAISED,m_RAISED,d_RAISED⟩:=g_RAISED;obtain⟨b,w,rfl,h1,hd,q⟩:=h;refine⟨_,(aj (aG (B2 rfl m_RAISED d_RAISED (ah (aH K) (pv 0) af (λ_ _=>rfl)) (λ_ _=>rfl)))),?_⟩;walk_at"";refine aI (ao.of h1) (v:=.str w.deed) rfl ?_;exact zr (y9 hd) q
def tK(K:FD):Sp:=λvs H Q _=>∃b w p x,vs=[.ref b,.ref p]/\H b=some (.tup (Way.vs w))/\cI w.deed/\aB H p x/\∀t H',Ext H H'->aB H' t (w.other,x.2+rz w.deed)->H t=none->Q (.ref t) H'
abbrev pT:Stmt:=stq 42
def xN:FnScope ["way","place"] ["way","place"] (aA pT):=⟨rfl,rfl,rfl,by decide +kernel,rfl,by decide +kernel,by decide +kernel⟩
def B0{P:Program}{w:World}{K:FD}{mg:Str->Option Value}{base:Heap}(D:Dfn K mg "led_to" pT ["way","place"])(T:Blt mg)(C_raised_by:Cal P w K mg base "raised_by" 1 ["way"] (vD K)):Cal P w K mg base "led_to" 2 ["way","place"] (tK K):=by
 have nd:=(xN).nd;refine D.ok xN (λvs H Q E h=>?_) (λX hX H vs Q E h=>?_)
 ·obtain⟨b,w,p,x,rfl,_⟩:=h;rfl
 ·obtain⟨f,cdv,A,outer,s,H0,E0,rfl,hr⟩:=hX;obtain⟨b,w,p,⟨r,n⟩,rfl,h1,hd,h2,q⟩:=h;refine⟨_,(aj (aG (aR (aa (ah (aH K) (pv 0) af (λ_ _=>rfl)) (aa (av aY (ah (aH K) (pv 1) af (λ_ _=>rfl)) (aD C_raised_by hr (aa (pv 0) ae))) ae))))),?_⟩;walk_at"";refine aI (ao.of h1) (v:=.int w.other) rfl ?_;walk_at"";refine aI (ao.of h2) (v:=.int n) rfl ?_;walk_at"";refine⟨b,w,rfl,h1,hd,?_⟩;walk_at"";refine aw λt H1 e1 ht htn=>?_;exact q t H1 e1 ht htn
abbrev bR(m:Int)(x:Bfs.Pl):Prop:=nH m x
def kU:rz "up" = 1:=by decide +kernel
def lx:rz "down" = -1:=by decide +kernel
def mK:rz "stay" = 0:=by decide +kernel
def xU:rz "zero" = 0:=by decide +kernel
def Ec{w:Way}{r n:Int}(hd:cI w.deed)(h0:0<=n)(h:cW w r n=true):0<=n+rz w.deed:=by
 unfold cW at h;rw[Gn]at h;rcases hd with hd|hd|hd|hd
 ·rw[hd,kU];omega
 ·rw[hd,GH (by decide +kernel)]at h;have:=of_decide_eq_true h.2;rw[hd,lx];omega
 ·rw[hd,mK];omega
 ·rw[hd,xU];omega
section
variable {β:Type} {F:List Key×V->β->Prop} {key:β->Bfs.Pl} {kvs:List (List Key×V)} {q:List β}
def Fw(hF:∀kv e,F kv e->kv.1=bZ (key e))(h:Paired F kvs q){x:Bfs.Pl}(hx:x∉q.map key):bO kvs (bZ x)=none:=by
 induction h with
 | nil=>rfl
 | @cons a b as bs h t ih=>
  rw[List.map_cons,FX,not_or]at hx;rw[i7 (λz=>hx.1 (vV (z.symm.trans (hF _ _ h))))];exact ih hx.2
def EY(hF:∀kv e,F kv e->kv.1=bZ (key e))(h:Paired F kvs q)(nd:(q.map key).Nodup){e:β}(he:e∈q):∃v,bO kvs (bZ (key e))=some v/\F (bZ (key e),v) e:=by
 induction h with
 | nil=>cases he
 | @cons a b as bs h t ih=>
  rw[List.map_cons,List.nodup_cons]at nd;rcases FX.mp he with z|z
  ·subst z;have e1:=hF _ _ h;refine⟨a.2,kP e1,?_⟩;rw[←e1];exact h
  ·obtain⟨v,h1,h2⟩:=ih nd.2 z;refine⟨v,?_,h2⟩;rw[i7 (λw=>nd.1 ?_)]
   ·exact h1
   ·rw[vV ((hF _ _ h).symm.trans w)];exact List.mem_map.mpr ⟨e,z,rfl⟩
end
def cL(m T:Int)(x:Bfs.Pl):Prop:=0<=x.1/\x.1<m/\0<=x.2/\x.2<=T
def cL.few{m T:Int}{l:List Bfs.Pl}(hm:m<=12)(hT:T<=2000)(hn:l.Nodup)(h:∀x∈l,cL m T x):l.length<=24012:=
 Bfs.AQ hT hn λx hx=>by obtain⟨a,b,c,d⟩:=h x hx;exact⟨a,by omega,c,d⟩
def mC{n:Nat}(h:n<=24100):n<sizeLine:=Nat.lt_of_le_of_lt h (by decide)
def aQ(n:Nat)(f:Nat->Bool):List V:=(GC n).map λi=>V.bl (f i)
def cO(n:Nat)(f:Nat->Bool):(aQ n f).length=n:=by simp[aQ]
def fR{n i:Nat}(f:Nat->Bool)(h:i<n):(aQ n f)[i]?=some (.bl (f i)):=by unfold aQ;rw[FJ,List.getElem?_range h];rfl
def eU{n:Nat}{f g:Nat->Bool}(h:∀i,i<n->f i=g i):aQ n f=aQ n g:=by unfold aQ;apply List.map_congr_left;intro i hi;rw[h i (List.mem_range.mp hi)]
def jK(n:Nat)(f:Nat->Bool):aQ (n+1) f=aQ n f++[V.bl (f n)]:=by unfold aQ;rw[List.range_succ,FZ];rfl
def ma{n k:Nat}(f:Nat->Bool)(c:Bool)(hk:k<n):(aQ n f).set k (.bl c)=aQ n λi=>if i=k then c else f i:=by
 apply List.ext_getElem?;intro i;rcases Gw i n with hi|hi
 ·rw[List.getElem?_set,cO,fR _ hi,fR _ hi];by_cases h:k=i
  ·subst h;simp[hi]
  ·rw[GG h,GG (Ne.symm h)]
 ·rw[List.getElem?_eq_none (by rw[List.length_set,cO];exact hi),List.getElem?_eq_none (by rw[cO];exact hi)]
def dw{n:Nat}{f:Nat->Bool}{i:Int}(h0:0<=i)(h:i<n):bF (aQ n f) i=some (.bl (f i.toNat)):=fN h0 (fR f (by omega))
def t9(n:Nat)(c:Bool):(Gu n [V.bl c]).flatten=aQ n λ_=>c:=by
 induction n with
 | zero=>rfl
 | succ n ih=>
  rw[List.replicate_succ',List.flatten_append,ih,jK];rfl
def Ci{n:Nat}{f:Nat->Bool}{i:Int}(h0:0<=i)(h:i<=n):bW (aQ n f) none (some i)=aQ i.toNat f:=by
 unfold bW;rw[cO,HT.pR];have e:HT.aL n n (some i)=i.toNat:=by show(if i<0 then(i+(n:Int)).toNat else min i.toNat n)=i.toNat;rw[GG (by omega)];omega
 rw[e,List.drop_zero,Nat.sub_zero];apply List.ext_getElem?;intro k;rcases Gw k i.toNat with hk|hk
 ·rw[List.getElem?_take_of_lt hk,fR _ (by omega),fR _ hk]
 ·rw[List.getElem?_eq_none (by rw[Gz,cO];omega),List.getElem?_eq_none (by rw[cO];omega)]
def Rows(H:Hp)(q:Addr)(rs:List Addr)(n:Nat)(M:Nat->Nat->Bool):Prop:=H q=some (.lst (rs.map V.ref))/\∀(i:Nat) (r:Addr),rs[i]?=some r->H r=some (.lst (aQ n (M i)))
def Rows.ext{H H':Hp}(e:Ext H H'){q:Addr}{rs:List Addr}{n:Nat}{M:Nat->Nat->Bool}(h:Rows H q rs n M):Rows H' q rs n M:=⟨e _ _ h.1,λi r hi=>e _ _ (h.2 i r hi)⟩
def jh(K:FD):Sp:=λvs H Q _=>∃vh m ws d,vs=[vh,.str d]/\bh H vh m ws/\HOuse m ws/\∀l cs us H',Ext H H'->H l=none->H' l=some (.lst (List.map V.ref cs))->aJ H' cs us->us=ws.filter (λw=>decide (w.deed=d))->Q (.ref l) H'
abbrev nV:Stmt:=stq 45
def tO:FnScope ["house","deed"] ["house","deed"] (aA nV):=⟨rfl,rfl,rfl,by decide +kernel,rfl,by decide +kernel,by decide +kernel⟩
def Ft{P:Program}{w:World}{K:FD}{mg:Str->Option Value}{base:Heap}(D:Dfn K mg "ways_of_deed" nV ["house","deed"])(T:Blt mg):Cal P w K mg base "ways_of_deed" 1 ["house","deed"] (jh K):=by
 have nd:=(tO).nd;refine D.ok tO (λvs H Q E h=>?_) (λX hX H vs Q E h=>?_)
 ·obtain⟨vh,m,ws,d,rfl,_⟩:=h;rfl
 ·obtain⟨f,cdv,A,outer,s,H0,E0,rfl,hr⟩:=hX;obtain⟨vh,m,ws,d,rfl,hv,ok,q⟩:=h;have few:=ok.few;obtain⟨hp0,hq0,rfl,hh,hw⟩:=id hv;obtain⟨bs,hq,hal⟩:=cS.al hw;have hbl:=hal.1;refine⟨_,(@aj _ _ _ (@aG _ _ _ _ (dE ["way"] [1] (kR K (@ah _ _ _ _ _ _ _ (aH K) (pv 0) af (λ_ _=>rfl))) (λ_=>(aS (i:=0) (show(["way","deed"]:List Str).Nodup from by decide +kernel) rfl (Or.inl rfl) (Or.inr rfl))) (λ_=>(fo (aT bX (@ah _ _ _ _ _ _ _ (aH K) (pv 0) af (λ_ _=>rfl)) (pv 1) (aP _)))) (λ_=>(pv 0))))),?_⟩;walk_at"";refine aI (ao.of hh) (v:=.ref hq0) rfl ?_;walk_at"";refine lE (ao.of hq) ?_;refine uP (xs:=bs.map V.ref) (λi ys H'=>H'=H/\∃cs us,ys=List.map V.ref cs/\aJ H cs us/\us=(ws.take i).filter λw=>decide (w.deed=d)) (bI (by rw[FH];omega)) ⟨rfl,[],[],rfl,aJ.nil _,rfl⟩ ?_ ?_ ?_
  ·rintro i ys H' _ ⟨rfl,cs,us,rfl,hau,rfl⟩;refine⟨ao.of hq,?_⟩;rw[FH,hau.1];exact Gh (List.length_filter_le _ _) (by rw[Gz];omega)
  ·rintro i v ys H' hx ⟨rfl,cs,us,rfl,hau,hus⟩;rw[FJ]at hx;obtain⟨b,hb,rfl⟩:=FU.mp hx;have hiw:i<ws.length:=by have:=(FQ.mp hb).1;omega
   have hwi:ws[i]?=some ws[i]:=FI hiw;have hbw:=hal.2 i b _ hb hwi;generalize ws[i]=w0 at hwi hbw;walk_at"";refine aI (ao.of hbw) (v:=.str w0.deed) rfl ?_;walk_at"";refine nI (rd_exb ?_);cases hc:decide (w0.deed=d)with
   | true=>
    refine ax ?_;walk_at"";refine⟨rfl,cs++[b],us++[w0],?_,hau.snoc hbw,?_⟩
    ·rw[FZ];rfl
    ·rw[hus,List.take_add_one,hwi,List.filter_append];congr 1;show[w0]=List.filter _ [w0];rw[List.filter_cons,GH hc];rfl
   | false=>
    refine aq ⟨rfl,cs,us,rfl,hau,?_⟩;rw[hus,List.take_add_one,hwi,List.filter_append];have:List.filter (λw:Way=>decide (w.deed=d)) [w0]=[]:=by rw[List.filter_cons,GG (by rw[hc];exact FY)];rfl
    show _=_++List.filter _ [w0];rw[this,List.append_nil]
  ·rintro ys H' pc ⟨hH,cs,us,rfl,hau,hus⟩ hpc;subst hH;rw[FH,hbl,Gf]at hus;have e:=bS (o:=.lst (List.map V.ref cs)) hpc;exact q pc cs us _ e hpc aN (hau.ext e) hus
def vE{x:Addr}:∀{l:List Addr} {i:Nat},l.Nodup->x∉l->(l.set i x).Nodup
 | [],_,_,_=>List.nodup_nil
 | a::l,0,h,hx=>by rw[List.nodup_cons]at h;exact List.nodup_cons.mpr ⟨λz=>hx (FK _ z),h.2⟩
 | a::l,i+1,h,hx=>by
  rw[List.nodup_cons]at h;refine List.nodup_cons.mpr ⟨λz=>?_,vE h.2 λz=>hx (FK _ z)⟩;rcases List.mem_or_eq_of_mem_set z with z|z
  ·exact h.1 z
  ·exact hx (by rw[z];exact FO)
structure TB(H H':Hp)(q:Addr)(rs rs':List Addr)(n:Nat)(M:Nat->Nat->Bool):Prop where
 keep:∀b o,b≠q->H b=some o->H' b=some o
 len:rs'.length=n
 nd:rs'.Nodup
 nq:q∉rs'
 old:∀r∈rs',r∈rs\/H r=none
 rows:Rows H' q rs' n M
def TB.congr{H H':Hp}{q:Addr}{rs rs':List Addr}{n:Nat}{M M':Nat->Nat->Bool}(h:TB H H' q rs rs' n M)(e:∀i j,i<n->j<n->M i j=M' i j):TB H H' q rs rs' n M':=
 ⟨h.keep,h.len,h.nd,h.nq,h.old,h.rows.1,λi r hi=>by
  rw[h.rows.2 i r hi];have hl:i<n:=by rw[←h.len];exact(FQ.mp hi).1
  congr 2;exact eU λj hj=>e i j hl hj⟩
def TB.set{H H1:Hp}{q p9:Addr}{rs rs1:List Addr}{n i:Nat}{M:Nat->Nat->Bool}{f:Nat->Bool}(h:TB H H1 q rs rs1 n M)(hi:i<n)(hp:H1 p9=none):TB H (upd (upd H1 p9 (.lst (aQ n f))) q (.lst ((rs1.map V.ref).set i (.ref p9)))) q rs (rs1.set i p9) n (λa b=>if a=i then f b else M a b):=by
 have hq:H1 q=some (.lst (rs1.map V.ref)):=h.rows.1;have nqp:q≠p9:=λz=>by rw[z,hp]at hq;cases hq
 have nin:p9∉rs1:=λz=>by obtain⟨j,hj⟩:=Gx z;rw[h.rows.2 j p9 hj]at hp;cases hp
 refine⟨λb o nb e=>?_,by rw[List.length_set];exact h.len,vE h.nd nin,λz=>?_,λr hr=>?_,?_,λa r ha=>?_⟩
 ·have e1:=h.keep b o nb e;rw[aC nb,aC (cw e1 hp)];exact e1
 ·rcases List.mem_or_eq_of_mem_set z with z|z
  ·exact h.nq z
  ·exact nqp z
 ·rcases List.mem_or_eq_of_mem_set hr with hr|rfl
  ·exact h.old r hr
  ·right;cases e:H r with
   | none=>rfl
   | some o=>rw[h.keep r o (Ne.symm nqp) e]at hp;cases hp
 ·rw[aN,List.map_set]
 ·rw[List.getElem?_set]at ha;by_cases hai:i=a
  ·subst hai;rw[GH rfl,GH (by rw[h.len];exact hi)]at ha;cases ha;rw[aC (Ne.symm nqp),aN];congr 2;exact eU λj _=>by dsimp only;rw[GH rfl]
  ·rw[GG hai]at ha;have e:=h.rows.2 a r ha;have nrq:r≠q:=λz=>h.nq (z ▸ FR ha);rw[aC nrq,aC (cw e hp),e];congr 2;exact eU λj _=>by dsimp only;rw[GG (Ne.symm hai)]
def jn(M:Nat->Nat->Bool)(k:Nat):Nat->Nat->Bool:=λi j=>M i j || (M i k && M k j)
def bQ(M:Nat->Nat->Bool):Nat->Nat->Nat->Bool
 | 0=>M
 | k+1=>jn (bQ M k) k
structure Joined(n:Nat)(M M':Nat->Nat->Bool):Prop where
 le:∀i j,M i j=true->M' i j=true
 tr:∀i a j,a<n->M' i a=true->M' a j=true->M' i j=true
 least:∀S:Nat->Nat->Prop,(∀i a j,S i a->S a j->S i j)->(∀i j,M i j=true->S i j)->∀i j,M' i j=true->S i j
def rO(M:Nat->Nat->Bool):∀k,Joined k M (bQ M k)
 | 0=>⟨λ_ _ h=>h,λ_ _ _ h=>absurd h (Nat.not_lt_zero _),λ_ _ h=>h⟩
 | k+1=>by
  have ih:=rO M k;have up:∀i j,bQ M (k+1) i j=true↔(bQ M k i j=true\/(bQ M k i k=true/\bQ M k k j=true)):=λi j=>by show(bQ M k i j || (bQ M k i k && bQ M k k j))=true↔_;simp
  refine⟨λi j h=>(up i j).mpr (.inl (ih.le i j h)),λi a j ha h1 h2=>?_,λS ht hm i j h=>?_⟩
  ·rw[up]at h1 h2 ⊢;by_cases hak:a=k
   ·subst hak;have x1:bQ M a i a=true:=by rcases h1 with h|h;exact h;exact h.1
    have x2:bQ M a a j=true:=by rcases h2 with h|h;exact h;exact h.2
    exact .inr ⟨x1,x2⟩
   ·have hlt:a<k:=by omega
    rcases h1 with h1|⟨h1,h1'⟩<;>rcases h2 with h2|⟨h2,h2'⟩
    ·exact .inl (ih.tr i a j hlt h1 h2)
    ·exact .inr ⟨ih.tr i a k hlt h1 h2,h2'⟩
    ·exact .inr ⟨h1,ih.tr k a j hlt h1' h2⟩
    ·exact .inr ⟨h1,h2'⟩
  ·rcases(up i j).mp h with h|⟨h1,h2⟩
   ·exact ih.least S ht hm i j h
   ·exact ht i k j (ih.least S ht hm i k h1) (ih.least S ht hm k j h2)
def rV(K:FD):Sp:=λvs H Q _=>∃q rs n M,vs=[.ref q]/\TB H H q rs rs n M/\n<=12/\∀rs' M' H',TB H H' q rs rs' n M'->Joined n M M'->Q .non H'
abbrev m3:Stmt:=stq 48
def uf:FnScope ["table","many","middle","p"] ["table"] (aA m3):=⟨rfl,rfl,rfl,by decide +kernel,rfl,by decide +kernel,by decide +kernel⟩
def DU{P:Program}{w:World}{K:FD}{mg:Str->Option Value}{base:Heap}(D:Dfn K mg "join_walks" m3 ["table"])(T:Blt mg):Cal P w K mg base "join_walks" 1 ["table"] (rV K):=by
 have nd:=(uf).nd;refine D.ok uf (λvs H Q E h=>?_) (λX hX H vs Q E h=>?_)
 ·obtain⟨q,rs,n,M,rfl,_⟩:=h;rfl
 ·obtain⟨f,cdv,A,outer,s,H0,E0,rfl,hr⟩:=hX;obtain⟨qt,rs,n,M,rfl,ht,hn,q⟩:=h;refine⟨_,(@ai _ _ _ _ _ (@aM _ _ 1 _ _ _ _ nd rfl (Or.inl rfl) (bq (dD K) rfl T.len_ PySem.boot_len (@aa _ _ _ _ _ (pv 0) ae rfl)) rfl (Or.inl rfl))
    (@aj _ _ _ (bV PassesOwn.never rfl (cB rfl T.range_ (@aa _ _ _ _ _ (pv 1) ae rfl)) (aS (i:=2) nd rfl (Or.inr rfl)) (@aj _ _ _ (bV PassesOwn.never rfl (cB rfl T.range_ (@aa _ _ _ _ _ (pv 1) ae rfl)) (aS (i:=3) nd rfl (Or.inr rfl)) (@aj _ _ _ (cE (bE (@ah _ _ _ _ _ _ _ (aF K) (@ah _ _ _ _ _ _ _ (aF K) (pv 0) (pv 3) (λ_ _=>rfl)) (pv 2) (λ_ _=>rfl))) (@aj _ _ _ (@gY _ _ _ _ _ _ (dE ["q"] [0,3,2] (cB rfl T.range_ (@aa _ _ _ _ _ (pv 1) ae rfl)) (λ_=>(aS (i:=0) (show(["q","table","p","middle"]:List Str).Nodup from by decide +kernel) rfl (Or.inl rfl) (Or.inr rfl))) (λ_=>fX) (λ_=>(vB (@ah _ _ _ _ _ _ _ (aF K) (@ah _ _ _ _ _ _ _ (aF K) (pv 1) (pv 2) (λ_ _=>rfl)) (pv 0) (λ_ _=>rfl)) (eY (@ah _ _ _ _ _ _ _ (aF K) (@ah _ _ _ _ _ _ _ (aF K) (pv 1) (pv 3) (λ_ _=>rfl)) (pv 0) (λ_ _=>rfl)))))) (ji (pv 0) (pv 3) set_list) rfl rfl rfl)) aU))))))),?_⟩
  walk_at"";refine gC (ag.of ht.rows.1) ?_;rw[FH,ht.len];walk_at"";refine ck (by omega) ?_;rw[FV];refine forR (λk σ H'=>∃rs1 k1 k2,TB H H' qt rs rs1 n (bQ M k)/\σ=[some (.ref qt),some (.int (n:Nat)),k1,k2]) ⟨rs,_,_,ht,rfl⟩ ?_ ?_
  ·rintro k σ H1 hk ⟨rs1,k1,k2,tb,rfl⟩;rw[show (0:Int)+(k:Int)=((k:Nat):Int) by omega];walk_at"";refine ck (by omega) ?_;rw[FV];refine forR (λp σ H'=>∃rs2 k2,TB H H' qt rs rs2 n (λi j=>if i<p then jn (bQ M k) k i j else bQ M k i j)/\σ=[some (.ref qt),some (.int (n:Nat)),some (.int (k:Nat)),k2]) ⟨rs1,_,tb,rfl⟩ ?_ ?_
   ·rintro p σ H2 hp ⟨rs2,k2,tb2,rfl⟩;rw[show (0:Int)+(p:Int)=((p:Nat):Int) by omega];have hp2:p<rs2.length:=by rw[tb2.len];exact hp
    have hk2:k<rs2.length:=by rw[tb2.len];exact hk
    have gp:rs2[p]?=some rs2[p]:=FI hp2;have gk:rs2[k]?=some rs2[k]:=FI hk2;have rp:=tb2.rows.2 p _ gp;have rk:=tb2.rows.2 k _ gk;generalize rs2[p]=ap at gp rp;generalize rs2[k]=ak at gk rk;have ap1:bF (rs2.map V.ref) ((p:Nat):Int)=some (.ref ap):=fE (by rw[FJ,gp];rfl);have ak1:bF (rs2.map V.ref) ((k:Nat):Int)=some (.ref ak):=fE (by rw[FJ,gk];rfl);have rp':H2 ap=some (.lst (aQ n (bQ M k p))):=by rw[rp];congr 2;exact eU λj _=>by dsimp only;rw[GG (Nat.lt_irrefl _)]
    have rk':H2 ak=some (.lst (aQ n (bQ M k k))):=by
     rw[rk];congr 2;refine eU λj _=>?_;dsimp only;by_cases hkp:k<p
     ·rw[GH hkp];unfold jn;cases bQ M k k j<;>simp
     ·rw[GG hkp]
    walk_at"";refine bt ?_;walk_at"";refine aE (ag.of tb2.rows.1) ap1 ?_;walk_at"";refine aE (ag.of rp') (dw (by omega) (by omega)) ?_;rw[FV];walk_at"";cases hc:bQ M k p k with
    | false=>
     refine aq ?_;walk_at"";refine⟨rs2,_,tb2.congr λi j hi hj=>?_,rfl⟩
     try dsimp only
     by_cases h1:i<p
     ·rw[GH h1,GH (by omega)]
     ·rw[GG h1];by_cases h2:i<p+1
      ·have:i=p:=by omega
       subst this;rw[GH h2];unfold jn;rw[hc];simp
      ·rw[GG h2]
    | true=>
     refine ax ?_;walk_at"";refine ck (by omega) ?_;rw[FV];refine fg (λi ys H'=>H'=H2/\ys=aQ i (jn (bQ M k) k p)) (bI (by omega)) ⟨rfl,rfl⟩ ?_ ?_ ?_
     ·rintro i ys H' _ ⟨_,rfl⟩;rw[cO];exact F5 _
     ·rintro i ys H3 hi ⟨rfl,rfl⟩;rw[show (0:Int)+(i:Int)=((i:Nat):Int) by omega];walk_at"";refine ax ?_;walk_at"";refine aE (ag.of tb2.rows.1) ap1 ?_;walk_at"";refine aE (ag.of rp') (dw (by omega) (by omega)) ?_;rw[FV];refine rd_exb ?_;cases hv:bQ M k p i with
      | true=>
       refine ax ⟨rfl,?_⟩;rw[jK];congr 1;show[V.bl true]=[V.bl (bQ M k p i || _)];rw[hv];rfl
      | false=>
       refine aq ?_;walk_at"";refine aE (ag.of tb2.rows.1) ak1 ?_;walk_at"";refine aE (ag.of rk') (dw (by omega) (by omega)) ?_;rw[FV];refine⟨rfl,?_⟩;rw[jK];congr 1;show[V.bl (bQ M k k i)]=[V.bl (bQ M k p i || (bQ M k p k && bQ M k k i))];rw[hv,hc];simp
     ·rintro ys H3 p9 ⟨hH,rfl⟩ hp9;subst hH;have hq2:(upd H3 p9 (.lst (aQ n (jn (bQ M k) k p)))) qt=some (.lst (rs2.map V.ref)):=(bS hp9) _ _ tb2.rows.1;walk_at"";refine jy hq2 (jb (by omega) (by rw[FH,tb2.len];omega)) ?_;rw[FV];refine⟨_,_,(tb2.set (f:=jn (bQ M k) k p) hp hp9).congr λi j hi hj=>?_,rfl⟩
      try dsimp only
      by_cases h1:i=p
      ·subst h1;rw[GH rfl,GH (by omega)]
      ·rw[GG h1];by_cases h2:i<p
       ·rw[GH h2,GH (by omega)]
       ·rw[GG h2,GG (by omega)]
   ·rintro σ H2 ⟨rs2,k2,tb2,rfl⟩;exact⟨rs2,_,_,tb2.congr (λi j hi hj=>by rw[GH hi];rfl),rfl⟩
  ·rintro σ H1 ⟨rs1,k1,k2,tb,rfl⟩;walk_at"";exact q rs1 _ H1 tb (rO M n)
def put2(M:Nat->Nat->Bool)(i x:Nat):Nat->Nat->Bool:=λj y=>if j=i/\y=x then true else M j y
structure TW(H H':Hp)(q:Addr)(rs:List Addr)(n:Nat)(M:Nat->Nat->Bool):Prop where
 keep:∀b o,b∉rs->H b=some o->H' b=some o
 len:rs.length=n
 nd:rs.Nodup
 nq:q∉rs
 rows:Rows H' q rs n M
def TW.mark{H H1:Hp}{q r:Addr}{rs:List Addr}{n i j:Nat}{M:Nat->Nat->Bool}(h:TW H H1 q rs n M)(hi:rs[i]?=some r)(hj:j<n):TW H (upd H1 r (.lst ((aQ n (M i)).set j (.bl true)))) q rs n (put2 M i j):=by
 have hm:=FR hi;have nqr:q≠r:=λz=>h.nq (z ▸ hm);refine⟨λb o nb e=>?_,h.len,h.nd,h.nq,?_,λa r' ha=>?_⟩
 ·have nbr:b≠r:=λz=>nb (by rw[z];exact hm);rw[aC nbr];exact h.keep b o nb e
 ·rw[aC nqr];exact h.rows.1
 ·by_cases hai:a=i
  ·subst hai;rw[hi]at ha;cases ha;rw[aN,ma _ _ hj];congr 2;refine eU λy _=>?_;unfold put2;by_cases hy:y=j
   ·rw[GH hy,GH ⟨rfl,hy⟩]
   ·rw[GG hy,GG λz=>hy z.2]
  ·have nr:r'≠r:=λz=>hai ((List.getElem?_inj (by rw[h.len];exact(by rw[←h.len];exact(FQ.mp ha).1)) h.nd).mp (by rw[ha,hi,z]));rw[aC nr,h.rows.2 a r' ha];congr 2;exact eU λy _=>by unfold put2;rw[GG λz=>hai z.1]
structure ArchR(n:Nat)(us ds:List Way)(M M':Nat->Nat->Bool)(ad:Bool):Prop where
 le:∀i j,M i j=true->M' i j=true
 same:ad=false->∀i j,M' i j=M i j
 more:ad=true->∃i j,i<n/\j<n/\M i j=false/\M' i j=true
 least:∀S:Nat->Nat->Prop,(∀u∈us,∀d∈ds,S u.other.toNat d.room.toNat->S u.room.toNat d.other.toNat)->(∀i j,M i j=true->S i j)->∀i j,M' i j=true->S i j
def ArchR.refl{n:Nat}{us ds:List Way}{M:Nat->Nat->Bool}:ArchR n us ds M M false:=⟨λ_ _ h=>h,λ_ _ _=>rfl,λh=>(nomatch h),λ_ _ h=>h⟩
def ArchR.put{n:Nat}{us ds:List Way}{M M':Nat->Nat->Bool}{ad:Bool}(h:ArchR n us ds M M' ad){u d:Way}(hu:u∈us)(hd:d∈ds)(h1:M' u.other.toNat d.room.toNat=true)(h2:M' u.room.toNat d.other.toNat=false)(hn1:u.room.toNat<n)(hn2:d.other.toNat<n):ArchR n us ds M (put2 M' u.room.toNat d.other.toNat) true:=by
 have le:∀i j,M i j=true->put2 M' u.room.toNat d.other.toNat i j=true:=λi j hm=>by
  unfold put2;split
  ·rfl
  ·exact h.le i j hm
 refine⟨le,λz=>(nomatch z),λ_=>⟨_,_,hn1,hn2,?_,by unfold put2;rw[GH ⟨rfl,rfl⟩]⟩,λS hS hm i j hp=>?_⟩
 ·rw[Bool.eq_false_iff];intro z;rw[h.le _ _ z]at h2;cases h2
 ·unfold put2 at hp;split at hp
  ·rename_i z;rw[z.1,z.2];exact hS u hu d hd (h.least S hS hm _ _ h1)
  ·exact h.least S hS hm i j hp
def vi(K:FD):Sp:=λvs H Q _=>∃q rs n M lu cu us ld cd ds,vs=[.ref q,.ref lu,.ref ld]/\TW H H q rs n M/\H lu=some (.lst (List.map V.ref cu))/\aJ H cu us/\H ld=some (.lst (List.map V.ref cd))/\aJ H cd ds/\lu∉rs/\ld∉rs/\(∀w∈us++ds,0<=w.room/\w.room<(n:Int)/\0<=w.other/\w.other<(n:Int)) ∧
 ∀M' ad H',TW H H' q rs n M'->ArchR n us ds M M' ad->(ad=false->∀u∈us,∀d∈ds,M u.other.toNat d.room.toNat=true->M u.room.toNat d.other.toNat=true)->Q (.bl ad) H'
abbrev mO:Stmt:=stq 49
def sG:FnScope ["table","ups","downs","added","rise","fall"] ["table","ups","downs"] (aA mO):=⟨rfl,rfl,rfl,by decide +kernel,rfl,by decide +kernel,by decide +kernel⟩
def B1{P:Program}{w:World}{K:FD}{mg:Str->Option Value}{base:Heap}(D:Dfn K mg "add_arches" mO ["table","ups","downs"])(T:Blt mg):Cal P w K mg base "add_arches" 1 ["table","ups","downs"] (vi K):=by
 have nd:=(sG).nd;refine D.ok sG (λvs H Q E h=>?_) (λX hX H vs Q E h=>?_)
 ·obtain⟨q,rs,n,M,lu,cu,us,ld,cd,ds,rfl,_⟩:=h;rfl
 ·obtain⟨f,cdv,A,outer,s,H0,E0,rfl,hr⟩:=hX;obtain⟨qt,rs,n,M,lu,cu,us,ld,cd,ds,rfl,tw,hlu,hau,hld,had,nlu,nld,hin,q⟩:=h;have hcu:=hau.1;have hcd:=had.1;refine⟨_,(@ai _ _ _ _ _ (@aM _ _ 3 _ _ _ _ nd rfl (Or.inl rfl) bN rfl (Or.inl rfl))
    (@ai _ _ _ _ _ (bV PassesOwn.never rfl (cD K (pv 1)) (aS (i:=4) nd rfl (Or.inl rfl)) (@aj _ _ _ (bV PassesOwn.never rfl (cD K (pv 2)) (aS (i:=5) nd rfl (Or.inl rfl)) (@aj _ _ _ (cE (PW.pt (wc (bE (@ah _ _ _ _ _ _ _ (aF K) (@ah _ _ _ _ _ _ _ (aF K) (pv 0) (@ah _ _ _ _ _ _ _ (aH K) (pv 4) af (λ_ _=>rfl)) (λ_ _=>rfl)) (@ah _ _ _ _ _ _ _ (aH K) (pv 5) af (λ_ _=>rfl)) (λ_ _=>rfl))) (yC (dh (bE (@ah _ _ _ _ _ _ _ (aF K) (@ah _ _ _ _ _ _ _ (aF K) (pv 0) (@ah _ _ _ _ _ _ _ (aH K) (pv 4) af (λ_ _=>rfl)) (λ_ _=>rfl)) (@ah _ _ _ _ _ _ _ (aH K) (pv 5) af (λ_ _=>rfl)) (λ_ _=>rfl))))))) (@ai _ _ _ _ _ (@gY _ _ _ _ _ _ bN (ji (@ah _ _ _ _ _ _ _ (aF K) (pv 0) (@ah _ _ _ _ _ _ _ (aH K) (pv 4) af (λ_ _=>rfl)) (λ_ _=>rfl)) (@ah _ _ _ _ _ _ _ (aH K) (pv 5) af (λ_ _=>rfl)) set_list) rfl rfl rfl)
    (@aj _ _ _ (@aM _ _ 3 _ _ _ _ nd rfl (Or.inl rfl) bN rfl (Or.inl rfl)))) aU)))))
    (@aj _ _ _ (@aG _ _ _ _ (pv 3))))),?_⟩
  have tupN:∀(b:Addr) (w:Way),H b=some (.tup w.vs)->b∉rs:=λb w hb z=>by obtain⟨j,hj⟩:=Gx z;rw[tw.rows.2 j b hj]at hb;cases hb
  walk_at"";refine cG (ag.of hlu) ?_;refine forL (xs:=List.map V.ref cu) (λi σ H'=>∃M' ad k1 k2,TW H H' qt rs n M'/\ArchR n us ds M M' ad/\(ad=false->∀a,a<i->∀u,us[a]?=some u->∀d∈ds,M u.other.toNat d.room.toNat=true->M u.room.toNat d.other.toNat=true)/\σ=[some (.ref qt),some (.ref lu),some (.ref ld),some (.bl ad),k1,k2]) ⟨M,false,_,_,tw,.refl,λ_ a ha=>absurd ha (Nat.not_lt_zero _),rfl⟩ (λi σ H' _ h=>by obtain⟨M',ad,k1,k2,t,_⟩:=h;exact ag.of (t.keep _ _ nlu hlu)) ?_ ?_
  ·rintro i v σ H1 hx ⟨M1,ad,k1,k2,tw1,ar1,cl1,rfl⟩;rw[FJ]at hx;obtain⟨bu,hbu,rfl⟩:=FU.mp hx;have hiu:i<us.length:=by rw[←hcu];exact(FQ.mp hbu).1
   have gu:us[i]?=some us[i]:=FI hiu;have hbu0:=hau.2 i bu _ hbu gu;generalize us[i]=u at gu hbu0;have hum:=FR gu;obtain⟨u0,u1,u2,u3⟩:=hin u (Gs _ hum);walk_at"";refine cG (ag.of (tw1.keep _ _ nld hld)) ?_;refine forL (xs:=List.map V.ref cd) (λj σ H'=>∃M' ad k2,TW H H' qt rs n M'/\ArchR n us ds M M' ad/\(ad=false->(∀a,a<i->∀u,us[a]?=some u->∀d∈ds,M u.other.toNat d.room.toNat=true->M u.room.toNat d.other.toNat=true)/\∀b,b<j->∀d,ds[b]?=some d->M u.other.toNat d.room.toNat=true->M u.room.toNat d.other.toNat=true)/\σ=[some (.ref qt),some (.ref lu),some (.ref ld),some (.bl ad),some (.ref bu),k2]) ⟨M1,ad,_,tw1,ar1,λh=>⟨cl1 h,λb hb=>absurd hb (Nat.not_lt_zero _)⟩,rfl⟩ (λj σ H' _ h=>by obtain⟨M',ad,k2,t,_⟩:=h;exact ag.of (t.keep _ _ nld hld)) ?_ ?_
   ·rintro j v σ H2 hx2 ⟨M2,ad2,k2,tw2,ar2,cl2,rfl⟩;rw[FJ]at hx2;obtain⟨bd,hbd,rfl⟩:=FU.mp hx2;have hid:j<ds.length:=by rw[←hcd];exact(FQ.mp hbd).1
    have gd:ds[j]?=some ds[j]:=FI hid;have hbd0:=had.2 j bd _ hbd gd;generalize ds[j]=d at gd hbd0;have hdm:=FR gd;obtain⟨d0,d1,d2,d3⟩:=hin d (Gr _ hdm);have ku:=tw2.keep _ _ (tupN bu u hbu0) hbu0;have kd:=tw2.keep _ _ (tupN bd d hbd0) hbd0;have x1:u.other.toNat<rs.length:=by rw[tw2.len];omega
    have x2:u.room.toNat<rs.length:=by rw[tw2.len];omega
    have r1:rs[u.other.toNat]?=some rs[u.other.toNat]:=FI x1;have r2:rs[u.room.toNat]?=some rs[u.room.toNat]:=FI x2;have w1:=tw2.rows.2 _ _ r1;have w2:=tw2.rows.2 _ _ r2;generalize rs[u.other.toNat]=a1 at r1 w1;generalize rs[u.room.toNat]=a2 at r2 w2;have at1:bF (rs.map V.ref) u.other=some (.ref a1):=fN u2 (by rw[FJ,r1];rfl);have at2:bF (rs.map V.ref) u.room=some (.ref a2):=fN u0 (by rw[FJ,r2];rfl);have step:(M u.other.toNat d.room.toNat=true->M u.room.toNat d.other.toNat=true)->ad2=false->∀b,b<j+1->∀d',ds[b]?=some d'->M u.other.toNat d'.room.toNat=true->M u.room.toNat d'.other.toNat=true:=λhs hf b hb d' hd'=>by
     by_cases hbj:b<j
     ·exact(cl2 hf).2 b hbj d' hd'
     ·have:b=j:=by omega
      subst this;rw[gd]at hd';cases hd';exact hs
    walk_at"";refine bt ?_;walk_at"";refine aI (ao.of ku) (v:=.int u.other) rfl ?_;walk_at"";refine aE (ag.of tw2.rows.1) at1 ?_;walk_at"";refine aI (ao.of kd) (v:=.int d.room) rfl ?_;walk_at"";refine aE (ag.of w1) (dw d0 (by omega)) ?_;walk_at"";cases hm1:M2 u.other.toNat d.room.toNat with
    | false=>
     refine aq ?_;walk_at"";refine⟨M2,ad2,_,tw2,ar2,λhf=>⟨(cl2 hf).1,step (λz=>?_) hf⟩,rfl⟩;rw[ar2.same hf]at hm1;rw[hm1]at z;cases z
    | true=>
     refine ax ?_;walk_at"";refine aI (ao.of ku) (v:=.int u.room) rfl ?_;walk_at"";refine aE (ag.of tw2.rows.1) at2 ?_;walk_at"";refine aI (ao.of kd) (v:=.int d.other) rfl ?_;walk_at"";refine aE (ag.of w2) (dw d2 (by omega)) ?_;walk_at"";cases hm2:M2 u.room.toNat d.other.toNat with
     | true=>
      refine aq ?_;walk_at"";refine⟨M2,ad2,_,tw2,ar2,λhf=>⟨(cl2 hf).1,step (λ_=>?_) hf⟩,rfl⟩;rw[ar2.same hf]at hm2;exact hm2
     | false=>
      refine ax ?_;walk_at"";refine aI (ao.of ku) (v:=.int u.room) rfl ?_;walk_at"";refine aE (ag.of tw2.rows.1) at2 ?_;walk_at"";refine aI (ao.of kd) (v:=.int d.other) rfl ?_;walk_at"";refine jy w2 (jb d2 (by rw[cO];omega)) ?_;walk_at"";exact⟨_,true,_,tw2.mark r2 (by omega),ar2.put hum hdm hm1 hm2 (by omega) (by omega),λz=>(nomatch z),rfl⟩
   ·rintro σ H2 ⟨M2,ad2,k2,tw2,ar2,cl2,rfl⟩;rw[FH,hcd]at cl2;refine⟨M2,ad2,_,_,tw2,ar2,λhf a ha u' hu'=>?_,rfl⟩;by_cases hai:a<i
    ·exact(cl2 hf).1 a hai u' hu'
    ·have:a=i:=by omega
     subst this;rw[gu]at hu';cases hu';intro d hd;obtain⟨b,hb⟩:=Gx hd;exact(cl2 hf).2 b (FQ.mp hb).1 d hb
  ·rintro σ H1 ⟨M1,ad,k1,k2,tw1,ar1,cl1,rfl⟩;rw[FH,hcu]at cl1;walk_at"";refine q M1 ad H1 tw1 ar1 λhf u hu d hd=>?_;obtain⟨a,ha⟩:=Gx hu;exact cl1 hf a (FQ.mp ha).1 u ha d hd
inductive Kpt(ws:List Way)(n:Nat):Nat->Nat->Prop
 | refl {i:Nat}:i<n->Kpt ws n i i
 | stay {w:Way}:w∈ws->w.deed = "stay"->Kpt ws n w.room.toNat w.other.toNat
 | trans {i a j:Nat}:Kpt ws n i a->Kpt ws n a j->Kpt ws n i j
 | arch {u d:Way}:u∈ws->u.deed = "up"->d∈ws->d.deed = "down"->Kpt ws n u.other.toNat d.room.toNat->Kpt ws n u.room.toNat d.other.toNat
def gh{m:Int}{ws:List Way}(ok:∀w∈ws,w.Ok m){w:Way}(hw:w∈ws):w.room.toNat<m.toNat/\w.other.toNat<m.toNat:=by have h:=ok w hw;have:=h.r0;have:=h.r1;have:=h.o0;have:=h.o1;omega
def Kpt.lt{m:Int}{ws:List Way}(ok:∀w∈ws,w.Ok m){i j:Nat}(h:Kpt ws m.toNat i j):i<m.toNat/\j<m.toNat:=by
 induction h with
 | refl h=>exact⟨h,h⟩
 | stay h _=>exact gh ok h
 | trans _ _ h1 h2=>exact⟨h1.1,h2.2⟩
 | arch h1 _ h2 _ _ _=>exact⟨(gh ok h1).1,(gh ok h2).2⟩
def AO(ws:List Way)(M:Nat->Nat->Bool):Prop:=∀i j,M i j=true↔(i=j\/∃w∈ws,w.deed = "stay"/\w.room.toNat=i/\w.other.toNat=j)
def iR(n:Nat)(M:Nat->Nat->Bool):Nat:=((GC n).flatMap λi=>(GC n).map λj=>(i,j)).countP λz=>!M z.1 z.2
def sC{α:Type}{p p':α->Bool}(hi:∀y,p' y=true->p y=true){a:α}(ha:p a=true)(ha':p' a=false):∀{L:List α},a∈L->L.countP p'<L.countP p
 | b::L,hm=>by
  have hle:L.countP p'<=L.countP p:=List.countP_mono_left λy _=>hi y;rw[List.countP_cons,List.countP_cons];rcases FX.mp hm with rfl|hm
  ·rw[ha,ha'];simp;omega
  ·have:=sC hi ha ha' hm;cases h1:p' b with
   | false=>simp[h1];split<;>omega
   | true=>rw[hi b h1];simp;omega
def Bx{n i j:Nat}{M M':Nat->Nat->Bool}(hi:i<n)(hj:j<n)(le:∀a b,M a b=true->M' a b=true)(h1:M i j=false)(h2:M' i j=true):iR n M'<iR n M:=by
 refine sC (a:=(i,j)) (λy hy=>?_) (by simp[h1]) (by simp[h2]) (by simp;exact⟨hi,hj⟩);have hy':M' y.1 y.2=false:=by simpa using hy
 have:M y.1 y.2=false:=by rw[Bool.eq_false_iff];intro z;rw[le _ _ z]at hy';cases hy'
 simp[this]
structure KT(H H':Hp)(q:Addr)(rs:List Addr)(n:Nat)(M:Nat->Nat->Bool):Prop where
 ext:Ext H H'
 fq:H q=none
 fr:∀r∈rs,H r=none
 len:rs.length=n
 nd:rs.Nodup
 nq:q∉rs
 rows:Rows H' q rs n M
def KT.tw{H H':Hp}{q:Addr}{rs:List Addr}{n:Nat}{M:Nat->Nat->Bool}(h:KT H H' q rs n M):TW H' H' q rs n M:=⟨λ_ _ _ e=>e,h.len,h.nd,h.nq,h.rows⟩
def KT.tb{H H':Hp}{q:Addr}{rs:List Addr}{n:Nat}{M:Nat->Nat->Bool}(h:KT H H' q rs n M):TB H' H' q rs rs n M:=⟨λ_ _ _ e=>e,h.len,h.nd,h.nq,λ_ h=>.inl h,h.rows⟩
def KT.more{H H1 H2:Hp}{q:Addr}{rs:List Addr}{n:Nat}{M:Nat->Nat->Bool}(h:KT H H1 q rs n M)(e:Ext H1 H2):KT H H2 q rs n M:=⟨h.ext.trans e,h.fq,h.fr,h.len,h.nd,h.nq,h.rows.ext e⟩
def KT.byW{H H1 H2:Hp}{q:Addr}{rs:List Addr}{n:Nat}{M M':Nat->Nat->Bool}(h:KT H H1 q rs n M)(t:TW H1 H2 q rs n M'):KT H H2 q rs n M':=
 ⟨λb o e=>t.keep b o (λz=>by rw[h.fr b z]at e;cases e) (h.ext b o e),h.fq,h.fr,h.len,h.nd,h.nq,t.rows⟩
def KT.byB{H H1 H2:Hp}{q:Addr}{rs rs':List Addr}{n:Nat}{M M':Nat->Nat->Bool}(h:KT H H1 q rs n M)(t:TB H1 H2 q rs rs' n M'):KT H H2 q rs' n M':=
 ⟨λb o e=>t.keep b o (λz=>by rw[z,h.fq]at e;cases e) (h.ext b o e),h.fq,λr hr=>by
  rcases t.old r hr with z|z
  ·exact h.fr r z
  ·cases e:H r with
   | none=>rfl
   | some o=>exact absurd ((h.ext r o e).symm.trans z) (by simp),t.len,t.nd,t.nq,t.rows⟩
def uH(K:FD):Sp:=λvs H Q _=>∃vh m ws,vs=[vh]/\bh H vh m ws/\HOuse m ws/\∀q rs M H',KT H H' q rs m.toNat M->AO ws M->Q (.ref q) H'
abbrev m8:Stmt:=stq 47
def vU:FnScope ["house","table","p","way"] ["house"] (aA m8):=⟨rfl,rfl,rfl,by decide +kernel,rfl,by decide +kernel,by decide +kernel⟩
def EN{P:Program}{w:World}{K:FD}{mg:Str->Option Value}{base:Heap}(D:Dfn K mg "beginning_table" m8 ["house"])(T:Blt mg)(C_ways_of_deed:Cal P w K mg base "ways_of_deed" 1 ["house","deed"] (jh K)):Cal P w K mg base "beginning_table" 2 ["house"] (uH K):=by
 have nd:=(vU).nd;refine D.ok vU (λvs H Q E h=>?_) (λX hX H vs Q E h=>?_)
 ·obtain⟨vh,m,ws,rfl,_⟩:=h;rfl
 ·obtain⟨f,cdv,A,outer,s,H0,E0,rfl,hr⟩:=hX;obtain⟨vh,m,ws,rfl,hv,ok,q⟩:=h;have m1:=ok.m1;have m12:=ok.m12;obtain⟨hp0,hq0,rfl,hh,_⟩:=id hv;refine⟨_,(@ai _ _ _ _ _ (@aM _ _ 1 _ _ _ _ nd rfl (Or.inl rfl) (@bo _ _ _ _ ae) rfl (Or.inl rfl))
    (@ai _ _ _ _ _ (bV PassesOwn.never rfl (cB rfl T.range_ (@aa _ _ _ _ _ (@ah _ _ _ _ _ _ _ (aH K) (pv 0) af (λ_ _=>rfl)) ae rfl)) (aS (i:=2) nd rfl (Or.inr rfl)) (@aj _ _ _ (aZ (bC K FP F6 F7 bL (pv 1) (@aa _ _ _ _ _ (dE ["q"] [2] (cB rfl T.range_ (@aa _ _ _ _ _ (@ah _ _ _ _ _ _ _ (aH K) (pv 0) af (λ_ _=>rfl)) ae rfl)) (λ_=>(aS (i:=0) (show(["q","p"]:List Str).Nodup from by decide +kernel) rfl (Or.inl rfl) (Or.inr rfl))) (λ_=>fX) (λ_=>(eG bX (pv 1) (pv 0) (aP _)))) ae rfl)))))
    (@ai _ _ _ _ _ (bV PassesOwn.never rfl (cD K (aD C_ways_of_deed hr (@aa _ _ _ _ _ (pv 0) (@aa _ _ _ _ _ az ae rfl) rfl))) (aS (i:=3) nd rfl (Or.inl rfl)) (@aj _ _ _ (@gY _ _ _ _ _ _ bN (ji (@ah _ _ _ _ _ _ _ (aF K) (pv 1) (@ah _ _ _ _ _ _ _ (aH K) (pv 3) af (λ_ _=>rfl)) (λ_ _=>rfl)) (@ah _ _ _ _ _ _ _ (aH K) (pv 3) af (λ_ _=>rfl)) set_list) rfl rfl rfl)))
    (@aj _ _ _ (@aG _ _ _ _ (pv 1)))))),?_⟩
  walk_at"";refine aw λtq H1 e1 htq hfq=>?_;walk_at"";refine aI (ao.of (e1 _ _ hh)) (v:=.int m) rfl ?_;walk_at"";refine ck (by omega) ?_;refine forR (λp σ H'=>∃rs k1 k2,Ext H H'/\H' tq=some (.lst (List.map V.ref rs))/\(∀r∈rs,H r=none)/\rs.length=p/\rs.Nodup/\tq∉rs/\(∀(a:Nat) (r:Addr),rs[a]?=some r->H' r=some (.lst (aQ m.toNat λj=>decide (a=j))))/\σ=[some (.ref hp0),some (.ref tq),k1,k2]) ⟨[],_,_,e1,htq,λr hr=>(by cases hr),rfl,List.nodup_nil,by simp,λa r h=>by simp at h,rfl⟩ ?_ ?_
  ·rintro p σ H2 hp ⟨rs,k1,k2,e2,hq2,hfr,hln,hnd,hnq,hrs,rfl⟩;rw[show (0:Int)+(p:Int)=((p:Nat):Int) by omega];walk_at"";refine⟨cH (ag.of hq2),?_⟩;walk_at"";refine aI (ao.of (e2 _ _ hh)) (v:=.int m) rfl ?_;walk_at"";refine ck (by omega) ?_;refine fg (λi ys H'=>H'=H2/\ys=aQ i (λj=>decide (p=j))) (bI (by omega)) ⟨rfl,rfl⟩ ?_ ?_ ?_
   ·rintro i ys H' _ ⟨_,rfl⟩;rw[cO];exact F5 _
   ·rintro i ys H3 hi ⟨rfl,rfl⟩;rw[show (0:Int)+(i:Int)=((i:Nat):Int) by omega];walk_at"";refine ax ?_;walk_at"";refine⟨rfl,?_⟩;rw[jK];congr 3;rw[Gm];simp;omega
   ·rintro ys H3 p9 ⟨hH,rfl⟩ hp9;subst hH;have e3:=bS (o:=.lst (aQ m.toNat λj=>decide (p=j))) hp9;have hq3:=e3 _ _ hq2;have h9:(upd H3 p9 (.lst (aQ m.toNat λj=>decide (p=j)))) p9=_:=aN;have e03:=e2.trans e3;have hrs3:∀(a:Nat) (r:Addr),rs[a]?=some r->(upd H3 p9 (.lst (aQ m.toNat λj=>decide (p=j)))) r=some (.lst (aQ m.toNat λj=>decide (a=j))):=λa r h=>e3 _ _ (hrs a r h);have n9:H p9=none:=by
     cases z:H p9 with
     | none=>rfl
     | some o=>rw[e2 _ _ z]at hp9;cases hp9
    have nin:p9∉rs:=λz=>by obtain⟨j,hj⟩:=Gx z;rw[hrs j p9 hj]at hp9;cases hp9
    have nqp:tq≠p9:=λz=>by rw[z,hp9]at hq2;cases hq2
    generalize upd H3 p9 (.lst (aQ m.toNat λj=>decide (p=j)))=H4 at e3 hq3 h9 e03 hrs3 ⊢;walk_at"";refine bT hq3 (by rw[FH];exact Nat.lt_of_le_of_lt (show rs.length<=12 by omega) (by decide)) ?_;walk_at"";have keep:∀b o,b≠tq->H4 b=some o->upd H4 tq (.lst (List.map V.ref rs++[.ref p9])) b=some o:=λb o nb e=>by rw[aC nb];exact e
    refine⟨rs++[p9],_,_,cR e03 hfq,?_,λr hr=>?_,by rw[F0,hln];rfl,?_,λz=>?_,λa r ha=>?_,rfl⟩
    ·rw[aN,FZ];rfl
    ·rcases F8.mp hr with hr|hr
     ·exact hfr r hr
     ·rw[FT.mp hr];exact n9
    ·rw[List.nodup_append];refine⟨hnd,by simp,λa ha c hc z=>?_⟩;rw[FT.mp hc]at z;exact nin (z ▸ ha)
    ·rcases F8.mp z with z|z
     ·exact hnq z
     ·exact nqp (FT.mp z)
    ·by_cases hal:a<rs.length
     ·rw[Ga hal]at ha;exact keep r _ (λz=>hnq (z ▸ FR ha)) (hrs3 a r ha)
     ·rw[F9 (by omega)]at ha;have hz:a-rs.length=0:=by have:=(FQ.mp ha).1;simp at this;omega
      rw[hz]at ha;cases ha;have:a=p:=by omega
      subst this;exact keep p9 _ (Ne.symm nqp) h9
  ·rintro σ H2 ⟨rs,k1,k2,e2,hq2,hfr,hln,hnd,hnq,hrs,rfl⟩;have tw:TW H2 H2 tq rs m.toNat (λi j=>decide (i=j)):=⟨λ_ _ _ e=>e,hln,hnd,hnq,hq2,hrs⟩;have kt:KT H H2 tq rs m.toNat (λi j=>decide (i=j)):=⟨e2,hfq,hfr,hln,hnd,hnq,hq2,hrs⟩;walk_at"";refine⟨.ref hp0,m,ws,_,rfl,hv.ext e2,ok,λl cs us H3 e3 hl3 hl hau hus=>?_⟩;have kt3:=kt.more e3;have nl:l∉rs:=λz=>by obtain⟨j,hj⟩:=Gx z;rw[hrs j l hj]at hl3;cases hl3
   have hcs:=hau.1;have tupN:∀(b:Addr) (w:Way),H3 b=some (.tup w.vs)->b∉rs:=λb w hb z=>by obtain⟨j,hj⟩:=Gx z;rw[kt3.rows.2 j b hj]at hb;cases hb
   refine cG (ag.of hl) ?_;refine forL (xs:=List.map V.ref cs) (λi σ H'=>∃M k1 k2,TW H3 H' tq rs m.toNat M/\(∀a b,M a b=true↔(a=b\/∃w∈us.take i,w.room.toNat=a/\w.other.toNat=b))/\σ=[some (.ref hp0),some (.ref tq),k1,k2]) ⟨_,_,_,kt3.tw,λa b=>by simp,rfl⟩ (λi σ H' _ h=>by obtain⟨M,k1,k2,t,_⟩:=h;exact ag.of (t.keep _ _ nl hl)) ?_ ?_
   ·rintro i v σ H4 hx ⟨M,k1,k2,tw4,hM,rfl⟩;rw[FJ]at hx;obtain⟨b,hb,rfl⟩:=FU.mp hx;have hi:i<us.length:=by rw[←hcs];exact(FQ.mp hb).1
    have gu:us[i]?=some us[i]:=FI hi;have hb0:=hau.2 i b _ hb gu;generalize us[i]=u at gu hb0;have hum:u∈ws:=by have:=FR gu;rw[hus]at this;exact(List.mem_filter.mp this).1
    have oku:=ok.ok u hum;have u0:=oku.r0;have u1:=oku.r1;have u2:=oku.o0;have u3:=oku.o1;have kb:=tw4.keep _ _ (tupN b u hb0) hb0;have x2:u.room.toNat<rs.length:=by rw[tw4.len];omega
    have r2:rs[u.room.toNat]?=some rs[u.room.toNat]:=FI x2;have w2:=tw4.rows.2 _ _ r2;generalize rs[u.room.toNat]=a2 at r2 w2;have at2:bF (rs.map V.ref) u.room=some (.ref a2):=fN u0 (by rw[FJ,r2];rfl);walk_at"";refine aI (ao.of kb) (v:=.int u.room) rfl ?_;walk_at"";refine aE (ag.of tw4.rows.1) at2 ?_;walk_at"";refine aI (ao.of kb) (v:=.int u.other) rfl ?_;walk_at"";refine jy w2 (jb u2 (by rw[cO];omega)) ?_;refine⟨_,_,_,tw4.mark r2 (by omega),λa c=>?_,rfl⟩;rw[List.take_add_one,gu];unfold put2;split
    ·rename_i z;simp only[true_iff];exact .inr ⟨u,Gr _ (by simp),z.1.symm,z.2.symm⟩
    ·rename_i z;rw[hM];constructor
     ·rintro(h|⟨w,hw,h⟩)
      ·exact .inl h
      ·exact .inr ⟨w,Gs _ hw,h⟩
     ·rintro(h|⟨w,hw,h1,h2⟩)
      ·exact .inl h
      ·rcases F8.mp hw with hw|hw
       ·exact .inr ⟨w,hw,h1,h2⟩
       ·have:w=u:=by simpa using hw
        subst this;exact absurd ⟨h1.symm,h2.symm⟩ z
   ·rintro σ H4 ⟨M,k1,k2,tw4,hM,rfl⟩;rw[FH,hcs,Gf]at hM;walk_at"";refine q tq rs M H4 (kt3.byW tw4) λa b=>?_;rw[hM,hus];constructor
    ·rintro(h|⟨w,hw,h⟩)
     ·exact .inl h
     ·obtain⟨h1,h2⟩:=List.mem_filter.mp hw;exact .inr ⟨w,h1,of_decide_eq_true h2,h⟩
    ·rintro(h|⟨w,hw,hd,h⟩)
     ·exact .inl h
     ·exact .inr ⟨w,List.mem_filter.mpr ⟨hw,GF hd⟩,h⟩
structure UD(H:Hp)(tq:Addr)(rs:List Addr)(lu ld:Addr)(cu cd:List Addr)(us ds:List Way):Prop where
 u:H lu=some (.lst (List.map V.ref cu))
 au:aJ H cu us
 d:H ld=some (.lst (List.map V.ref cd))
 ad:aJ H cd ds
 nu:lu∉rs
 nd:ld∉rs
 qu:lu≠tq
 qd:ld≠tq
def aJ.byW{H H':Hp}{q:Addr}{rs:List Addr}{n:Nat}{M M':Nat->Nat->Bool}(r:Rows H q rs n M)(t:TW H H' q rs n M'){bs:List Addr}{ws:List Way}(h:aJ H bs ws):aJ H' bs ws:=⟨h.1,λj b w e1 e2=>by have hb:=h.2 j b w e1 e2;refine t.keep b _ (λz=>?_) hb;obtain⟨j,hj⟩:=Gx z;rw[r.2 j b hj]at hb;cases hb⟩
def aJ.byB{H H':Hp}{q:Addr}{rs rs':List Addr}{n:Nat}{M M':Nat->Nat->Bool}(r:Rows H q rs n M)(t:TB H H' q rs rs' n M'){bs:List Addr}{ws:List Way}(h:aJ H bs ws):aJ H' bs ws:=⟨h.1,λj b w e1 e2=>by have hb:=h.2 j b w e1 e2;refine t.keep b _ (λz=>?_) hb;rw[z,r.1]at hb;cases hb⟩
def UD.byW{H H':Hp}{tq:Addr}{rs:List Addr}{lu ld:Addr}{cu cd:List Addr}{us ds:List Way}{n:Nat}{M M':Nat->Nat->Bool}(r:Rows H tq rs n M)(t:TW H H' tq rs n M')(h:UD H tq rs lu ld cu cd us ds):UD H' tq rs lu ld cu cd us ds:=
 ⟨t.keep _ _ h.nu h.u,h.au.byW r t,t.keep _ _ h.nd h.d,h.ad.byW r t,h.nu,h.nd,h.qu,h.qd⟩
def UD.byB{H H':Hp}{tq:Addr}{rs rs':List Addr}{lu ld:Addr}{cu cd:List Addr}{us ds:List Way}{n:Nat}{M M':Nat->Nat->Bool}(r:Rows H tq rs n M)(t:TB H H' tq rs rs' n M')(h:UD H tq rs lu ld cu cd us ds):UD H' tq rs' lu ld cu cd us ds:=by
 have no:∀l o,H l=some o->l∉rs->l∉rs':=λl o hl hn z=>by
  rcases t.old l z with y|y
  ·exact hn y
  ·rw[hl]at y;cases y
 exact⟨t.keep _ _ h.qu h.u,h.au.byB r t,t.keep _ _ h.qd h.d,h.ad.byB r t,no _ _ h.u h.nu,no _ _ h.d h.nd,h.qu,h.qd⟩
def m7(ws:List Way)(n:Nat)(M:Nat->Nat->Bool):Prop:=∀i j,i<n->j<n->(M i j=true↔Kpt ws n i j)
structure KJ(ws:List Way)(n:Nat)(M:Nat->Nat->Bool):Prop where
 beg:∀i j,(i=j\/∃w∈ws,w.deed = "stay"/\w.room.toNat=i/\w.other.toNat=j)->M i j=true
 snd:∀i j,M i j=true->i=j\/Kpt ws n i j
def AW{m:Int}{ws:List Way}{M:Nat->Nat->Bool}(ok:∀w∈ws,w.Ok m)(h:KJ ws m.toNat M)(tr:∀i a j,a<m.toNat->M i a=true->M a j=true->M i j=true)(ar:∀u∈ws.filter (λw=>decide (w.deed=Gp "up")),∀d∈ws.filter (λw=>decide (w.deed=Gp "down")),M u.other.toNat d.room.toNat=true->M u.room.toNat d.other.toNat=true):m7 ws m.toNat M:=by
 intro i j hi hj;constructor
 ·intro hm;rcases h.snd i j hm with rfl|h
  ·exact .refl hi
  ·exact h
 ·intro hk;clear hi hj;induction hk with
  | refl _=>exact h.beg _ _ (.inl rfl)
  | stay h1 h2=>exact h.beg _ _ (.inr ⟨_,h1,h2,rfl,rfl⟩)
  | trans h1 h2 i1 i2=>exact tr _ _ _ (Kpt.lt ok h1).2 i1 i2
  | arch h1 h2 h3 h4 h5 ih=>exact ar _ (List.mem_filter.mpr ⟨h1,GF h2⟩) _ (List.mem_filter.mpr ⟨h3,GF h4⟩) ih
def KJ.join{m:Int}{ws:List Way}{M M':Nat->Nat->Bool}(h:KJ ws m.toNat M)(j:Joined m.toNat M M'):KJ ws m.toNat M':=by
 refine⟨λa b hb=>j.le _ _ (h.beg a b hb),λa b hm=>j.least (λa b=>a=b\/Kpt ws m.toNat a b) (λi a j h1 h2=>?_) h.snd a b hm⟩;rcases h1 with rfl|h1
 ·exact h2
 ·rcases h2 with rfl|h2
  ·exact .inr h1
  ·exact .inr (.trans h1 h2)
def KJ.arch{m:Int}{ws:List Way}{M M':Nat->Nat->Bool}{ad:Bool}(ok:∀w∈ws,w.Ok m)(h:KJ ws m.toNat M)(a:ArchR m.toNat (ws.filter λw=>decide (w.deed=Gp "up")) (ws.filter λw=>decide (w.deed=Gp "down")) M M' ad):KJ ws m.toNat M':=by
 refine⟨λi j hb=>a.le _ _ (h.beg i j hb),λi j hm=>a.least (λa b=>a=b\/Kpt ws m.toNat a b) (λu hu d hd hs=>?_) h.snd i j hm⟩;obtain⟨u1,u2⟩:=List.mem_filter.mp hu;obtain⟨d1,d2⟩:=List.mem_filter.mp hd;have u2:=of_decide_eq_true u2;have d2:=of_decide_eq_true d2;right;refine .arch u1 u2 d1 d2 ?_;rcases hs with hs|hs
 ·rw[hs];exact .refl (gh ok d1).1
 ·exact hs
def lR(K:FD):Sp:=λvs H Q _=>∃vh m ws,vs=[vh]/\bh H vh m ws/\HOuse m ws/\∀q rs M H',KT H H' q rs m.toNat M->m7 ws m.toNat M->Q (.ref q) H'
abbrev oB:Stmt:=stq 50
def yn:FnScope ["house","table","ups","downs"] ["house"] (aA oB):=⟨rfl,rfl,rfl,by decide +kernel,rfl,by decide +kernel,by decide +kernel⟩
def Df{P:Program}{w:World}{K:FD}{mg:Str->Option Value}{base:Heap}(D:Dfn K mg "kept_table" oB ["house"])(T:Blt mg)(C_add_arches:Cal P w K mg base "add_arches" 1 ["table","ups","downs"] (vi K))(C_join_walks:Cal P w K mg base "join_walks" 1 ["table"] (rV K))(C_ways_of_deed:Cal P w K mg base "ways_of_deed" 1 ["house","deed"] (jh K))(C_beginning_table:Cal P w K mg base "beginning_table" 2 ["house"] (uH K)):Cal P w K mg base "kept_table" 3 ["house"] (lR K):=by
 have nd:=(yn).nd;refine D.ok yn (λvs H Q E h=>?_) (λX hX H vs Q E h=>?_)
 ·obtain⟨vh,m,ws,rfl,_⟩:=h;rfl
 ·obtain⟨f,cdv,A,outer,s,H0,E0,rfl,hr⟩:=hX;obtain⟨vh,m,ws,rfl,hv,ok,q⟩:=h;have m1:=ok.m1;have m12:=ok.m12;refine⟨_,(ai (aM (i:=1) nd rfl (Or.inl rfl) (aD C_beginning_table hr (aa (pv 0) ae)))
    (ai (aM (i:=2) nd rfl (Or.inl rfl) (aD C_ways_of_deed hr (aa (pv 0) (aa az ae))))
    (ai (aM (i:=3) nd rfl (Or.inl rfl) (aD C_ways_of_deed hr (aa (pv 0) (aa az ae))))
    (ai (aZ (aD C_join_walks hr (aa (pv 1) ae)))
    (ai (jj PassesOwn.never (bE (aD C_add_arches hr (aa (pv 1) (aa (pv 2) (aa (pv 3) ae))))) (aj (aZ (aD C_join_walks hr (aa (pv 1) ae)))))
    (aj (aG (pv 1)))))))),?_⟩
  walk_at"";refine⟨vh,m,ws,rfl,hv,ok,λtq rs M H1 kt bg=>?_⟩;walk_at"";refine⟨vh,m,ws,_,rfl,hv.ext kt.ext,ok,λlu cu us H2 e2 hlu hlu2 hau hus=>?_⟩;walk_at"";refine⟨vh,m,ws,_,rfl,hv.ext (kt.ext.trans e2),ok,λld cd ds H3 e3 hld hld2 had hds=>?_⟩;have kt3:=kt.more (e2.trans e3);have kj:KJ ws m.toNat M:=⟨λi j h=>(bg i j).mpr h,λi j h=>by
   rcases(bg i j).mp h with h|⟨w,hw,hd,rfl,rfl⟩
   ·exact .inl h
   ·exact .inr (.stay hw hd)⟩
  have nin:∀l,H1 l=none->l∉rs/\l≠tq:=λl hl=>by
   refine⟨λz=>?_,λz=>?_⟩
   ·obtain⟨j,hj⟩:=Gx z;rw[kt.rows.2 j l hj]at hl;cases hl
   ·rw[z,kt.rows.1]at hl;cases hl
  have hld1:H1 ld=none:=by
   cases z:H1 ld with
   | none=>rfl
   | some o=>rw[e2 _ _ z]at hld;cases hld
  have ud:UD H3 tq rs lu ld cu cd us ds:=⟨e3 _ _ hlu2,hau.ext e3,hld2,had,(nin lu hlu).1,(nin ld hld1).1,(nin lu hlu).2,(nin ld hld1).2⟩;have hin:∀w∈us++ds,0<=w.room/\w.room<(m.toNat:Int)/\0<=w.other/\w.other<(m.toNat:Int):=λw hw=>by
   have hw':w∈ws:=by
    rcases F8.mp hw with h|h
    ·rw[hus]at h;exact(List.mem_filter.mp h).1
    ·rw[hds]at h;exact(List.mem_filter.mp h).1
   have h:=ok.ok w hw';have h1:=h.r0;have h2:=h.r1;have h3:=h.o0;have h4:=h.o1;omega
  clear hlu2 hau hld2 had nin hld1;walk_at"";refine⟨tq,rs,m.toNat,M,rfl,kt3.tb,by omega,λrs1 M1 H4 tb jd=>?_⟩;have kt4:=kt3.byB tb;have ud4:=ud.byB kt3.rows tb;have kj4:=kj.join jd;walk_at"";refine jH (λmm σ H'=>∃rs M,KT H H' tq rs m.toNat M/\UD H' tq rs lu ld cu cd us ds/\KJ ws m.toNat M/\(∀i a j,a<m.toNat->M i a=true->M a j=true->M i j=true)/\mm=iR m.toNat M/\σ=[some vh,some (.ref tq),some (.ref lu),some (.ref ld)]) (λσ H'=>∃rs M,KT H H' tq rs m.toNat M/\m7 ws m.toNat M/\σ=[some vh,some (.ref tq),some (.ref lu),some (.ref ld)]) (iR m.toNat M1) ⟨rs1,M1,kt4,ud4,kj4,jd.tr,rfl,rfl⟩ ?_ ?_
  ·rintro mm σ H5 ⟨rs5,M5,kt5,ud5,kj5,tr5,rfl,rfl⟩;walk_at"";refine⟨tq,rs5,m.toNat,M5,lu,cu,us,ld,cd,ds,rfl,kt5.tw,ud5.u,ud5.au,ud5.d,ud5.ad,ud5.nu,ud5.nd,hin,λM6 ad H6 tw ar cl=>?_⟩;have kt6:=kt5.byW tw;have ud6:=ud5.byW kt5.rows tw;rw[hus,hds]at ar;have kj6:=kj5.arch ok.ok ar;walk_at"";cases ad with
   | false=>
    refine aq ⟨rs5,M6,kt6,AW ok.ok kj6 (λi a j ha h1 h2=>?_) (λu hu d hd hm=>?_),rfl⟩
    ·rw[ar.same rfl]at h1 h2 ⊢;exact tr5 i a j ha h1 h2
    ·rw[ar.same rfl]at hm ⊢;exact cl rfl u (by rw[hus];exact hu) d (by rw[hds];exact hd) hm
   | true=>
    refine ax ⟨λσ' H'=>∃rs M,KT H H' tq rs m.toNat M/\UD H' tq rs lu ld cu cd us ds/\KJ ws m.toNat M/\(∀i a j,a<m.toNat->M i a=true->M a j=true->M i j=true)/\iR m.toNat M<iR m.toNat M5/\σ'=[some vh,some (.ref tq),some (.ref lu),some (.ref ld)],λσ' H' ⟨rs,M,a1,a2,a3,a4,a5,a6⟩=>⟨_,a5,rs,M,a1,a2,a3,a4,rfl,a6⟩,?_⟩;walk_at"";refine⟨tq,rs5,m.toNat,M6,rfl,kt6.tb,by omega,λrs7 M7 H7 tb7 jd7=>?_⟩;walk_at"";obtain⟨i,j,hi,hj,hf,ht⟩:=ar.more rfl;exact⟨rs7,M7,kt6.byB tb7,ud6.byB kt6.rows tb7,kj6.join jd7,jd7.tr,Bx hi hj (λa b h=>jd7.le _ _ (ar.le _ _ h)) hf (jd7.le _ _ ht),rfl⟩
  ·rintro σ H5 ⟨rs5,M5,kt5,hk5,rfl⟩;walk_at"";exact q tq rs5 M5 H5 kt5 hk5
def jS{sp:Sp}{js:List Nat}{cells:List (Str×Addr)}{N:List Str}{ta:TA}{σ:St}{H:Hp}{Q:VK} (h:ta σ H λvs H1=>(∀j∈js,∃v,σ[j]?=some (some v)) ∧
 ∀cp:List Cap,cp.length=js.length->(∀(i j:Nat) (e:Cap),js[i]?=some j->cp[i]?=some e->N[j]?=some e.n/\cells.lookup e.n=some e.c/\σ[j]?=some (some e.v)/\H1 e.c=none/\∃u,e.o.data=.cell (some u)/\RelV e.v u) →
  sp vs (bJ (cellsOf cp) H1) (λv H'=>(∀b o,(cellsOf cp).lookup b=some o->H' b=some (cV b o))/\Q v (aV (cellsOf cp) H')) E0):iS sp js cells N ta σ H Q:=h
def xO{P:Program}{w:World}{K:FD}{mg:Str->Option Value}{base:Heap}{k:Nat}{tf:TE}{ta:TA}{σ:St}{H:Hp}{Q:VK}(h:tf σ H λfv H1=>∃f pre R,fv=.ref f/\FunR P w K mg base k f pre R/\pre H1/\ta σ H1 λvs H2=>pre H2/\R vs H2 Q):wA P w K mg base k tf ta σ H Q:=h
def i6{cs:List (Addr×Obj)}{H:Hp}(hn:∀b o,cs.lookup b=some o->H b=none):Ext H (bJ cs H):=λb o e=>qx hn e
def eh{cs:List (Addr×Obj)}{H:Hp}(hc:∀b o,cs.lookup b=some o->H b=some (cV b o)){b:Addr}{x:HO}(hb:H b=some x)(nx:∀f,x≠.ext f):aV cs H b=some x:=by
 cases q:cs.lookup b with
 | none=>rw[cq q];exact hb
 | some o=>rw[hc b o q]at hb;cases hb;exact absurd rfl (nx _)
def zt{cs:List (Addr×Obj)}{H:Hp}(hc:∀b o,cs.lookup b=some o->H b=some (cV b o)):Ext H (bJ cs (aV cs H)):=λb x e=>by
 cases q:cs.lookup b with
 | none=>rw[cQ q,cq q];exact e
 | some o=>rw[dI q,←hc b o q];exact e
def Dv{cs:List (Addr×Obj)}{H H':Hp}(hn:∀b o,cs.lookup b=some o->H b=none)(e:Ext (bJ cs H) H'):Ext H (aV cs H'):=λb x hb=>by
 cases q:cs.lookup b with
 | none=>rw[cq q];exact e b x (by rw[cQ q];exact hb)
 | some o=>rw[hn b o q]at hb;cases hb
def de(n:Nat)(g:Nat->Nat->Bool):Nat->List Bfs.Pl
 | 0=>[]
 | p+1=>de n g p++((GC n).filter (g p)).map λq:Nat=>(((p:Nat):Int),((q:Nat):Int))
def ia{n:Nat}{g:Nat->Nat->Bool}{x:Bfs.Pl}:∀{k:Nat},x∈de n g k↔∃p q:Nat,p<k/\q<n/\g p q=true/\x=(((p:Nat):Int),((q:Nat):Int))
 | 0=>⟨λh=>(nomatch h),λ⟨p,_,h,_⟩=>absurd h (Nat.not_lt_zero _)⟩
 | k+1=>by
  show x∈de n g k++_↔_;rw[F8,ia (k:=k)];constructor
  ·rintro(⟨p,q,h1,h2⟩|h)
   ·exact⟨p,q,by omega,h2⟩
   ·obtain⟨q,hq,rfl⟩:=List.mem_map.mp h;obtain⟨h1,h2⟩:=List.mem_filter.mp hq;exact⟨k,q,by omega,List.mem_range.mp h1,h2,rfl⟩
  ·rintro⟨p,q,h1,h2,h3,rfl⟩;by_cases hp:p<k
   ·exact .inl ⟨p,q,hp,h2,h3,rfl⟩
   ·have:p=k:=by omega
    subst this;exact .inr (List.mem_map.mpr ⟨q,List.mem_filter.mpr ⟨List.mem_range.mpr h2,h3⟩,rfl⟩)
def ng(n:Nat)(g:Nat->Bool):((GC n).filter g).length<=n:=Gh (List.length_filter_le _ _) (by rw[List.length_range];exact F5 _)
def nA{n:Nat}{g:Nat->Nat->Bool}:∀k:Nat,(de n g k).length<=k*n
 | 0=>by simp[de]
 | k+1=>by show(de n g k++_).length<=_;rw[F0,FH,Nat.succ_mul];have:=nA (n:=n) (g:=g) k;have:=ng n (g k);omega
def bY{H H':Hp}(f:∀a x,aB H a x->aB H' a x){as:List Addr}{xs:List Bfs.Pl}(h:Paired (aB H) as xs):Paired (aB H') as xs:=by
 induction h with
 | nil=>exact .nil
 | cons h t ih=>exact .cons (f _ _ h) ih
def jg{H:Hp}{as:List Addr}{xs:List Bfs.Pl}{a:Addr}{x:Bfs.Pl}(h:Paired (aB H) as xs)(ht:aB H a x):Paired (aB H) (as++[a]) (xs++[x]):=by
 induction h with
 | nil=>exact .cons ht .nil
 | cons h _ ih=>exact .cons h ih
def ua{H:Hp}{as bs:List Addr}{xs ys:List Bfs.Pl}(h:Paired (aB H) as xs)(h':Paired (aB H) bs ys):Paired (aB H) (as++bs) (xs++ys):=by
 induction h with
 | nil=>exact h'
 | cons h _ ih=>exact .cons h ih
def dz{H:Hp}{as:List Addr}{xs:List Bfs.Pl}(h:Paired (aB H) as xs):as.length=xs.length:=by
 induction h with
 | nil=>rfl
 | cons _ _ ih=>rw[Ge,Ge,ih]
def ki(P:Program)(w:World)(K:FD)(mg:Str->Option Value)(base:Heap):Sp:=λvs H Q _=>∃vh m ws f pre g,vs=[vh,.ref f]/\bh H vh m ws/\HOuse m ws/\FunR P w K mg base 1 f pre (λvs H Q=>∃p q:Nat,vs=[.int (p:Nat),.int (q:Nat)]/\(p:Int)<m/\(q:Int)<m/\∀H',Ext H H'->Q (.bl (g p q)) H')/\pre H/\(∀H H',Ext H H'->pre H->pre H') ∧
 ∀l ps H',Ext H H'->H l=none->H' l=some (.lst (List.map V.ref ps))->Paired (aB H') ps (de m.toNat g m.toNat)->Q (.ref l) H'
abbrev pU:Stmt:=stq 46
def uI:FnScope ["house","choice","pairs","p"] ["house","choice"] (aA pU):=⟨rfl,rfl,rfl,by decide +kernel,rfl,by decide +kernel,by decide +kernel⟩
def Fu{P:Program}{w:World}{K:FD}{mg:Str->Option Value}{base:Heap}(D:Dfn K mg "told_pairs" pU ["house","choice"])(T:Blt mg):Cal P w K mg base "told_pairs" 2 ["house","choice"] (ki P w K mg base):=by
 have nd:=(uI).nd;refine D.ok uI (λvs H Q E h=>?_) (λX hX H vs Q E h=>?_)
 ·obtain⟨vh,m,ws,f,pre,g,rfl,_⟩:=h;rfl
 ·obtain⟨f,cdv,A,outer,s,H0,E0,rfl,hr⟩:=hX;obtain⟨vh,m,ws,ff,pre,g,rfl,hv,ok,hF,hpre,hmono,q⟩:=h;have m1:=ok.m1;have m12:=ok.m12;obtain⟨hp0,hq0,rfl,hh,_⟩:=id hv;refine⟨_,(@ai _ _ _ _ _ (@aM _ _ 2 _ _ _ _ nd rfl (Or.inl rfl) (@bo _ _ _ _ ae) rfl (Or.inl rfl))
    (@ai _ _ _ _ _ (bV PassesOwn.never rfl (cB rfl T.range_ (@aa _ _ _ _ _ (@ah _ _ _ _ _ _ _ (aH K) (pv 0) af (λ_ _=>rfl)) ae rfl)) (aS (i:=3) nd rfl (Or.inr rfl)) (@aj _ _ _ (aZ (bC K FP PySem.F.slot_list_extend PySem.F.type_list_extend zq (pv 2) (@aa _ _ _ _ _ (dE ["q"] [3,1] (cB rfl T.range_ (@aa _ _ _ _ _ (@ah _ _ _ _ _ _ _ (aH K) (pv 0) af (λ_ _=>rfl)) ae rfl)) (λ_=>(aS (i:=0) (show(["q","p","choice"]:List Str).Nodup from by decide +kernel) rfl (Or.inl rfl) (Or.inr rfl))) (λ_=>(fo (bE (xM (P:=P) (w:=w) (K:=K) (mg:=mg) (base:=base) hr (pv 2) (@aa _ _ _ _ _ (pv 1) (@aa _ _ _ _ _ (pv 0) ae rfl) rfl))))) (λ_=>(@aR _ _ _ _ _ (@aa _ _ _ _ _ (pv 1) (@aa _ _ _ _ _ (pv 0) ae rfl) rfl)))) ae rfl)))))
    (@aj _ _ _ (@aG _ _ _ _ (pv 2))))),?_⟩
  walk_at"";refine aw λl H1 e1 hl hfl=>?_;walk_at"";refine aI (ao.of (e1 _ _ hh)) (v:=.int m) rfl ?_;walk_at"";refine ck (by omega) ?_;refine forR (λp σ H'=>∃ps k1,Ext H H'/\H' l=some (.lst (List.map V.ref ps))/\Paired (aB H') ps (de m.toNat g p)/\σ=[some (.ref hp0),some (.ref ff),some (.ref l),k1]) ⟨[],_,e1,hl,.nil,rfl⟩ ?_ ?_
  ·rintro p σ H2 hp ⟨ps,k1,e2,hl2,hps,rfl⟩;rw[show (0:Int)+(p:Int)=((p:Nat):Int) by omega];have hpl:=dz hps;have hpn:=nA (n:=m.toNat) (g:=g) p;have hpm:p*m.toNat<=12*12:=Nat.mul_le_mul (by omega) (by omega);walk_at"";refine⟨cH (ag.of hl2),?_⟩;walk_at"";refine aI (ao.of (e2 _ _ hh)) (v:=.int m) rfl ?_;walk_at"";refine ck (by omega) ?_;refine fg (λi ys H'=>Ext H2 H'/\∃cs,ys=List.map V.ref cs/\Paired (aB H') cs (((GC i).filter (g p)).map λq:Nat=>(((p:Nat):Int),((q:Nat):Int)))) (bI (by omega)) ⟨Ext.rfl' _,[],rfl,.nil⟩ ?_ ?_ ?_
   ·rintro i ys H' _ ⟨_,cs,rfl,hcs⟩;rw[FH,dz hcs,FH];exact ng i (g p)
   ·rintro i ys H3 hi ⟨e3,cs,rfl,hcs⟩;rw[show (0:Int)+(i:Int)=((i:Nat):Int) by omega];have e23:=e2.trans e3;walk_at"";refine xO ?_;walk_at"";refine⟨ff,pre,_,rfl,hF,hmono _ _ e23 hpre,?_⟩;walk_at"";refine⟨hmono _ _ e23 hpre,p,i,rfl,by omega,by omega,λH4 e4=>?_⟩;have e24:=e3.trans e4;cases hg:g p i with
    | false=>
     refine rd_exb (aq ⟨e24,cs,rfl,?_⟩);rw[List.range_succ,List.filter_append];have:List.filter (g p) [i]=[]:=by rw[List.filter_cons,GG (by rw[hg];exact FY)];rfl
     rw[this,List.append_nil];exact bY (λa x h=>e4 _ _ h) hcs
    | true=>
     refine rd_exb (ax ?_);walk_at"";refine aw λt H5 e5 ht _=>?_;refine⟨e24.trans e5,cs++[t],?_,?_⟩
     ·rw[FZ];rfl
     ·rw[List.range_succ,List.filter_append,FZ];have:List.filter (g p) [i]=[i]:=by rw[List.filter_cons,GH hg];rfl
      rw[this];exact jg (bY (λa x h=>(e4.trans e5) _ _ h) hcs) ht
   ·rintro ys H3 p9 ⟨e3,cs,rfl,hcs⟩ hp9;have e4:=bS (o:=.lst (List.map V.ref cs)) hp9;have h9:(upd H3 p9 (.lst (List.map V.ref cs))) p9=_:=aN;have hcs4:=bY (λa x h=>e4 _ _ h) hcs;have e24:=e3.trans e4;have hl4:=e24 _ _ hl2;have hps4:=bY (λa x h=>e24 _ _ h) hps;generalize upd H3 p9 (.lst (List.map V.ref cs))=H4 at e4 h9 hcs4 e24 hl4 hps4 ⊢;have hcl:=dz hcs;rw[FH]at hcl;have hfl2:=ng m.toNat (g p);walk_at"";refine⟨l,p9,_,_,rfl,rfl,hl4,h9,bI (by rw[FH,FH];omega),?_⟩;walk_at"";refine⟨ps++cs,_,cR (e2.trans e24) hfl,?_,?_,rfl⟩
    ·rw[aN,FZ]
    ·exact ua (bY (λa x h=>aB.put hl4 (λxs z=>by cases z) h) hps4) (bY (λa x h=>aB.put hl4 (λxs z=>by cases z) h) hcs4)
  ·rintro σ H2 ⟨ps,k1,e2,hl2,hps,rfl⟩;walk_at"";exact q l ps H2 e2 hfl hl2 hps
def dC(K:FD):Prop:=∀x∈(["fallen","kept","low_levels","risen"]:List Str),∀y∈(["fallen","kept","low_levels","risen"]:List Str),x≠y->∀c T c' T',PySem.W.tabIn K x=some (c,T)->PySem.W.tabIn K y=some (c',T')->T'≠T
def Fd(K:FD):Bool:=(["fallen","kept","low_levels","risen"]:List Str).all λx=>(["fallen","kept","low_levels","risen"]:List Str).all λy=>x == y || (match PySem.W.tabIn K x,PySem.W.tabIn K y with|some a,some b=>b.2 != a.2|_,_=>true)
def zD{K:FD}(h:Fd K=true):dC K:=λx hx y hy hn c T c' T' e1 e2=>by
 have h1:=Gj.mp (Gj.mp h x hx) y hy;rw[e1,e2,Bool.or_eq_true]at h1;rcases h1 with h1|h1
 ·exact absurd (eq_of_beq h1) hn
 ·exact bne_iff_ne.mp h1
structure Tbs(K:FD)(H:Hp):Prop where
 fallen:dA K "fallen" ("fallen" ++ ".<locals>." ++ "<lambda>") 179 29 H
 kept:dA K "kept" ("kept" ++ ".<locals>." ++ "<lambda>") 169 29 H
 low:dA K "low_levels" ("low_levels" ++ ".<locals>." ++ "<lambda>") 208 39 H
 risen:dA K "risen" ("risen" ++ ".<locals>." ++ "<lambda>") 174 29 H
def Tbs.ext{K:FD}{H H':Hp}(e:Ext H H')(h:Tbs K H):Tbs K H':=⟨h.fallen.ext e,h.kept.ext e,h.low.ext e,h.risen.ext e⟩
def cS.et{H H':Hp}{p:Addr}{kk:List (List Key)}(e:Et H H')(h:cS H p kk):cS H' p kk:=by obtain⟨bs,h1,h2,h3⟩:=h;exact⟨bs,e _ _ h1 (λps z=>by cases z),h2,λj b k e1 e2=>e _ _ (h3 j b k e1 e2) (λps z=>by cases z)⟩
def bh.et{H H':Hp}{v:V}{m:Int}{ws:List Way}(e:Et H H')(h:bh H v m ws):bh H' v m ws:=by obtain⟨p,q,rfl,h1,h2⟩:=h;exact⟨p,q,rfl,e _ _ h1 (λps z=>by cases z),h2.et e⟩
def Rows.et{H H':Hp}(e:Et H H'){q:Addr}{rs:List Addr}{n:Nat}{M:Nat->Nat->Bool}(h:Rows H q rs n M):Rows H' q rs n M:=⟨e _ _ h.1 (λps z=>by cases z),λi r hi=>e _ _ (h.2 i r hi) (λps z=>by cases z)⟩
def aJ.et{H H':Hp}{bs:List Addr}{ws:List Way}(e:Et H H')(h:aJ H bs ws):aJ H' bs ws:=⟨h.1,λj b w e1 e2=>e _ _ (h.2 j b w e1 e2) (λps z=>by cases z)⟩
def aB.et{H H':Hp}(e:Et H H'){p:Addr}{x:Bfs.Pl}(h:aB H p x):aB H' p x:=e _ _ h (λps z=>by cases z)
def dU(H:Hp)(l:Addr)(n:Nat)(R:Nat->Nat->Prop):Prop:=∃ps g,H l=some (.lst (List.map V.ref ps))/\Paired (aB H) ps (de n g n)/\∀i j,i<n->j<n->(g i j=true↔R i j)
def dU.et{H H':Hp}(e:Et H H'){l:Addr}{n:Nat}{R:Nat->Nat->Prop}(h:dU H l n R):dU H' l n R:=by obtain⟨ps,g,h1,h2,h3⟩:=h;exact⟨ps,g,e _ _ h1 (λps z=>by cases z),bY (λa x h=>h.et e) h2,h3⟩
def held{cs:List (Addr×Obj)}{H3 H4:Hp}(hn:∀b o,cs.lookup b=some o->H3 b=none)(e4:Ext (bJ cs H3) H4):(∀b o,cs.lookup b=some o->H4 b=some (cV b o))/\Ext H3 (aV cs H4)/\(∀l,bJ cs H3 l=none->aV cs H4 l=H4 l)/\∀b x,H4 b=some x->(∀f,x≠.ext f)->aV cs H4 b=some x:=by
 have hc:∀b o,cs.lookup b=some o->H4 b=some (cV b o):=λb o q=>e4 _ _ (dI q);refine⟨hc,Dv hn e4,λl hl=>?_,λb x hb nx=>eh hc hb nx⟩;cases q:cs.lookup l with
 | none=>exact cq q
 | some o=>rw[dI q]at hl;cases hl
def nk{α:Type}{cp:List α}(h:cp.length=1):∃e,cp=[e]:=by
 cases cp with
 | nil=>exact absurd h (by simp)
 | cons e r=>
  cases r with
  | nil=>exact⟨e,rfl⟩
  | cons _ _=>exact absurd h (by simp)
def iK{α:Type}{cp:List α}(h:cp.length=2):∃e e',cp=[e,e']:=by
 cases cp with
 | nil=>exact absurd h (by simp)
 | cons e r=>
  obtain⟨e',rfl⟩:=nk (cp:=r) (by simpa using h);exact⟨e,e',rfl⟩
def zu{α:Type}{cp:List α}(h:cp.length=3):∃e e' e'',cp=[e,e',e'']:=by
 cases cp with
 | nil=>exact absurd h (by simp)
 | cons e r=>
  obtain⟨e',e'',rfl⟩:=iK (cp:=r) (by simpa using h);exact⟨e,e',e'',rfl⟩
def lH{P:Program}{w:World}{K:FD}{mg:Str->Option Value}{base:Heap}{k:Nat}{f c:Addr}{q:Str}{params:Arguments}{body:Expr}{scope:Scope}{cl cells:List (Str×Addr)}{H0:Hp}(hf:H0 f=some (eO f c q params body scope cl))(C:ClOk scope cells cl)(ps:List Str)(cp:List Cap)(R:List V->Hp->VK->Prop)(I:Hp->Prop)
  (S:LamSc ps scope) (bind:∀(pm cv ctv:Value) (us:List Value),us.length=ps.length->bindArgs (PySem.W.kla_fn "<lambda>" q params body scope cl pm cv ctv) ⟨us,[]⟩=pure (ps.zip us))
  (hR:∀vs H Q,R vs H Q->vs.length=ps.length)
  (hbody:∀(A:Around) (outer:List Env) (s:Shared) (H:Hp) (vs:List V) (Q:VK),Room k (A.deeper (eS q scope s.heap.objs.size f (.ref c) cl))->gE f c q params body scope cl cp H->I H->R vs H Q →
   ∃te,PE (ja P w K mg base (ps++cp.map (·.n)) q scope f (.ref c) cl A outer s (aV (cellsOf cp) H)) body te/\te (vs.map some++cp.map λe=>some e.v) (aV (cellsOf cp) H) λv H'=>(∀b o,(cellsOf cp).lookup b=some o->H' b=none)->Q v (bJ (cellsOf cp) H')) :
  FunR P w K mg base (k+1) f (λH=>gE f c q params body scope cl cp H/\I H) R:=BZ I S C bind hR hbody
def lK(K:FD):Sp:=λvs H Q E=>∃vh,vs=[vh]/\((cY H vh/\Ref K H E)\/∃m ws,bh H vh m ws/\HOuse m ws/\dC K/\Tbs K H/\∀l H',Et H H'->Tbs K H'->dU H' l m.toNat (Kpt ws m.toNat)->Q (.ref l) H')
abbrev pL:Stmt:=stq 51
def uk:FnScope ["house","table"] ["house"] (aA pL):=⟨rfl,rfl,rfl,by decide +kernel,rfl,by decide +kernel,by decide +kernel⟩
def zN{P:Program}{w:World}{K:FD}{mg:Str->Option Value}{base:Heap}(D:Dfn K mg "kept" pL ["house"])(T:Blt mg){c9 T9:Addr}(B:Tab K mg base "kept" c9 T9)(C_told_pairs:Cal P w K mg base "told_pairs" 2 ["house","choice"] (ki P w K mg base))(C_kept_table:Cal P w K mg base "kept_table" 3 ["house"] (lR K))(CX_refuse_no_house:CalX P w K mg base "refuse_no_house" 6 ["thing"] (gv K)):CalX P w K mg base "kept" 7 ["house"] (lK K):=by
 have nd:=(uk).nd;refine D.okLX B uk (λvs H Q E h=>?_) (λf A outer s H vs Q E hr h=>?_)
 ·obtain⟨vh,rfl,_⟩:=h;rfl
 ·obtain⟨vh,rfl,h⟩:=h;refine⟨_,(ai (aZ (iN CX_refuse_no_house hr (aa (pv 0) ae)))
    (ai (aM (i:=1) nd rfl (Or.inr rfl) (aD C_kept_table hr (aa (pv 0) ae)))
    (aj (jx (aG (ky [1] C_told_pairs hr (aa (pv 0) (aa (kx rfl rfl B.hd B.blt B.gl (by decide +kernel) rfl rfl rfl) ae)))))))),?_⟩
  walk_at"";rcases h with⟨hno,href⟩|⟨m,ws,hv,ok,dis,htb,q⟩
  ·exact refuses hno href
  have m1:=ok.m1;have m12:=ok.m12;refine accepts hv ok λH1 e1=>?_;walk_at"";refine⟨vh,m,ws,rfl,hv.ext e1,ok,λtq rs M H2 kt km=>?_⟩;have e02:=e1.trans kt.ext;have hrows:=kt.rows;have hrl:=kt.len;walk_at"";show iS _ [1] _ (["house","table"]:List Str) _ _ _ _;generalize PySem.Env.cells _=cells0;refine jS ?_;walk_at"";refine lj ?_;refine kF (x:="kept") (htb.ext e02).kept B.tin λfl c' cl H3 hcl e3 ht3 ot hf hc'=>?_;have t3:Tbs K H3:=⟨ot "fallen" _ _ _ (λc2 T2 e2=>dis "kept" (by simp) "fallen" (by simp) (by decide +kernel) _ _ _ _ B.tin e2) (htb.ext e02).fallen,ht3,ot "low_levels" _ _ _ (λc2 T2 e2=>dis "kept" (by simp) "low_levels" (by simp) (by decide +kernel) _ _ _ _ B.tin e2) (htb.ext e02).low,ot "risen" _ _ _ (λc2 T2 e2=>dis "kept" (by simp) "risen" (by simp) (by decide +kernel) _ _ _ _ B.tin e2) (htb.ext e02).risen⟩;walk_at"";refine⟨λj hj=>?_,λcp hlen hcp=>?_⟩
  ·rw[FT.mp hj];exact⟨_,rfl⟩
  obtain⟨⟨n,c,o,v⟩,rfl⟩:=nk hlen;obtain⟨hN,hcc,hσ,hnone,u,hdat,hrel⟩:=hcp 0 1 _ rfl rfl;clear hcp hlen;dsimp only at hN hcc hσ hnone hdat hrel;have hN':(Gp "table")=n:=Gq hN;have hσ':(V.ref tq)=v:=Gq (Gq hσ);clear hN hσ;subst hN';subst hσ';have hn3:∀b o',(cellsOf [⟨Gp "table",c,o,V.ref tq⟩]).lookup b=some o'->H3 b=none:=λb o' hb=>by obtain⟨e,he,rfl,rfl⟩:=f9 hb;rw[FT.mp he];exact hnone
  have ex:=i6 hn3;have hrows3:=(hrows.et e3).ext ex;have hv3:=((hv.ext e02).et e3).ext ex;have hcaps:Caps (bJ (cellsOf [⟨Gp "table",c,o,V.ref tq⟩]) H3) cl [⟨Gp "table",c,o,V.ref tq⟩]:=by
   obtain⟨c2,hc2⟩:=hcl.has (Gp "table") rfl;have hc3:=(hcl.fr _ _ hc2).2;rw[hcc]at hc3;cases hc3;refine⟨λe he=>?_,λx d hx=>?_⟩
   ·rw[FT.mp he];exact⟨hc2,dI (by simp[cellsOf]),u,hdat,hrel⟩
   ·have hm:=gI (hcl.fr x d hx).1;simp at hm;subst hm;rw[hc2]at hx;cases hx;exact⟨_,FT.mpr rfl,rfl,rfl⟩
  have hF:=lH (P:=P) (w:=w) (K:=K) (mg:=mg) (base:=base) (k:=0) hf hcl (["p","q"]:List Str) [⟨Gp "table",c,o,V.ref tq⟩] (λvs H Q=>∃p q:Nat,vs=[.int (p:Nat),.int (q:Nat)]/\(p:Int)<m/\(q:Int)<m/\∀H',Ext H H'->Q (.bl (M p q)) H') (λH=>Rows H tq rs m.toNat M) ⟨rfl,rfl,rfl,by decide +kernel,by decide +kernel⟩ (λ_ _ _ us hl=>by obtain⟨u1,u2,rfl⟩:=iK hl;rfl) (λvs H Q h=>by obtain⟨p,q,rfl,_⟩:=h;rfl) (λA outer s H vs Q hrL hpre hI hR=>by
   obtain⟨p,q,rfl,hp,hq,hQ⟩:=hR;have hlk:=hpre.2.2.look;have hI':Rows (aV (cellsOf [⟨Gp "table",c,o,V.ref tq⟩]) H) tq rs m.toNat M:=⟨eh hlk hI.1 (λf z=>by cases z),λi r hi=>eh hlk (hI.2 i r hi) (λf z=>by cases z)⟩;refine⟨_,(ah (aF K) (ah (aF K) (pv 2) (pv 0) (λ_ _=>rfl)) (pv 1) (λ_ _=>rfl)),?_⟩;have hb:=zt hlk;generalize aV (cellsOf [⟨Gp "table",c,o,V.ref tq⟩]) H=HU at hI' hb ⊢;have hp2:p<rs.length:=by omega
   have gp:rs[p]?=some rs[p]:=FI hp2;have rp:=hI'.2 p _ gp;generalize rs[p]=ap at gp rp;show iF _ _ _ [some (.int (p:Nat)),some (.int (q:Nat)),some (.ref tq)] _ _;walk_at"";refine aE (ag.of hI'.1) (v:=.ref ap) (fE (by rw[FJ,gp];rfl)) ?_;walk_at"";refine aE (ag.of rp) (dw (by omega) (by omega)) ?_;rw[FV];exact λ_=>hQ _ hb)
  refine⟨vh,m,ws,fl,_,M,rfl,hv3,ok,hF,⟨⟨ex _ _ hf,ex _ _ hc',hcaps⟩,hrows3⟩,λH H' e h=>⟨h.1.ext e,h.2.ext e⟩,λl ps H4 e4 hl hl4 hps=>?_⟩;obtain⟨a1,a2,a3,a4⟩:=held hn3 e4;exact⟨a1,q l _ ((e02.et.trans e3).trans a2.et) (t3.ext a2) ⟨ps,M,a4 _ _ hl4 (λf z=>by cases z),bY (λa x h=>a4 _ _ h (λf z=>by cases z)) hps,km⟩⟩
def bj(ws:List Way)(n:Nat)(i j:Nat):Prop:=∃u∈ws,u.deed = "up"/\u.room.toNat=i/\Kpt ws n u.other.toNat j
def oG{cs:List (Addr×Obj)}{H H':Hp}(hc:∀b o,cs.lookup b=some o->H b=some (cV b o))(e:Ext (aV cs H) H'):Ext H (bJ cs H'):=λb x hb=>by
 cases q:cs.lookup b with
 | none=>rw[cQ q];exact e b x (by rw[cq q];exact hb)
 | some o=>rw[dI q,←hc b o q];exact hb
def lD(us:List Way)(M:Nat->Nat->Bool)(p q:Nat):Bool:=((us.filter λu=>decide (u.room=(p:Int))).map λu=>M u.other.toNat q).any id
def kQ(K:FD):Sp:=λvs H Q E=>∃vh,vs=[vh]/\((cY H vh/\Ref K H E)\/∃m ws,bh H vh m ws/\HOuse m ws/\dC K/\Tbs K H/\∀l H',Et H H'->Tbs K H'->dU H' l m.toNat (bj ws m.toNat)->Q (.ref l) H')
abbrev qB:Stmt:=stq 52
def tX:FnScope ["house","table","ups"] ["house"] (aA qB):=⟨rfl,rfl,rfl,by decide +kernel,rfl,by decide +kernel,by decide +kernel⟩
def yI{P:Program}{w:World}{K:FD}{mg:Str->Option Value}{base:Heap}(D:Dfn K mg "risen" qB ["house"])(T:Blt mg){c9 T9:Addr}(B:Tab K mg base "risen" c9 T9)(C_told_pairs:Cal P w K mg base "told_pairs" 2 ["house","choice"] (ki P w K mg base))(C_ways_of_deed:Cal P w K mg base "ways_of_deed" 1 ["house","deed"] (jh K))(C_kept_table:Cal P w K mg base "kept_table" 3 ["house"] (lR K))(CX_refuse_no_house:CalX P w K mg base "refuse_no_house" 6 ["thing"] (gv K)):CalX P w K mg base "risen" 7 ["house"] (kQ K):=by
 have nd:=(tX).nd;refine D.okLX B tX (λvs H Q E h=>?_) (λf A outer s H vs Q E hr h=>?_)
 ·obtain⟨vh,rfl,_⟩:=h;rfl
 ·obtain⟨vh,rfl,h⟩:=h;refine⟨_,(ai (aZ (iN CX_refuse_no_house hr (aa (pv 0) ae)))
    (ai (aM (i:=1) nd rfl (Or.inr rfl) (aD C_kept_table hr (aa (pv 0) ae)))
    (ai (aM (i:=2) nd rfl (Or.inr rfl) (aD C_ways_of_deed hr (aa (pv 0) (aa az ae))))
    (aj (jx (aG (ky [2,1] C_told_pairs hr (aa (pv 0) (aa (kx rfl rfl B.hd B.blt B.gl (by decide +kernel) rfl rfl rfl) ae))))))))),?_⟩
  walk_at"";rcases h with⟨hno,href⟩|⟨m,ws,hv,ok,dis,htb,q⟩
  ·exact refuses hno href
  have m1:=ok.m1;have m12:=ok.m12;have few:=ok.few;refine accepts hv ok λH1 e1=>?_;walk_at"";refine⟨vh,m,ws,rfl,hv.ext e1,ok,λtq rs M H1b kt km=>?_⟩;walk_at"";refine⟨vh,m,ws,_,rfl,hv.ext (e1.trans kt.ext),ok,λlu cu us H2 e2 hlu hlu2 hau hus=>?_⟩;have e02:=(e1.trans kt.ext).trans e2;have hrows:=kt.rows.ext e2;have hrl:=kt.len;have hcu:=hau.1;have hul:us.length<=100:=by rw[hus];exact Gh (List.length_filter_le _ _) few
  have hin:∀u∈us,u∈ws/\u.deed=Gp "up":=λu hu=>by rw[hus]at hu;obtain⟨h1,h2⟩:=List.mem_filter.mp hu;exact⟨h1,of_decide_eq_true h2⟩
  walk_at"";show iS _ [2,1] _ (["house","table","ups"]:List Str) _ _ _ _;generalize PySem.Env.cells _=cells0;refine jS ?_;walk_at"";refine lj ?_;refine kF (x:="risen") (htb.ext e02).risen B.tin λfl c' cl H3 hcl e3 ht3 ot hf hc'=>?_;have t3:Tbs K H3:=⟨ot "fallen" _ _ _ (λc2 T2 e2=>dis "risen" (by simp) "fallen" (by simp) (by decide +kernel) _ _ _ _ B.tin e2) (htb.ext e02).fallen,ot "kept" _ _ _ (λc2 T2 e2=>dis "risen" (by simp) "kept" (by simp) (by decide +kernel) _ _ _ _ B.tin e2) (htb.ext e02).kept,ot "low_levels" _ _ _ (λc2 T2 e2=>dis "risen" (by simp) "low_levels" (by simp) (by decide +kernel) _ _ _ _ B.tin e2) (htb.ext e02).low,ht3⟩;walk_at"";refine⟨λj hj=>?_,λcp hlen hcp=>?_⟩
  ·rcases FX.mp hj with rfl|hj
   ·exact⟨_,rfl⟩
   ·rw[FT.mp hj];exact⟨_,rfl⟩
  obtain⟨⟨n,c,o,v⟩,⟨n',d,o',v'⟩,rfl⟩:=iK hlen;obtain⟨hN,hcc,hσ,hnone,u,hdat,hrel⟩:=hcp 0 2 _ rfl rfl;obtain⟨hN2,hcc2,hσ2,hnone2,u2,hdat2,hrel2⟩:=hcp 1 1 _ rfl rfl;clear hcp hlen;dsimp only at hN hcc hσ hnone hdat hrel hN2 hcc2 hσ2 hnone2 hdat2 hrel2;have hN':(Gp "ups")=n:=Gq hN;have hσ':(V.ref lu)=v:=Gq (Gq hσ);have hN2':(Gp "table")=n':=Gq hN2;have hσ2':(V.ref tq)=v':=Gq (Gq hσ2);clear hN hσ hN2 hσ2;subst hN';subst hσ';subst hN2';subst hσ2';obtain⟨c2,hc2⟩:=hcl.has (Gp "ups") rfl;obtain⟨d2,hd2⟩:=hcl.has (Gp "table") rfl;have hc3:=(hcl.fr _ _ hc2).2;have hd3:=(hcl.fr _ _ hd2).2;rw[hcc]at hc3;rw[hcc2]at hd3;cases hc3;cases hd3;have ncd:c≠d:=λz=>by have:=hcl.inj _ _ _ hc2 (z ▸ hd2);exact absurd this (by decide +kernel)
  have hn3:∀b o9,(cellsOf [⟨Gp "ups",c,o,V.ref lu⟩,⟨Gp "table",d,o',V.ref tq⟩]).lookup b=some o9->H3 b=none:=λb o9 hb=>by
   obtain⟨e,he,rfl,rfl⟩:=f9 hb;rcases FX.mp he with rfl|he
   ·exact hnone
   ·rw[FT.mp he];exact hnone2
  have ex:=i6 hn3;have hrows3:=(hrows.et e3).ext ex;have hlu3:=ex _ _ (e3 _ _ hlu2 (λps z=>by cases z));have hau3:=(hau.et e3).ext ex;have hv3:=((hv.ext e02).et e3).ext ex;have hcaps:Caps (bJ (cellsOf [⟨Gp "ups",c,o,V.ref lu⟩,⟨Gp "table",d,o',V.ref tq⟩]) H3) cl [⟨Gp "ups",c,o,V.ref lu⟩,⟨Gp "table",d,o',V.ref tq⟩]:=by
   refine⟨λe he=>?_,λx g hx=>?_⟩
   ·rcases FX.mp he with rfl|he
    ·exact⟨hc2,dI (by simp[cellsOf]),u,hdat,hrel⟩
    ·rw[FT.mp he];refine⟨hd2,dI ?_,u2,hdat2,hrel2⟩;show List.lookup d ((c,o)::[(d,o')])=some o';rw[Gy,show (d == c)=false from beq_eq_false_iff_ne.mpr (Ne.symm ncd),Gy,beq_self_eq_true]
   ·have hm:=gI (hcl.fr x g hx).1;simp at hm;rcases hm with rfl|rfl
    ·first|(rw[hc2]at hx;cases hx;exact⟨_,FO,rfl,rfl⟩)|(rw[hd2]at hx;cases hx;exact⟨_,FK _ (FT.mpr rfl),rfl,rfl⟩)
    ·first|(rw[hc2]at hx;cases hx;exact⟨_,FO,rfl,rfl⟩)|(rw[hd2]at hx;cases hx;exact⟨_,FK _ (FT.mpr rfl),rfl,rfl⟩)
  have hF:=lH (P:=P) (w:=w) (K:=K) (mg:=mg) (base:=base) (k:=0) hf hcl (["p","q"]:List Str) [⟨Gp "ups",c,o,V.ref lu⟩,⟨Gp "table",d,o',V.ref tq⟩] (λvs H Q=>∃p q:Nat,vs=[.int (p:Nat),.int (q:Nat)]/\(p:Int)<m/\(q:Int)<m/\∀H',Ext H H'->Q (.bl (lD us M p q)) H') (λH=>Rows H tq rs m.toNat M/\H lu=some (.lst (List.map V.ref cu))/\aJ H cu us) ⟨rfl,rfl,rfl,by decide +kernel,by decide +kernel⟩ (λ_ _ _ us hl=>by obtain⟨u1,u2,rfl⟩:=iK hl;rfl) (λvs H Q h=>by obtain⟨p,q,rfl,_⟩:=h;rfl) (λA outer s H vs Q hrL hpre hI hR=>by
   obtain⟨p,q,rfl,hp,hq,hQ⟩:=hR;have hlk:=hpre.2.2.look;obtain⟨hI1,hI2,hI3⟩:=hI;have hI1':Rows (aV (cellsOf [⟨Gp "ups",c,o,V.ref lu⟩,⟨Gp "table",d,o',V.ref tq⟩]) H) tq rs m.toNat M:=⟨eh hlk hI1.1 (λf z=>by cases z),λi r hi=>eh hlk (hI1.2 i r hi) (λf z=>by cases z)⟩;have hI2':=eh hlk hI2 (λf z=>by cases z);have hI3':aJ (aV (cellsOf [⟨Gp "ups",c,o,V.ref lu⟩,⟨Gp "table",d,o',V.ref tq⟩]) H) cu us:=⟨hI3.1,λj b w e1 e2=>eh hlk (hI3.2 j b w e1 e2) (λf z=>by cases z)⟩;refine⟨_,(bq (vP K rfl) rfl T.any_ PyProof.Rows.boot_any (aa (dE ["way"] [3,1,0] (cD K (pv 2)) (λ_=>(aS (i:=0) (show(["way","table","q","p"]:List Str).Nodup from by decide +kernel) rfl (Or.inl rfl) (Or.inr rfl))) (λ_=>(fo (aT bX (ah (aH K) (pv 0) af (λ_ _=>rfl)) (pv 3) (aP _)))) (λ_=>(ah (aF K) (ah (aF K) (pv 1) (ah (aH K) (pv 0) af (λ_ _=>rfl)) (λ_ _=>rfl)) (pv 2) (λ_ _=>rfl)))) ae)),?_⟩;have hb:∀H',Ext (aV (cellsOf [⟨Gp "ups",c,o,V.ref lu⟩,⟨Gp "table",d,o',V.ref tq⟩]) H) H'->Ext H (bJ (cellsOf [⟨Gp "ups",c,o,V.ref lu⟩,⟨Gp "table",d,o',V.ref tq⟩]) H'):=λH' e=>oG hlk e;generalize aV (cellsOf [⟨Gp "ups",c,o,V.ref lu⟩,⟨Gp "table",d,o',V.ref tq⟩]) H=HU at hI1' hI2' hI3' hb ⊢;show jN _ _ [some (.int (p:Nat)),some (.int (q:Nat)),some (.ref lu),some (.ref tq)] _ _;walk_at"";refine cG (ag.of hI2') ?_;refine ic (xs:=List.map V.ref cu) (λi ys H'=>H'=HU/\ys=(((us.take i).filter λu=>decide (u.room=(p:Int))).map λu=>M u.other.toNat q).map V.bl) (bI (by rw[FH];omega)) ⟨rfl,rfl⟩ (λi ys H' _ h=>⟨by rw[h.1];exact ag.of hI2',by rw[h.2,FH,FH];exact Gh (List.length_filter_le _ _) (by rw[Gz];omega)⟩) ?_ ?_
   ·rintro i v ys H4 hx ⟨rfl,rfl⟩;rw[FJ]at hx;obtain⟨b,hb',rfl⟩:=FU.mp hx;have hi:i<us.length:=by rw[←hcu];exact(FQ.mp hb').1
    have gu:us[i]?=some us[i]:=FI hi;have hb0:=hI3'.2 i b _ hb' gu;generalize us[i]=uu at gu hb0;have oku:=ok.ok uu (hin uu (FR gu)).1;have v0:=oku.r0;have v1:=oku.r1;have v2:=oku.o0;have v3:=oku.o1;have x2:uu.other.toNat<rs.length:=by omega
    have r2:rs[uu.other.toNat]?=some rs[uu.other.toNat]:=FI x2;have w2:=hI1'.2 _ _ r2;generalize rs[uu.other.toNat]=a2 at r2 w2;have at2:bF (rs.map V.ref) uu.other=some (.ref a2):=fN v2 (by rw[FJ,r2];rfl);walk_at"";refine aI (ao.of hb0) (v:=.int uu.room) rfl ?_;walk_at"";cases hc:decide (uu.room=(p:Int))with
    | true=>
     refine ax ?_;walk_at"";refine aI (ao.of hb0) (v:=.int uu.other) rfl ?_;walk_at"";refine aE (ag.of hI1'.1) at2 ?_;walk_at"";refine aE (ag.of w2) (dw (by omega) (by omega)) ?_;rw[FV];refine⟨rfl,?_⟩;rw[List.take_add_one,gu,List.filter_append,FZ,FZ];congr 1;show[V.bl _]=List.map V.bl (List.map _ (List.filter _ [uu]));rw[List.filter_cons,GH hc];rfl
    | false=>
     refine aq ⟨rfl,?_⟩;have hno:List.filter (λu:Way=>decide (u.room=(p:Int))) [uu]=[]:=by rw[List.filter_cons,GG (by rw[hc];exact FY)];rfl
     rw[List.take_add_one,gu,List.filter_append];show _=List.map V.bl (List.map _ (_++List.filter _ [uu]));rw[hno,List.append_nil]
   ·rintro ys H4 p9 ⟨hH,rfl⟩ hp9;subst hH;rw[FH,hcu,Gf];have e9:=bS (o:=.lst (((us.filter λu=>decide (u.room=(p:Int))).map λu=>M u.other.toNat q).map V.bl)) hp9;walk_at"";refine⟨p9,_,rfl,ag.of aN,?_⟩;exact λ_=>hQ _ (hb _ e9))
  refine⟨vh,m,ws,fl,_,lD us M,rfl,hv3,ok,hF,⟨⟨ex _ _ hf,ex _ _ hc',hcaps⟩,hrows3,hlu3,hau3⟩,λH H' e h=>⟨h.1.ext e,h.2.1.ext e,e _ _ h.2.2.1,h.2.2.2.ext e⟩,λl ps H4 e4 hl hl4 hps=>?_⟩;obtain⟨a1,a2,a3,a4⟩:=held hn3 e4;refine⟨a1,q l _ ((e02.et.trans e3).trans a2.et) (t3.ext a2) ⟨ps,lD us M,a4 _ _ hl4 (λf z=>by cases z),bY (λa x h=>a4 _ _ h (λf z=>by cases z)) hps,λi j hi hj=>?_⟩⟩;unfold lD bj;rw[List.any_map,Gk];constructor
  ·rintro⟨x,hx,hm⟩;obtain⟨x1,x2⟩:=List.mem_filter.mp hx;have x2:=of_decide_eq_true x2;obtain⟨y1,y2⟩:=hin x x1;exact⟨x,y1,y2,by omega,(km _ _ (gh ok.ok y1).2 hj).mp hm⟩
  ·rintro⟨x,h1,h2,h3,h4⟩;have r0:=(ok.ok x h1).r0;refine⟨x,List.mem_filter.mpr ⟨by rw[hus];exact List.mem_filter.mpr ⟨h1,GF h2⟩,GF (by omega)⟩,?_⟩;exact(km _ _ (gh ok.ok h1).2 hj).mpr h4
def yl(ws:List Way)(n:Nat)(i j:Nat):Prop:=∃u∈ws,u.deed = "down"/\u.other.toNat=j/\Kpt ws n i u.room.toNat
def kW(us:List Way)(M:Nat->Nat->Bool)(p q:Nat):Bool:=((us.filter λu=>decide (u.other=(q:Int))).map λu=>M p u.room.toNat).any id
def nB(K:FD):Sp:=λvs H Q E=>∃vh,vs=[vh]/\((cY H vh/\Ref K H E)\/∃m ws,bh H vh m ws/\HOuse m ws/\dC K/\Tbs K H/\∀l H',Et H H'->Tbs K H'->(∀o,H l=some o->∃ps,o=.tbl ps)->dU H' l m.toNat (yl ws m.toNat)->Q (.ref l) H')
abbrev mP:Stmt:=stq 53
def sL:FnScope ["house","table","downs"] ["house"] (aA mP):=⟨rfl,rfl,rfl,by decide +kernel,rfl,by decide +kernel,by decide +kernel⟩
def Cq{P:Program}{w:World}{K:FD}{mg:Str->Option Value}{base:Heap}(D:Dfn K mg "fallen" mP ["house"])(T:Blt mg){c9 T9:Addr}(B:Tab K mg base "fallen" c9 T9)(C_told_pairs:Cal P w K mg base "told_pairs" 2 ["house","choice"] (ki P w K mg base))(C_ways_of_deed:Cal P w K mg base "ways_of_deed" 1 ["house","deed"] (jh K))(C_kept_table:Cal P w K mg base "kept_table" 3 ["house"] (lR K))(CX_refuse_no_house:CalX P w K mg base "refuse_no_house" 6 ["thing"] (gv K)):CalX P w K mg base "fallen" 7 ["house"] (nB K):=by
 have nd:=(sL).nd;refine D.okLX B sL (λvs H Q E h=>?_) (λf A outer s H vs Q E hr h=>?_)
 ·obtain⟨vh,rfl,_⟩:=h;rfl
 ·obtain⟨vh,rfl,h⟩:=h;refine⟨_,(ai (aZ (iN CX_refuse_no_house hr (aa (pv 0) ae)))
    (ai (aM (i:=1) nd rfl (Or.inr rfl) (aD C_kept_table hr (aa (pv 0) ae)))
    (ai (aM (i:=2) nd rfl (Or.inr rfl) (aD C_ways_of_deed hr (aa (pv 0) (aa az ae))))
    (aj (jx (aG (ky [2,1] C_told_pairs hr (aa (pv 0) (aa (kx rfl rfl B.hd B.blt B.gl (by decide +kernel) rfl rfl rfl) ae))))))))),?_⟩
  walk_at"";rcases h with⟨hno,href⟩|⟨m,ws,hv,ok,dis,htb,q⟩
  ·exact refuses hno href
  have m1:=ok.m1;have m12:=ok.m12;have few:=ok.few;refine accepts hv ok λH1 e1=>?_;walk_at"";refine⟨vh,m,ws,rfl,hv.ext e1,ok,λtq rs M H1b kt km=>?_⟩;walk_at"";refine⟨vh,m,ws,_,rfl,hv.ext (e1.trans kt.ext),ok,λlu cu us H2 e2 hlu hlu2 hau hus=>?_⟩;have e02:=(e1.trans kt.ext).trans e2;have hrows:=kt.rows.ext e2;have hrl:=kt.len;have hcu:=hau.1;have hul:us.length<=100:=by rw[hus];exact Gh (List.length_filter_le _ _) few
  have hin:∀u∈us,u∈ws/\u.deed=Gp "down":=λu hu=>by rw[hus]at hu;obtain⟨h1,h2⟩:=List.mem_filter.mp hu;exact⟨h1,of_decide_eq_true h2⟩
  walk_at"";show iS _ [2,1] _ (["house","table","downs"]:List Str) _ _ _ _;generalize PySem.Env.cells _=cells0;refine jS ?_;walk_at"";refine lj ?_;refine kF (x:="fallen") (htb.ext e02).fallen B.tin λfl c' cl H3 hcl e3 ht3 ot hf hc'=>?_;have t3:Tbs K H3:=⟨ht3,ot "kept" _ _ _ (λc2 T2 e2=>dis "fallen" (by simp) "kept" (by simp) (by decide +kernel) _ _ _ _ B.tin e2) (htb.ext e02).kept,ot "low_levels" _ _ _ (λc2 T2 e2=>dis "fallen" (by simp) "low_levels" (by simp) (by decide +kernel) _ _ _ _ B.tin e2) (htb.ext e02).low,ot "risen" _ _ _ (λc2 T2 e2=>dis "fallen" (by simp) "risen" (by simp) (by decide +kernel) _ _ _ _ B.tin e2) (htb.ext e02).risen⟩;walk_at"";refine⟨λj hj=>?_,λcp hlen hcp=>?_⟩
  ·rcases FX.mp hj with rfl|hj
   ·exact⟨_,rfl⟩
   ·rw[FT.mp hj];exact⟨_,rfl⟩
  obtain⟨⟨n,c,o,v⟩,⟨n',d,o',v'⟩,rfl⟩:=iK hlen;obtain⟨hN,hcc,hσ,hnone,u,hdat,hrel⟩:=hcp 0 2 _ rfl rfl;obtain⟨hN2,hcc2,hσ2,hnone2,u2,hdat2,hrel2⟩:=hcp 1 1 _ rfl rfl;clear hcp hlen;dsimp only at hN hcc hσ hnone hdat hrel hN2 hcc2 hσ2 hnone2 hdat2 hrel2;have hN':(Gp "downs")=n:=Gq hN;have hσ':(V.ref lu)=v:=Gq (Gq hσ);have hN2':(Gp "table")=n':=Gq hN2;have hσ2':(V.ref tq)=v':=Gq (Gq hσ2);clear hN hσ hN2 hσ2;subst hN';subst hσ';subst hN2';subst hσ2';obtain⟨c2,hc2⟩:=hcl.has (Gp "downs") rfl;obtain⟨d2,hd2⟩:=hcl.has (Gp "table") rfl;have hc3:=(hcl.fr _ _ hc2).2;have hd3:=(hcl.fr _ _ hd2).2;rw[hcc]at hc3;rw[hcc2]at hd3;cases hc3;cases hd3;have ncd:c≠d:=λz=>by have:=hcl.inj _ _ _ hc2 (z ▸ hd2);exact absurd this (by decide +kernel)
  have hn3:∀b o9,(cellsOf [⟨Gp "downs",c,o,V.ref lu⟩,⟨Gp "table",d,o',V.ref tq⟩]).lookup b=some o9->H3 b=none:=λb o9 hb=>by
   obtain⟨e,he,rfl,rfl⟩:=f9 hb;rcases FX.mp he with rfl|he
   ·exact hnone
   ·rw[FT.mp he];exact hnone2
  have ex:=i6 hn3;have hrows3:=(hrows.et e3).ext ex;have hlu3:=ex _ _ (e3 _ _ hlu2 (λps z=>by cases z));have hau3:=(hau.et e3).ext ex;have hv3:=((hv.ext e02).et e3).ext ex;have hcaps:Caps (bJ (cellsOf [⟨Gp "downs",c,o,V.ref lu⟩,⟨Gp "table",d,o',V.ref tq⟩]) H3) cl [⟨Gp "downs",c,o,V.ref lu⟩,⟨Gp "table",d,o',V.ref tq⟩]:=by
   refine⟨λe he=>?_,λx g hx=>?_⟩
   ·rcases FX.mp he with rfl|he
    ·exact⟨hc2,dI (by simp[cellsOf]),u,hdat,hrel⟩
    ·rw[FT.mp he];refine⟨hd2,dI ?_,u2,hdat2,hrel2⟩;show List.lookup d ((c,o)::[(d,o')])=some o';rw[Gy,show (d == c)=false from beq_eq_false_iff_ne.mpr (Ne.symm ncd),Gy,beq_self_eq_true]
   ·have hm:=gI (hcl.fr x g hx).1;simp at hm;rcases hm with rfl|rfl
    ·first|(rw[hc2]at hx;cases hx;exact⟨_,FO,rfl,rfl⟩)|(rw[hd2]at hx;cases hx;exact⟨_,FK _ (FT.mpr rfl),rfl,rfl⟩)
    ·first|(rw[hc2]at hx;cases hx;exact⟨_,FO,rfl,rfl⟩)|(rw[hd2]at hx;cases hx;exact⟨_,FK _ (FT.mpr rfl),rfl,rfl⟩)
  have hF:=lH (P:=P) (w:=w) (K:=K) (mg:=mg) (base:=base) (k:=0) hf hcl (["p","q"]:List Str) [⟨Gp "downs",c,o,V.ref lu⟩,⟨Gp "table",d,o',V.ref tq⟩] (λvs H Q=>∃p q:Nat,vs=[.int (p:Nat),.int (q:Nat)]/\(p:Int)<m/\(q:Int)<m/\∀H',Ext H H'->Q (.bl (kW us M p q)) H') (λH=>Rows H tq rs m.toNat M/\H lu=some (.lst (List.map V.ref cu))/\aJ H cu us) ⟨rfl,rfl,rfl,by decide +kernel,by decide +kernel⟩ (λ_ _ _ us hl=>by obtain⟨u1,u2,rfl⟩:=iK hl;rfl) (λvs H Q h=>by obtain⟨p,q,rfl,_⟩:=h;rfl) (λA outer s H vs Q hrL hpre hI hR=>by
   obtain⟨p,q,rfl,hp,hq,hQ⟩:=hR;have hlk:=hpre.2.2.look;obtain⟨hI1,hI2,hI3⟩:=hI;have hI1':Rows (aV (cellsOf [⟨Gp "downs",c,o,V.ref lu⟩,⟨Gp "table",d,o',V.ref tq⟩]) H) tq rs m.toNat M:=⟨eh hlk hI1.1 (λf z=>by cases z),λi r hi=>eh hlk (hI1.2 i r hi) (λf z=>by cases z)⟩;have hI2':=eh hlk hI2 (λf z=>by cases z);have hI3':aJ (aV (cellsOf [⟨Gp "downs",c,o,V.ref lu⟩,⟨Gp "table",d,o',V.ref tq⟩]) H) cu us:=⟨hI3.1,λj b w e1 e2=>eh hlk (hI3.2 j b w e1 e2) (λf z=>by cases z)⟩;refine⟨_,(bq (vP K rfl) rfl T.any_ PyProof.Rows.boot_any (aa (dE ["way"] [3,0,1] (cD K (pv 2)) (λ_=>(aS (i:=0) (show(["way","table","p","q"]:List Str).Nodup from by decide +kernel) rfl (Or.inl rfl) (Or.inr rfl))) (λ_=>(fo (aT bX (ah (aH K) (pv 0) af (λ_ _=>rfl)) (pv 3) (aP _)))) (λ_=>(ah (aF K) (ah (aF K) (pv 1) (pv 2) (λ_ _=>rfl)) (ah (aH K) (pv 0) af (λ_ _=>rfl)) (λ_ _=>rfl)))) ae)),?_⟩;have hb:∀H',Ext (aV (cellsOf [⟨Gp "downs",c,o,V.ref lu⟩,⟨Gp "table",d,o',V.ref tq⟩]) H) H'->Ext H (bJ (cellsOf [⟨Gp "downs",c,o,V.ref lu⟩,⟨Gp "table",d,o',V.ref tq⟩]) H'):=λH' e=>oG hlk e;generalize aV (cellsOf [⟨Gp "downs",c,o,V.ref lu⟩,⟨Gp "table",d,o',V.ref tq⟩]) H=HU at hI1' hI2' hI3' hb ⊢;show jN _ _ [some (.int (p:Nat)),some (.int (q:Nat)),some (.ref lu),some (.ref tq)] _ _;walk_at"";refine cG (ag.of hI2') ?_;refine ic (xs:=List.map V.ref cu) (λi ys H'=>H'=HU/\ys=(((us.take i).filter λu=>decide (u.other=(q:Int))).map λu=>M p u.room.toNat).map V.bl) (bI (by rw[FH];omega)) ⟨rfl,rfl⟩ (λi ys H' _ h=>⟨by rw[h.1];exact ag.of hI2',by rw[h.2,FH,FH];exact Gh (List.length_filter_le _ _) (by rw[Gz];omega)⟩) ?_ ?_
   ·rintro i v ys H4 hx ⟨rfl,rfl⟩;rw[FJ]at hx;obtain⟨b,hb',rfl⟩:=FU.mp hx;have hi:i<us.length:=by rw[←hcu];exact(FQ.mp hb').1
    have gu:us[i]?=some us[i]:=FI hi;have hb0:=hI3'.2 i b _ hb' gu;generalize us[i]=uu at gu hb0;have oku:=ok.ok uu (hin uu (FR gu)).1;have v0:=oku.r0;have v1:=oku.r1;have v2:=oku.o0;have v3:=oku.o1;have x2:p<rs.length:=by omega
    have r2:rs[p]?=some rs[p]:=FI x2;have w2:=hI1'.2 _ _ r2;generalize rs[p]=a2 at r2 w2;have at2:bF (rs.map V.ref) ((p:Nat):Int)=some (.ref a2):=fE (by rw[FJ,r2];rfl);walk_at"";refine aI (ao.of hb0) (v:=.int uu.other) rfl ?_;walk_at"";cases hc:decide (uu.other=(q:Int))with
    | true=>
     refine ax ?_;walk_at"";refine aE (ag.of hI1'.1) at2 ?_;walk_at"";refine aI (ao.of hb0) (v:=.int uu.room) rfl ?_;walk_at"";refine aE (ag.of w2) (dw (by omega) (by omega)) ?_;refine⟨rfl,?_⟩;rw[List.take_add_one,gu,List.filter_append,FZ,FZ];congr 1;show[V.bl _]=List.map V.bl (List.map _ (List.filter _ [uu]));rw[List.filter_cons,GH hc];rfl
    | false=>
     refine aq ⟨rfl,?_⟩;have hno:List.filter (λu:Way=>decide (u.other=(q:Int))) [uu]=[]:=by rw[List.filter_cons,GG (by rw[hc];exact FY)];rfl
     rw[List.take_add_one,gu,List.filter_append];show _=List.map V.bl (List.map _ (_++List.filter _ [uu]));rw[hno,List.append_nil]
   ·rintro ys H4 p9 ⟨hH,rfl⟩ hp9;subst hH;rw[FH,hcu,Gf];have e9:=bS (o:=.lst (((us.filter λu=>decide (u.other=(q:Int))).map λu=>M p u.room.toNat).map V.bl)) hp9;walk_at"";refine⟨p9,_,rfl,ag.of aN,?_⟩;exact λ_=>hQ _ (hb _ e9))
  refine⟨vh,m,ws,fl,_,kW us M,rfl,hv3,ok,hF,⟨⟨ex _ _ hf,ex _ _ hc',hcaps⟩,hrows3,hlu3,hau3⟩,λH H' e h=>⟨h.1.ext e,h.2.1.ext e,e _ _ h.2.2.1,h.2.2.2.ext e⟩,λl ps H4 e4 hl hl4 hps=>?_⟩;obtain⟨a1,a2,a3,a4⟩:=held hn3 e4;refine⟨a1,q l _ ((e02.et.trans e3).trans a2.et) (t3.ext a2) (λo ho=>Classical.byContradiction λz=>by have:=ex _ _ ((e02.et.trans e3) l o ho (λps w=>z ⟨ps,w⟩));rw[hl]at this;cases this) ⟨ps,kW us M,a4 _ _ hl4 (λf z=>by cases z),bY (λa x h=>a4 _ _ h (λf z=>by cases z)) hps,λi j hi hj=>?_⟩⟩
  unfold kW yl;rw[List.any_map,Gk];constructor
  ·rintro⟨x,hx,hm⟩;obtain⟨x1,x2⟩:=List.mem_filter.mp hx;have x2:=of_decide_eq_true x2;obtain⟨y1,y2⟩:=hin x x1;exact⟨x,y1,y2,by omega,(km _ _ hi (gh ok.ok y1).1).mp hm⟩
  ·rintro⟨x,h1,h2,h3,h4⟩;have o0:=(ok.ok x h1).o0;refine⟨x,List.mem_filter.mpr ⟨by rw[hus];exact List.mem_filter.mpr ⟨h1,GF h2⟩,GF (by omega)⟩,?_⟩;exact(km _ _ hi (gh ok.ok h1).1).mpr h4
def cX(us:List Way)(x:Bfs.Pl):List Bfs.Pl:=(us.filter λw=>cW w x.1 x.2).map λw=>(w.other,x.2+rz w.deed)
def tY(K:FD):Sp:=λvs H Q _=>∃l bs us p x,vs=[.ref l,.ref p]/\H l=some (.lst (List.map V.ref bs))/\aJ H bs us/\(∀w∈us,cI w.deed)/\us.length<=100/\aB H p x/\∀l' ps H',Ext H H'->H l'=none->H' l'=some (.lst (List.map V.ref ps))->Paired (aB H') ps (cX us x)->Q (.ref l') H'
abbrev mn:Stmt:=stq 43
def wR:FnScope ["ways","place"] ["ways","place"] (aA mn):=⟨rfl,rfl,rfl,by decide +kernel,rfl,by decide +kernel,by decide +kernel⟩
def Ba{P:Program}{w:World}{K:FD}{mg:Str->Option Value}{base:Heap}(D:Dfn K mg "led_to_from" mn ["ways","place"])(T:Blt mg)(C_is_open:Cal P w K mg base "is_open" 1 ["way","place"] (tD K))(C_led_to:Cal P w K mg base "led_to" 2 ["way","place"] (tK K)):Cal P w K mg base "led_to_from" 3 ["ways","place"] (tY K):=by
 have nd:=(wR).nd;refine D.ok wR (λvs H Q E h=>?_) (λX hX H vs Q E h=>?_)
 ·obtain⟨l,bs,us,p,x,rfl,_⟩:=h;rfl
 ·obtain⟨f,cdv,A,outer,s,H0,E0,rfl,hr⟩:=hX;obtain⟨l,bs,us,p,x,rfl,hl,hal,hdd,hul,hpx,q⟩:=h;have hbl:=hal.1;refine⟨_,(@aj _ _ _ (@aG _ _ _ _ (dE ["way"] [1] (cD K (pv 0)) (λ_=>(aS (i:=0) (show(["way","place"]:List Str).Nodup from by decide +kernel) rfl (Or.inl rfl) (Or.inr rfl))) (λ_=>(fo (bE (aD C_is_open hr (@aa _ _ _ _ _ (pv 0) (@aa _ _ _ _ _ (pv 1) ae rfl) rfl))))) (λ_=>(aD C_led_to hr (@aa _ _ _ _ _ (pv 0) (@aa _ _ _ _ _ (pv 1) ae rfl) rfl)))))),?_⟩;walk_at"";refine cG (ag.of hl) ?_;refine ic (xs:=List.map V.ref bs) (λi ys H'=>Ext H H'/\∃ps,ys=List.map V.ref ps/\Paired (aB H') ps (cX (us.take i) x)) (bI (by rw[FH];omega)) ⟨Ext.rfl' _,[],rfl,.nil⟩ (λi ys H' _ h=>by obtain⟨e,ps,rfl,hps⟩:=h;refine⟨ag.of (e _ _ hl),?_⟩;rw[FH,dz hps];unfold cX;rw[FH];exact Gh (List.length_filter_le _ _) (by rw[Gz];omega)) ?_ ?_
  ·rintro i v ys H1 hx ⟨e1,ps,rfl,hps⟩;rw[FJ]at hx;obtain⟨b,hb,rfl⟩:=FU.mp hx;have hi:i<us.length:=by rw[←hbl];exact(FQ.mp hb).1
   have gu:us[i]?=some us[i]:=FI hi;have hb0:=e1 _ _ (hal.2 i b _ hb gu);generalize us[i]=u at gu hb0;have hpx1:aB H1 p x:=e1 _ _ hpx;walk_at"";refine⟨b,u,p,x,rfl,hb0,hpx1,?_⟩;have step:cX (us.take (i+1)) x=cX (us.take i) x++cX [u] x:=by unfold cX;rw[List.take_add_one,gu,List.filter_append,FZ];rfl
   cases ho:cW u x.1 x.2 with
   | false=>
    refine rd_exb (aq ⟨e1,ps,rfl,?_⟩);rw[step];have:cX [u] x=[]:=by unfold cX;rw[List.filter_cons,GG (by rw[ho];exact FY)];rfl
    rw[this,List.append_nil];exact hps
   | true=>
    refine rd_exb (ax ?_);walk_at"";refine⟨b,u,p,x,rfl,hb0,hdd u (FR gu),hpx1,λt H2 e2 ht _=>?_⟩;refine⟨e1.trans e2,ps++[t],?_,?_⟩
    ·rw[FZ];rfl
    ·rw[step];have:cX [u] x=[(u.other,x.2+rz u.deed)]:=by unfold cX;rw[List.filter_cons,GH ho];rfl
     rw[this];exact jg (bY (λa x h=>e2 _ _ h) hps) ht
  ·rintro ys H1 p9 ⟨e1,ps,rfl,hps⟩ hp9;rw[FH,hbl,Gf]at hps;have e2:=bS (o:=.lst (List.map V.ref ps)) hp9;have h9:H p9=none:=by
    cases z:H p9 with
    | none=>rfl
    | some o=>rw[e1 _ _ z]at hp9;cases hp9
   exact q p9 ps _ (e1.trans e2) h9 aN (bY (λa x h=>e2 _ _ h) hps)
structure WT(H:Hp)(c:Addr)(n:Nat)(ls:List Addr)(ws:List Way):Prop where
 at_:H c=some (.lst (List.map V.ref ls))
 len:ls.length=n
 it:∀(r:Nat) (l:Addr),ls[r]?=some l->∃bs,H l=some (.lst (List.map V.ref bs))/\aJ H bs (ws.filter λw=>decide (w.room=(r:Int)))
def WT.ext{H H':Hp}{c:Addr}{n:Nat}{ls:List Addr}{ws:List Way}(e:Ext H H')(h:WT H c n ls ws):WT H' c n ls ws:=
 ⟨e _ _ h.at_,h.len,λr l hl=>by obtain⟨bs,h1,h2⟩:=h.it r l hl;exact⟨bs,e _ _ h1,h2.ext e⟩⟩
def WT.et{H H':Hp}{c:Addr}{n:Nat}{ls:List Addr}{ws:List Way}(e:Et H H')(h:WT H c n ls ws):WT H' c n ls ws:=
 ⟨e _ _ h.at_ (λps z=>by cases z),h.len,λr l hl=>by obtain⟨bs,h1,h2⟩:=h.it r l hl;exact⟨bs,e _ _ h1 (λps z=>by cases z),h2.et e⟩⟩
def DB{ws:List Way}{i:Nat}{w:Way}(h:ws[i]?=some w)(p:Way->Bool):(ws.take (i+1)).filter p=(ws.take i).filter p++if p w then[w]else[]:=by rw[List.take_add_one,h,List.filter_append];congr 1;show List.filter p [w]=_;rw[List.filter_cons];rfl
def u4(K:FD):Sp:=λvs H Q _=>∃v m ws,vs=[v]/\bh H v m ws/\HOuse m ws/\∀c ls H',Ext H H'->WT H' c m.toNat ls ws->Q (.ref c) H'
abbrev qE:Stmt:=stq 56
def vz:FnScope ["house","ways","way"] ["house"] (aA qE):=⟨rfl,rfl,rfl,by decide +kernel,rfl,by decide +kernel,by decide +kernel⟩
def yO{P:Program}{w:World}{K:FD}{mg:Str->Option Value}{base:Heap}(D:Dfn K mg "ways_by_room" qE ["house"])(T:Blt mg):Cal P w K mg base "ways_by_room" 1 ["house"] (u4 K):=by
 have nd:=(vz).nd;refine D.ok vz (λvs H Q E h=>?_) (λX hX H vs Q E h=>?_)
 ·obtain⟨v,m,ws,rfl,_⟩:=h;rfl
 ·obtain⟨f,cdv,A,outer,s,H0,E0,rfl,hr⟩:=hX;obtain⟨v,m,ws,rfl,hv,ok,q⟩:=h;obtain⟨hp0,hq0,rfl,hh,hw⟩:=id hv;obtain⟨bs,hq,hal⟩:=cS.al hw;have hbl:=hal.1;have few:=ok.few;have m1:=ok.m1;have m12:=ok.m12;refine⟨_,(@ai _ _ _ _ _ (iU (i:=1) ["room"] [] nd rfl (Or.inl rfl) (cB rfl T.range_ (@aa _ _ _ _ _ (@ah _ _ _ _ _ _ _ (aH K) (pv 0) af (λ_ _=>rfl)) ae rfl)) (λ_=>(aS (i:=0) (show(["room"]:List Str).Nodup from by decide +kernel) rfl (Or.inl rfl) (Or.inr rfl))) (λ_=>fX) (λ_=>(@bo _ _ _ _ ae)))
    (@ai _ _ _ _ _ (bV PassesOwn.never rfl (kR K (@ah _ _ _ _ _ _ _ (aH K) (pv 0) af (λ_ _=>rfl))) (aS (i:=2) nd rfl (Or.inl rfl)) (@aj _ _ _ (aZ (bC K FP F6 F7 bL (@ah _ _ _ _ _ _ _ (aF K) (pv 1) (@ah _ _ _ _ _ _ _ (aH K) (pv 2) af (λ_ _=>rfl)) (λ_ _=>rfl)) (@aa _ _ _ _ _ (pv 2) ae rfl)))))
    (@aj _ _ _ (@aG _ _ _ _ (pv 1))))),?_⟩
  walk_at"";refine aI (ao.of hh) (v:=.int m) rfl ?_;walk_at"";refine ck (by omega) ?_;refine fg (λi ys H'=>Ext H H'/\∃ls:List Addr,ys=List.map V.ref ls/\ls.length=i/\ls.Nodup/\∀l∈ls,H' l=some (.lst [])/\H l=none) (bI (by omega)) ⟨Ext.rfl' _,[],rfl,rfl,List.nodup_nil,λl h=>(nomatch h)⟩ (λi ys H' _ h=>by obtain⟨_,ls,rfl,h,_⟩:=h;rw[FH,h];exact F5 _) ?_ ?_
  ·rintro i ys H' hi ⟨e,ls,rfl,hl,hnd,hls⟩;walk_at"";refine ax ?_;walk_at"";refine aw λl H1 e1 hl1 hln=>?_;refine⟨e.trans e1,ls++[l],by rw[FZ];rfl,by rw[F0,hl];rfl,?_,?_⟩
   ·rw[List.nodup_append];refine⟨hnd,by simp,λa ha b hb z=>?_⟩;have hbl:b=l:=by simpa using hb
    subst hbl;subst z;rw[(hls a ha).1]at hln;cases hln
   ·intro a ha;rcases F8.mp ha with z|z
    ·exact⟨e1 _ _ (hls a z).1,(hls a z).2⟩
    ·have hal:a=l:=by simpa using z
     subst hal;refine⟨hl1,?_⟩;cases y:H a with
     | none=>rfl
     | some o=>rw[e _ _ y]at hln;cases hln
  ·rintro ys H1 c ⟨e,ls,rfl,hl,hnd,hls⟩ hc;have eN:Ext H (upd H1 c (.lst (List.map V.ref ls))):=e.trans (bS hc);have hcH:H c=none:=by
    cases y:H c with
    | none=>rfl
    | some o=>rw[e _ _ y]at hc;cases hc
   have ncl:c∉ls:=λz=>by rw[(hls c z).1]at hc;cases hc
   have hcl:∀l∈ls,H l=none:=λl h=>(hls l h).2;have hit:∀(r:Nat) (l:Addr),ls[r]?=some l->∃bs,(upd H1 c (.lst (List.map V.ref ls))) l=some (.lst (List.map V.ref bs))/\aJ (upd H1 c (.lst (List.map V.ref ls))) bs ((ws.take 0).filter λw=>decide (w.room=(r:Int))):=λr l hr=>⟨[],(bS hc) _ _ (hls l (FR hr)).1,aJ.nil _⟩;have hcc:(upd H1 c (.lst (List.map V.ref ls))) c=_:=aN;generalize upd H1 c (.lst (List.map V.ref ls))=H2 at eN hit hcc ⊢;clear hls hc e H1;walk_at"";refine aI (ao.of (eN _ _ hh)) (v:=.ref hq0) rfl ?_;walk_at"";refine lE (ao.of (eN _ _ hq)) ?_;refine yx (xs:=bs.map V.ref) (λi σ H'=>∃k1,σ=[some (.ref hp0),some (.ref c),k1]/\Ext H H'/\H' c=some (.lst (List.map V.ref ls))/\∀(r:Nat) (l:Addr),ls[r]?=some l->∃bs,H' l=some (.lst (List.map V.ref bs))/\aJ H' bs ((ws.take i).filter λw=>decide (w.room=(r:Int)))) ⟨none,rfl,eN,hcc,hit⟩ (λi σ H' _ h=>by obtain⟨_,_,e,_⟩:=h;exact ao.of (e _ _ hq)) ?_ ?_
   ·rintro i u σ H3 hu ⟨k1,rfl,e3,hc3,hit3⟩;rw[FJ]at hu;obtain⟨b,hb,rfl⟩:=FU.mp hu;have hi:i<ws.length:=by rw[←hbl];exact(FQ.mp hb).1
    have hwi:ws[i]?=some ws[i]:=FI hi;have hbw:=e3 _ _ (hal.2 i b _ hb hwi);generalize ws[i]=w0 at hwi hbw;have okw:=ok.ok w0 (FR hwi);have r0:=okw.r0;have r1:=okw.r1;have hlr:w0.room.toNat<ls.length:=by rw[hl];omega
    have hlg:ls[w0.room.toNat]?=some ls[w0.room.toNat]:=FI hlr;generalize ls[w0.room.toNat]=l at hlg;have hlm:=FR hlg;obtain⟨cs,hl3,hcs⟩:=hit3 _ _ hlg;have hcsl:cs.length<=100:=by rw[hcs.1];exact Gh (List.length_filter_le _ _) (by rw[Gz];omega)
    have ncl':c≠l:=λz=>ncl (z ▸ hlm);walk_at"";refine aI (ao.of hbw) (v:=.int w0.room) rfl ?_;walk_at"";refine aE (ag.of hc3) (v:=.ref l) (fN r0 (by rw[FJ,hlg];rfl)) ?_;refine⟨cH (ag.of hl3),?_⟩;walk_at"";refine bT hl3 (by rw[FH];exact Nat.lt_of_le_of_lt hcsl (by decide)) ?_;walk_at"";refine⟨_,rfl,cR e3 (hcl l hlm),by rw[aC ncl'];exact hc3,λr l' hr=>?_⟩;rw[DB hwi];by_cases hll:l'=l
    ·subst hll;have hrr:r=w0.room.toNat:=(List.getElem?_inj (FQ.mp hr).1 hnd).mp (by rw[hr,hlg]);subst hrr;refine⟨cs++[b],?_,?_⟩
     ·rw[aN,FZ];rfl
     ·rw[GH (GF (by omega))];have put:aJ (upd H3 l' (.lst (List.map V.ref cs++[.ref b]))) cs ((ws.take i).filter λw=>decide (w.room=((w0.room.toNat:Nat):Int))):=hcs.put hl3;exact put.snoc (by rw[aC (fj hbw hl3 (λz=>by cases z))];exact hbw)
    ·obtain⟨ds,h1,h2⟩:=hit3 r l' hr;have hrr:¬(w0.room=(r:Int)):=λz=>hll (by
      have:w0.room.toNat=r:=by omega
      rw[this,hr]at hlg;exact Gq hlg)
     rw[GG (by simpa using hrr),List.append_nil];exact⟨ds,by rw[aC hll];exact h1,h2.put hl3⟩
   ·rintro σ H3 ⟨k1,rfl,e3,hc3,hit3⟩;rw[FH,hbl,Gf]at hit3;walk_at"";exact q c ls H3 e3 ⟨hc3,hl,hit3⟩
def LB(ws:List Way)(n:Nat)(top:Int)(x y:Bfs.Pl):Prop:=(∃w∈ws,cW w x.1 x.2=true/\y=(w.other,x.2+rz w.deed)/\y.2<=top)\/(top<=x.2/\∃i j:Nat,Kpt ws n i j/\x.1=(i:Int)/\y=((j:Int),top))
def hZ{w:Way}{r n:Int}(h:cW w r n=true):w.room=r:=by unfold cW at h;rw[Gn]at h;exact of_decide_eq_true h.1
def vw(K:FD):Sp:=λvs H Q _=>∃c kl top p m ws ls x,vs=[.ref c,.ref kl,.int top,.ref p]/\WT H c m.toNat ls ws/\dU H kl m.toNat (Kpt ws m.toNat)/\HOuse m ws/\aB H p x/\0<=x.1/\x.1<m ∧
 ∀l ps ys H',Ext H H'->H l=none->H' l=some (.lst (List.map V.ref ps))->Paired (aB H') ps ys->(∀y,y∈ys↔LB ws m.toNat top x y)->ys.length<=300->Q (.ref l) H'
abbrev mL:Stmt:=stq 58
def vt:FnScope ["ways","keeps","top","here","low"] ["ways","keeps","top","here"] (aA mL):=⟨rfl,rfl,rfl,by decide +kernel,rfl,by decide +kernel,by decide +kernel⟩
def zg{P:Program}{w:World}{K:FD}{mg:Str->Option Value}{base:Heap}(D:Dfn K mg "low_beside" mL ["ways","keeps","top","here"])(T:Blt mg)(C_led_to_from:Cal P w K mg base "led_to_from" 3 ["ways","place"] (tY K)):Cal P w K mg base "low_beside" 4 ["ways","keeps","top","here"] (vw K):=by
 have nd:=(vt).nd;refine D.ok vt (λvs H Q E h=>?_) (λX hX H vs Q E h=>?_)
 ·obtain⟨c,kl,top,p,m,ws,ls,x,rfl,_⟩:=h;rfl
 ·obtain⟨f,cdv,A,outer,s,H0,E0,rfl,hr⟩:=hX;obtain⟨c,kl,top,p,m,ws,ls,x,rfl,wt,prs,ok,hpx,x0,x1,q⟩:=h;have m1:=ok.m1;have m12:=ok.m12;have few:=ok.few;have hlr:x.1.toNat<ls.length:=by rw[wt.len];omega
  have hlg:ls[x.1.toNat]?=some ls[x.1.toNat]:=FI hlr;generalize ls[x.1.toNat]=l0 at hlg;obtain⟨bs,hl0,hal⟩:=wt.it _ _ hlg;have hx1:((x.1.toNat:Nat):Int)=x.1:=by omega
  rw[hx1]at hal;have husl:(ws.filter λw=>decide (w.room=x.1)).length<=100:=Gh (List.length_filter_le _ _) few;obtain⟨kps,g,hkl,hkp,hkg⟩:=prs;have hkpl:=dz hkp;have hkpn:=nA (n:=m.toNat) (g:=g) m.toNat;have hkpm:m.toNat*m.toNat<=12*12:=Nat.mul_le_mul (by omega) (by omega);refine⟨_,(@ai _ _ _ _ _ (iU (i:=4) ["there"] [2] nd rfl (Or.inl rfl) (cD K (aD C_led_to_from hr (@aa _ _ _ _ _ (@ah _ _ _ _ _ _ _ (aF K) (pv 0) (@ah _ _ _ _ _ _ _ (aH K) (pv 3) af (λ_ _=>rfl)) (λ_ _=>rfl)) (@aa _ _ _ _ _ (pv 3) ae rfl) rfl))) (λ_=>(aS (i:=0) (show(["there","top"]:List Str).Nodup from by decide +kernel) rfl (Or.inl rfl) (Or.inr rfl))) (λ_=>(fo (aT jW (@ah _ _ _ _ _ _ _ (aH K) (pv 0) af (λ_ _=>rfl)) (pv 1) (aP _)))) (λ_=>(pv 0)))
    (@ai _ _ _ _ _ (@bD _ _ _ _ _ _ _ _ (aT f6 (@ah _ _ _ _ _ _ _ (aH K) (pv 3) af (λ_ _=>rfl)) (pv 2) (aP _)) (@aj _ _ _ (@aG _ _ _ _ (pv 4))) aU)
    (@aj _ _ _ (@aG _ _ _ _ (av qP (pv 4) (dE ["p","q"] [2,3] (cD K (pv 1)) (λ_=>(iX (n:=2) K rfl (dF (aS (i:=0) (show(["p","q","top","here"]:List Str).Nodup from by decide +kernel) rfl (Or.inl rfl) (Or.inr rfl)) (dF (aS (i:=1) (show(["p","q","top","here"]:List Str).Nodup from by decide +kernel) rfl (Or.inl rfl) (Or.inr rfl)) iI)))) (λ_=>(fo (aT bX (pv 0) (@ah _ _ _ _ _ _ _ (aH K) (pv 3) af (λ_ _=>rfl)) (aP _)))) (λ_=>(@aR _ _ _ _ _ (@aa _ _ _ _ _ (pv 1) (@aa _ _ _ _ _ (pv 2) ae rfl) rfl))))))))),?_⟩
  walk_at"";refine aI (ao.of hpx) (v:=.int x.1) rfl ?_;walk_at"";refine aE (ag.of wt.at_) (v:=.ref l0) (fN x0 (by rw[FJ,hlg];rfl)) ?_;walk_at"";refine⟨l0,bs,_,p,x,rfl,hl0,hal,λw hw=>(ok.ok w (List.mem_filter.mp hw).1).dd,husl,hpx,λl1 ps1 H1 e1 hn1 hl1 hps1=>?_⟩;have hp1l:=dz hps1;have hledl:(cX (ws.filter λw=>decide (w.room=x.1)) x).length<=100:=by unfold cX;rw[FH];exact Gh (List.length_filter_le _ _) husl
  have hled:∀y,y∈cX (ws.filter λw=>decide (w.room=x.1)) x↔∃w∈ws,cW w x.1 x.2=true/\y=(w.other,x.2+rz w.deed):=λy=>by
   unfold cX;constructor
   ·intro h;obtain⟨w,hw,rfl⟩:=List.mem_map.mp h;obtain⟨h1,h2⟩:=List.mem_filter.mp hw;exact⟨w,(List.mem_filter.mp h1).1,h2,rfl⟩
   ·rintro⟨w,hw,ho,rfl⟩;exact List.mem_map.mpr ⟨w,List.mem_filter.mpr ⟨List.mem_filter.mpr ⟨hw,GF (hZ ho)⟩,ho⟩,rfl⟩
  generalize cX (ws.filter λw=>decide (w.room=x.1)) x=zs at hps1 hp1l hledl hled;walk_at"";refine cG (ag.of hl1) ?_;refine ic (xs:=List.map V.ref ps1) (λi ys H'=>H'=H1/\∃cs,ys=List.map V.ref cs/\Paired (aB H1) cs ((zs.take i).filter λy=>decide (y.2<=top))) (bI (by rw[FH];omega)) ⟨rfl,[],rfl,.nil⟩ (λi ys H' _ h=>by obtain⟨rfl,cs,rfl,hcs⟩:=h;refine⟨ag.of hl1,?_⟩;rw[FH,dz hcs];exact Gh (List.length_filter_le _ _) (by rw[Gz];omega)) ?_ ?_
  ·rintro i v ys H2 hx ⟨rfl,cs,rfl,hcs⟩;rw[FJ]at hx;obtain⟨b,hb,rfl⟩:=FU.mp hx;obtain⟨y,hy,hby⟩:=gr hps1 hb;walk_at"";refine aI (ao.of hby) (v:=.int y.2) rfl ?_;walk_at"";have step:(zs.take (i+1)).filter (λy=>decide (y.2<=top))=(zs.take i).filter (λy=>decide (y.2<=top))++if decide (y.2<=top)then[y]else[]:=by rw[List.take_add_one,hy,List.filter_append];congr 1;show List.filter _ [y]=_;rw[List.filter_cons];rfl
   cases hc:decide (y.2<=top)with
   | true=>
    refine ax ?_;walk_at"";refine⟨rfl,cs++[b],?_,?_⟩
    ·rw[FZ];rfl
    ·rw[step,hc];exact jg hcs hby
   | false=>
    refine aq ⟨rfl,cs,rfl,?_⟩;rw[step,hc];simpa using hcs
  ·rintro ys H2 p9 ⟨hH,cs,rfl,hcs⟩ hp9;subst hH;rw[FH,hp1l,Gf]at hcs;have e2:=bS (o:=.lst (List.map V.ref cs)) hp9;have h9:(upd H2 p9 (.lst (List.map V.ref cs))) p9=_:=aN;have hcs2:=bY (λa x h=>e2 _ _ h) hcs;have hfn:H p9=none:=by
    cases z:H p9 with
    | none=>rfl
    | some o=>rw[e1 _ _ z]at hp9;cases hp9
   have e02:=e1.trans e2;generalize upd H2 p9 (.lst (List.map V.ref cs))=H3 at e2 h9 hcs2 e02 ⊢;have hcl:=dz hcs;have hfl:=List.length_filter_le (λy:Bfs.Pl=>decide (y.2<=top)) zs;have first:∀y,y∈zs.filter (λy=>decide (y.2<=top))↔∃w∈ws,cW w x.1 x.2=true/\y=(w.other,x.2+rz w.deed)/\y.2<=top:=λy=>by
    rw[List.mem_filter,hled];constructor
    ·rintro⟨⟨w,h1,h2,h3⟩,h4⟩;exact⟨w,h1,h2,h3,of_decide_eq_true h4⟩
    ·rintro⟨w,h1,h2,h3,h4⟩;exact⟨⟨w,h1,h2,h3⟩,GF h4⟩
   walk_at"";refine aI (ao.of (e02 _ _ hpx)) (v:=.int x.2) rfl ?_;walk_at"";cases hc:decide (x.2<top)with
   | true=>
    have hc':=of_decide_eq_true hc;refine ax ?_;walk_at"";refine q p9 cs _ H3 e02 hfn h9 hcs2 (λy=>?_) (by omega);rw[first];constructor
    ·exact λh=>.inl h
    ·rintro(h|⟨h,_⟩)
     ·exact h
     ·omega
   | false=>
    have hc':=of_decide_eq_false hc;refine aq ?_;walk_at"";have hkl3:=e02 _ _ hkl;have hkp3:=bY (λa x h=>e02 _ _ h) hkp;refine cG (ag.of hkl3) ?_;refine ic (xs:=List.map V.ref kps) (λi ys H'=>Ext H3 H'/\∃ds,ys=List.map V.ref ds/\Paired (aB H') ds ((((de m.toNat g m.toNat).take i).filter λz=>decide (z.1=x.1)).map λz=>(z.2,top))) (bI (by rw[FH];omega)) ⟨Ext.rfl' _,[],rfl,.nil⟩ (λi ys H' _ h=>by obtain⟨e,ds,rfl,hds⟩:=h;refine⟨ag.of (e _ _ hkl3),?_⟩;rw[FH,dz hds,FH];exact Gh (List.length_filter_le _ _) (by rw[Gz];omega)) ?_ ?_
    ·rintro i v ys H4 hx ⟨e4,ds,rfl,hds⟩;rw[FJ]at hx;obtain⟨b,hb,rfl⟩:=FU.mp hx;obtain⟨z,hz,hbz⟩:=gr hkp3 hb;have hbz4:aB H4 b z:=e4 _ _ hbz;refine jF (ao.of hbz4) rfl ?_;walk_at"";refine aI (ao.of ((e02.trans e4) _ _ hpx)) (v:=.int x.1) rfl ?_;walk_at"";have step:(((de m.toNat g m.toNat).take (i+1)).filter (λz=>decide (z.1=x.1))).map (λz=>(z.2,top))=(((de m.toNat g m.toNat).take i).filter (λz=>decide (z.1=x.1))).map (λz=>(z.2,top))++if decide (z.1=x.1)then[(z.2,top)]else[]:=by rw[List.take_add_one,hz,List.filter_append,FZ];congr 1;show List.map _ (List.filter _ [z])=_;rw[List.filter_cons];split<;>rfl
     cases hc2:decide (z.1=x.1)with
     | true=>
      refine ax ?_;walk_at"";refine aw λt H5 e5 ht _=>?_;refine⟨e4.trans e5,ds++[t],?_,?_⟩
      ·rw[FZ];rfl
      ·rw[step,hc2];exact jg (bY (λa x h=>e5 _ _ h) hds) ht
     | false=>
      refine aq ⟨e4,ds,rfl,?_⟩;rw[step,hc2];simpa using hds
    ·rintro ys H4 p8 ⟨e4,ds,rfl,hds⟩ hp8;rw[FH,hkpl,Gf]at hds;have e5:=bS (o:=.lst (List.map V.ref ds)) hp8;have h8:(upd H4 p8 (.lst (List.map V.ref ds))) p8=_:=aN;have hds5:=bY (λa x h=>e5 _ _ h) hds;have e35:=e4.trans e5;generalize upd H4 p8 (.lst (List.map V.ref ds))=H5 at e5 h8 hds5 e35 ⊢;have hdl:=dz hds;rw[FH]at hdl;have hfl2:=List.length_filter_le (λz:Bfs.Pl=>decide (z.1=x.1)) (de m.toNat g m.toNat);walk_at"";refine oU (e35 _ _ h9) h8 (bI (by rw[FH,FH];omega)) (cM λl' H6 e6 hl' hn'=>?_);rw[←FZ]at hl';have e06:=(e02.trans e35).trans e6;have hn0:H l'=none:=by
      cases z:H l' with
      | none=>rfl
      | some o=>rw[(e02.trans e35) _ _ z]at hn';cases hn'
     refine q l' (cs++ds) _ H6 e06 hn0 hl' (ua (bY (λa x h=>(e35.trans e6) _ _ h) hcs2) (bY (λa x h=>e6 _ _ h) hds5)) (λy=>?_) (by rw[F0,FH];omega);rw[F8,first];constructor
     ·rintro(h|h)
      ·exact .inl h
      ·obtain⟨z,hz,rfl⟩:=List.mem_map.mp h;obtain⟨z1,z2⟩:=List.mem_filter.mp hz;obtain⟨i,j,hi,hj,hg,rfl⟩:=ia.mp z1;exact .inr ⟨by omega,i,j,(hkg i j hi hj).mp hg,(of_decide_eq_true z2).symm,rfl⟩
     ·rintro(h|⟨_,i,j,hk,hxi,rfl⟩)
      ·exact .inl h
      ·right;have hlt:=Kpt.lt ok.ok hk;exact List.mem_map.mpr ⟨((i:Int),(j:Int)),List.mem_filter.mpr ⟨ia.mpr ⟨i,j,hlt.1,hlt.2,(hkg i j hlt.1 hlt.2).mpr hk,rfl⟩,GF hxi.symm⟩,rfl⟩
structure RR(H0 H:Hp)(f rw:Addr)(qs:List Bfs.Pl):Prop where
 ext:Ext H0 H
 fn:H0 f=none
 rn:H0 rw=none
 d:∃kvs,H f=some (.dT kvs)/\Paired (λ(kv:List Key×V) z=>kv.1=bZ z) kvs qs
 r:∃as,H rw=some (.lst (List.map V.ref as))/\Paired (aB H) as qs
def RR.step{H0 H H1:Hp}{f rw:Addr}{qs:List Bfs.Pl}(h:RR H0 H f rw qs)(e:Ext H H1):RR H0 H1 f rw qs:=by obtain⟨h1,h2,h3,⟨kvs,h4,h5⟩,as,h6,h7⟩:=h;exact⟨h1.trans e,h2,h3,⟨kvs,e _ _ h4,h5⟩,as,e _ _ h6,bY (λa x h=>e _ _ h) h7⟩
def uX{kvs:List (List Key×V)}{qs:List Bfs.Pl}(h:Paired (λ(kv:List Key×V) z=>kv.1=bZ z) kvs qs){x:Bfs.Pl}(hx:x∉qs):bO kvs (bZ x)=none:=
 Fw (key:=λz=>z) (λ_ _ z=>z) h (by simpa using hx)
def BA{kvs:List (List Key×V)}{qs:List Bfs.Pl}(h:Paired (λ(kv:List Key×V) z=>kv.1=bZ z) kvs qs)(nd:qs.Nodup){x:Bfs.Pl}(hx:x∈qs):∃v,bO kvs (bZ x)=some v:=by obtain⟨v,hv,_⟩:=EY (key:=λz=>z) (λ_ _ z=>z) h (by simpa using nd) hx;exact⟨v,hv⟩
def RR.push{H0 H:Hp}{f rw th:Addr}{qs:List Bfs.Pl}{y:Bfs.Pl}{v:V}(h:RR H0 H f rw qs)(hy:y∉qs)(hth:aB H th y):
  ∃kvs,H f=some (.dT kvs)/\kvs.length=qs.length/\∃as,upd H f (.dT (putK kvs (bZ y) v)) rw=some (.lst (List.map V.ref as))/\as.length=qs.length ∧
   RR H0 (upd (upd H f (.dT (putK kvs (bZ y) v))) rw (.lst (List.map V.ref as++[.ref th]))) f rw (qs++[y]):=by
 obtain⟨h1,h2,h3,⟨kvs,h4,h5⟩,as,h6,h7⟩:=h;have nf:∀xs,(HO.dT kvs)≠.tup xs:=λxs z=>by cases z
 have nr:∀xs,(HO.lst (List.map V.ref as))≠.tup xs:=λxs z=>by cases z
 have ne:rw≠f:=fj h6 h4 (by intro z;cases z);have h6':upd H f (.dT (putK kvs (bZ y) v)) rw=some (.lst (List.map V.ref as)):=by rw[aC ne];exact h6
 refine⟨kvs,h4,Paired.length h5,as,h6',Paired.length h7,cR (cR h1 h2) h3,h2,h3,⟨kvs++[(bZ y,v)],?_,?_⟩,as++[th],?_,?_⟩
 ·rw[aC ne.symm,aN,DO _ (uX h5 hy)]
 ·exact Paired.snoc h5 rfl
 ·rw[aN,FZ];rfl
 ·exact jg (bY (λa x z=>aB.put h6' nr (aB.put h4 nf z)) h7) (aB.put h6' nr (aB.put h4 nf hth))
structure RQ(S:Bfs.Pl->Bfs.Pl->Prop)(m T:Int)(x:Bfs.Pl)(qs:List Bfs.Pl)(i:Nat):Prop where
 nd:qs.Nodup
 has:x∈qs
 wk:∀z∈qs,∃n,Bfs.Rw S n x z
 ins:∀z∈qs,cL m T z
 cl:∀j,j<i->∀y,qs[j]?=some y->∀z,S y z->z∈qs
def RQ.done{S:Bfs.Pl->Bfs.Pl->Prop}{m T:Int}{x:Bfs.Pl}{qs:List Bfs.Pl}{i:Nat}(h:RQ S m T x qs i)(hi:qs.length<=i):∀z,z∈qs↔∃n,Bfs.Rw S n x z:=λz=>by
 refine⟨h.wk z,λ⟨n,hn⟩=>?_⟩;have go:∀(n:Nat) (a b:Bfs.Pl),Bfs.Rw S n a b->a∈qs->b∈qs:=by
  intro n a b hr;induction hr with
  | nil=>exact λh=>h
  | snoc _ hs ih=>
   intro ha;obtain⟨j,hj⟩:=Gx (ih ha);have:=(FQ.mp hj).1;exact h.cl j (by omega) _ hj _ hs
 exact go n x z hn h.has
def vX(m T:Int)(S:Bfs.Pl->Bfs.Pl->Prop):List V->Hp->VK->Prop:=λvs H Q=>∃p y,vs=[.ref p]/\aB H p y/\cL m T y/\∀l ps ys H',Ext H H'->H l=none->H' l=some (.lst (List.map V.ref ps))->Paired (aB H') ps ys->(∀z,z∈ys↔S y z)->ys.length<=300->Q (.ref l) H'
def ui(P:Program)(w:World)(K:FD)(mg:Str->Option Value)(base:Heap):Sp:=λvs H Q _=>∃pa f pre x m T S,vs=[.ref pa,.ref f]/\aB H pa x/\cL m T x/\m<=12/\T<=2000/\FunR P w K mg base 5 f pre (vX m T S)/\pre H/\(∀H H',Ext H H'->pre H->pre H')/\(∀y z,cL m T y->S y z->cL m T z) ∧
 ∀l as qs H',Ext H H'->H' l=some (.lst (List.map V.ref as))->Paired (aB H') as qs->(∀z∈qs,cL m T z)->qs.length<=24012->(∀z,z∈qs↔∃n,Bfs.Rw S n x z)->Q (.ref l) H'
abbrev mT:Stmt:=stq 57
def wq:FnScope ["place","beside","found","row","looked","here","there"] ["place","beside"] (aA mT):=⟨rfl,rfl,rfl,by decide +kernel,rfl,by decide +kernel,by decide +kernel⟩
def Cm{P:Program}{w:World}{K:FD}{mg:Str->Option Value}{base:Heap}(D:Dfn K mg "reached" mT ["place","beside"])(T:Blt mg):Cal P w K mg base "reached" 6 ["place","beside"] (ui P w K mg base):=by
 have nd:=(wq).nd;refine D.ok wq (λvs H Q E h=>?_) (λX hX H vs Q E h=>?_)
 ·obtain⟨pa,f,pre,x,m,T,S,rfl,_⟩:=h;rfl
 ·obtain⟨f,cdv,A,outer,s,H0,E0,rfl,hr⟩:=hX;obtain⟨pa,ff,pre,x,m,TT,S,rfl,hx,ix,hm12,hT,hF,hpre,hmono,hSin,q⟩:=h;refine⟨_,(@ai _ _ _ _ _ (@aM _ _ 2 _ _ _ _ nd rfl (Or.inl rfl) (CI (mG hr) (pv 0) bN) rfl (Or.inl rfl))
    (@ai _ _ _ _ _ (@aM _ _ 3 _ _ _ _ nd rfl (Or.inl rfl) (@bo _ _ _ _ (@aa _ _ _ _ _ (pv 0) ae rfl)) rfl (Or.inl rfl))
    (@ai _ _ _ _ _ (@aM _ _ 4 _ _ _ _ nd rfl (Or.inl rfl) af rfl (Or.inl rfl))
    (@ai _ _ _ _ _ (jj PassesOwn.never (aT f6 (pv 4) (bq (dD K) rfl T.len_ PySem.boot_len (@aa _ _ _ _ _ (pv 3) ae rfl)) (aP _)) (@ai _ _ _ _ _ (@aM _ _ 5 _ _ _ _ nd rfl (Or.inl rfl) (@ah _ _ _ _ _ _ _ (aF K) (pv 3) (pv 4) (λ_ _=>rfl)) rfl (Or.inl rfl))
    (@ai _ _ _ _ _ (pY (i:=4) nd rfl (Or.inl rfl) af ug)
    (@aj _ _ _ (bV PassesOwn.never rfl (cD K (xM (P:=P) (w:=w) (K:=K) (mg:=mg) (base:=base) hr (pv 1) (@aa _ _ _ _ _ (pv 5) ae rfl))) (aS (i:=6) nd rfl (Or.inl rfl)) (@aj _ _ _ (cE (zX (Cw (mG hr) (pv 6) (pv 2)) (by with_unfolding_all rfl)) (@ai _ _ _ _ _ (Dt (mG hr) (pv 2) (pv 6) bN rfl)
    (@aj _ _ _ (aZ (bC K FP F6 F7 bL (pv 3) (@aa _ _ _ _ _ (pv 6) ae rfl))))) aU)))))))
    (@aj _ _ _ (@aG _ _ _ _ (pv 3))))))),?_⟩
  walk_at"";refine λf hfn=>?_;walk_at"";refine⟨pa,bZ x,rfl,(bS hfn) _ _ hx,aN,?_⟩;walk_at"";refine aw λrw H3 e3 hrw hrn=>?_;walk_at"";have e13:Ext H (upd (upd H f (.dT [])) f (.dT [(bZ x,.bl true)])):=λb o hb=>by rw[aC (cw hb hfn),aC (cw hb hfn)];exact hb
  have hrn1:H rw=none:=by
   cases z:H rw with
   | none=>rfl
   | some o=>rw[e13 _ _ z]at hrn;cases hrn
  have hf3:H3 f=some (.dT [(bZ x,.bl true)]):=e3 _ _ aN;have rr0:RR H H3 f rw [x]:=⟨e13.trans e3,hfn,hrn1,⟨_,hf3,.cons rfl .nil⟩,[pa],hrw,.cons (e3 _ _ (e13 _ _ hx)) .nil⟩;have rq0:RQ S m TT x [x] 0:=⟨by simp,by simp,λz hz=>by rw[FT.mp hz];exact⟨0,.nil⟩,λz hz=>by rw[FT.mp hz];exact ix,λj hj=>absurd hj (Nat.not_lt_zero _)⟩;clear hf3 hrn1 e13 hrw hrn e3;refine jH (λM σ H'=>∃qs i k1 k2,RR H H' f rw qs/\RQ S m TT x qs i/\i<=qs.length/\M=24013-i/\σ=[some (.ref pa),some (.ref ff),some (.ref f),some (.ref rw),some (.int (i:Nat)),k1,k2]) (λσ H'=>∃qs i k0 k1 k2,RR H H' f rw qs/\RQ S m TT x qs i/\qs.length<=i/\qs.length<=24012/\σ=[some (.ref pa),some (.ref ff),some (.ref f),some (.ref rw),k0,k1,k2]) 24013 ⟨[x],0,_,_,rr0,rq0,by simp,by simp,rfl⟩ ?_ ?_
  ·rintro M σ H4 ⟨qs,i,k1,k2,rr,rq,hi,rfl,rfl⟩;have hqn:qs.length<=24012:=cL.few hm12 hT rq.nd rq.ins;obtain⟨as,hr4,pr⟩:=rr.r;have hal:=dz pr;walk_at"";refine gC (ag.of hr4) ?_;walk_at"";by_cases hlt:i<qs.length
   rotate_left
   ·rw[GD (show ¬((i:Nat):Int)<((List.map V.ref as).length:Nat) by rw[FH,hal];omega)];refine aq ?_;exact⟨qs,i,_,_,_,rr,rq,by omega,hqn,rfl⟩
   ·rw[GF (show((i:Nat):Int)<((List.map V.ref as).length:Nat) by rw[FH,hal];omega)];refine ax ?_;refine⟨λσ' H'=>∃qs' k1 k2,RR H H' f rw qs'/\RQ S m TT x qs' (i+1)/\i+1<=qs'.length/\qs'.length<=24012/\σ'=[some (.ref pa),some (.ref ff),some (.ref f),some (.ref rw),some (.int ((i+1:Nat):Int)),k1,k2],λσ' H' ⟨qs',k1,k2,a1,a2,a3,a4,a5⟩=>⟨24013-(i+1),by omega,qs',i+1,k1,k2,a1,a2,a3,rfl,a5⟩,?_⟩;have hqi:qs[i]?=some qs[i]:=FI hlt;generalize qs[i]=y at hqi;obtain⟨b,hb,hby⟩:=BW pr hqi;have iy:=rq.ins y (FR hqi);walk_at"";refine aE (ag.of hr4) (fE (v:=.ref b) (by rw[FJ,hb];rfl)) ?_;walk_at"";refine xO ?_;walk_at"";have hpre4:=hmono _ _ rr.ext hpre;refine⟨ff,pre,_,rfl,hF,hpre4,?_⟩;walk_at"";refine⟨hpre4,b,y,rfl,hby,iy,λl ps ys H5 e5 hln hl5 hps hys hyl=>?_⟩;have hpl:=dz hps;have rr5:=rr.step e5;obtain⟨kvs5,hd5,_⟩:=rr5.d;obtain⟨as5,hr5,_⟩:=rr5.r;have nlf:l≠f:=λz=>by obtain⟨kvs,hd,_⟩:=rr.d;rw[z,hd]at hln;cases hln
    have nlr:l≠rw:=λz=>by rw[z,hr4]at hln;cases hln
    refine cG (ag.of hl5) ?_;refine forL (xs:=List.map V.ref ps) (λj σ H'=>∃qs' k2,RR H H' f rw qs'/\qs'.Nodup/\(∃new,qs'=qs++new)/\(∀z∈qs',(∃n,Bfs.Rw S n x z)/\cL m TT z)/\(∀a,a<j->∀z,ys[a]?=some z->z∈qs')/\(∀c o,c≠f->c≠rw->H5 c=some o->H' c=some o)/\σ=[some (.ref pa),some (.ref ff),some (.ref f),some (.ref rw),some (.int ((i+1:Nat):Int)),some (.ref b),k2]) ⟨qs,_,rr5,rq.nd,⟨[],by simp⟩,λz hz=>⟨rq.wk z hz,rq.ins z hz⟩,λa ha=>absurd ha (Nat.not_lt_zero _),λc o _ _ h=>h,rfl⟩ (λj σ H' _ h=>by obtain⟨_,_,_,_,_,_,_,kp,_⟩:=h;exact ag.of (kp _ _ nlf nlr hl5)) ?_ ?_
    ·rintro j v σ H6 hv ⟨qs6,k2,rr6,nd6,⟨new,hnew⟩,in6,cl6,kp6,rfl⟩;rw[FJ]at hv;obtain⟨th,hth,rfl⟩:=FU.mp hv;obtain⟨z,hz,hthz5⟩:=gr hps hth;have nth:∀{c:Addr} {o:HO},H5 c=some o->(∀xs,o≠.tup xs)->th≠c:=λ{c o} hc hn=>fj hthz5 hc (λe=>hn _ e.symm);have hthz:aB H6 th z:=kp6 _ _ (nth hd5 (λxs e=>by cases e)) (nth hr5 (λxs e=>by cases e)) hthz5;have hSz:S y z:=(hys z).mp (FR hz);have hq6:qs6.length<=24012:=cL.few hm12 hT nd6 λz hz=>(in6 z hz).2;obtain⟨kvs,hd,pk⟩:=rr6.d;walk_at"";refine bt ?_;walk_at"";refine⟨f,_,rfl,ir.t hd (k:=bZ z) hthz,?_⟩;by_cases hin:z∈qs6
     ·obtain⟨v1,hv1⟩:=BA pk nd6 hin;rw[hv1];refine rd_exb (aq ?_);walk_at"";refine⟨qs6,_,rr6,nd6,⟨new,hnew⟩,in6,λa ha z' hz'=>?_,kp6,rfl⟩;by_cases haj:a<j
      ·exact cl6 a haj z' hz'
      ·have:a=j:=by omega
       subst this;rw[hz]at hz';cases hz';exact hin
     ·rw[uX pk hin];refine rd_exb (ax ?_);obtain⟨kvs,hd',hkl,as7,hr7,hal7,rr8⟩:=rr6.push (v:=.bl true) hin hthz;walk_at"";refine⟨f,_,rfl,iQ.t hd' (k:=bZ z) hthz (mC (by omega)),?_⟩;walk_at"";refine⟨cH (ag.of hr7),?_⟩;walk_at"";refine bT hr7 (mC (by rw[FH];omega)) ?_;walk_at"";obtain⟨n0,hn0⟩:=rq.wk y (FR hqi);refine⟨qs6++[z],_,rr8,?_,⟨new++[z],by rw[hnew,List.append_assoc]⟩,λz' hz'=>?_,λa ha z' hz'=>?_,λc o nf nr hc=>?_,rfl⟩
      ·rw[List.nodup_append];refine⟨nd6,by simp,λa ha c hc e=>?_⟩;rw[FT.mp hc]at e;exact hin (e ▸ ha)
      ·rcases F8.mp hz' with h|h
       ·exact in6 z' h
       ·rw[FT.mp h];exact⟨⟨n0+1,.snoc hn0 hSz⟩,hSin y z iy hSz⟩
      ·by_cases haj:a<j
       ·exact Gs _ (cl6 a haj z' hz')
       ·have:a=j:=by omega
        subst this;rw[hz]at hz';cases hz';exact Gr _ (by simp)
      ·rw[aC nr,aC nf];exact kp6 c o nf nr hc
    ·rintro σ H6 ⟨qs6,k2,rr6,nd6,⟨new,hnew⟩,in6,cl6,kp6,rfl⟩;rw[FH,hpl]at cl6;have hq6:qs6.length<=24012:=cL.few hm12 hT nd6 λz hz=>(in6 z hz).2;have hle:qs.length<=qs6.length:=by rw[hnew,F0];omega
     refine⟨qs6,_,_,rr6,⟨nd6,by rw[hnew];exact Gs _ rq.has,λz hz=>(in6 z hz).1,λz hz=>(in6 z hz).2,λj hj y' hy' z hz=>?_⟩,by omega,hq6,rfl⟩;have hjq:j<qs.length:=by omega
     have hy2:qs[j]?=some y':=by rw[hnew,Ga hjq]at hy';exact hy'
     by_cases hji:j<i
     ·rw[hnew];exact Gs _ (rq.cl j hji y' hy2 z hz)
     ·have:j=i:=by omega
      subst this;rw[hqi]at hy2;cases hy2;obtain⟨a,ha⟩:=Gx ((hys z).mpr hz);exact cl6 a (FQ.mp ha).1 z ha
  ·rintro σ H4 ⟨qs,i,k0,k1,k2,rr,rq,hi,hqn,rfl⟩;obtain⟨as,hr4,pr⟩:=rr.r;walk_at"";exact q rw as qs H4 rr.ext hr4 pr rq.ins hqn (rq.done hi)
def Eu(H H':Hp):Prop:=∀b o,H b=some o->(∀f,o≠.ext f)->H' b=some o
def aJ.eu{H H':Hp}{bs:List Addr}{ws:List Way}(e:Eu H H')(h:aJ H bs ws):aJ H' bs ws:=⟨h.1,λj b w e1 e2=>e _ _ (h.2 j b w e1 e2) (λf z=>by cases z)⟩
def aB.eu{H H':Hp}(e:Eu H H'){p:Addr}{x:Bfs.Pl}(h:aB H p x):aB H' p x:=e _ _ h (λf z=>by cases z)
structure TL(H H':Hp)(q:Addr)(rs:List Addr)(n:Nat)(M:Nat->Nat->Bool):Prop where
 keep:∀b o,b∉rs->H b=some o->H' b=some o
 nd:rs.Nodup
 nq:q∉rs
 rows:Rows H' q rs n M
def TL.mark{H H1:Hp}{q r:Addr}{rs:List Addr}{n i j:Nat}{M:Nat->Nat->Bool}(h:TL H H1 q rs n M)(hi:rs[i]?=some r)(hj:j<n):TL H (upd H1 r (.lst ((aQ n (M i)).set j (.bl true)))) q rs n (put2 M i j):=by
 have hm:=FR hi;have nqr:q≠r:=λz=>h.nq (z ▸ hm);refine⟨λb o nb e=>?_,h.nd,h.nq,?_,λa r' ha=>?_⟩
 ·have nbr:b≠r:=λz=>nb (by rw[z];exact hm);rw[aC nbr];exact h.keep b o nb e
 ·rw[aC nqr];exact h.rows.1
 ·by_cases hai:a=i
  ·subst hai;rw[hi]at ha;cases ha;rw[aN,ma _ _ hj];congr 2;refine eU λy _=>?_;unfold put2;by_cases hy:y=j
   ·rw[GH hy,GH ⟨rfl,hy⟩]
   ·rw[GG hy,GG λz=>hy z.2]
  ·have nr:r'≠r:=λz=>hai ((List.getElem?_inj (FQ.mp ha).1 h.nd).mp (by rw[ha,hi,z]));rw[aC nr,h.rows.2 a r' ha];congr 2;exact eU λy _=>by unfold put2;rw[GG λz=>hai z.1]
def EW{m:Int}{ws:List Way}(ok:HOuse m ws){top:Int}{x y:Bfs.Pl}(h0:0<=top)(hx:cL m top x)(h:LB ws m.toNat top x y):cL m top y:=by
 have m1:=ok.m1;rcases h with⟨w,hw,ho,rfl,hle⟩|⟨_,i,j,hk,_,rfl⟩
 ·have okw:=ok.ok w hw;refine⟨okw.o0,okw.o1,?_,hle⟩;exact Ec okw.dd hx.2.2.1 ho
 ·have:=Kpt.lt ok.ok hk;exact⟨by show(0:Int)<=(j:Int);omega,by show(j:Int)<m;omega,h0,Int.le_refl _⟩
def WT.eu{H H':Hp}{c:Addr}{n:Nat}{ls:List Addr}{ws:List Way}(e:Eu H H')(h:WT H c n ls ws):WT H' c n ls ws:=
 ⟨e _ _ h.at_ (λf z=>by cases z),h.len,λr l hl=>by obtain⟨bs,h1,h2⟩:=h.it r l hl;exact⟨bs,e _ _ h1 (λf z=>by cases z),h2.eu e⟩⟩
def dU.eu{H H':Hp}(e:Eu H H'){l:Addr}{n:Nat}{R:Nat->Nat->Prop}(h:dU H l n R):dU H' l n R:=by obtain⟨ps,g,h1,h2,h3⟩:=h;exact⟨ps,g,e _ _ h1 (λf z=>by cases z),bY (λa x h=>h.eu e) h2,h3⟩
def kZ{K:FD}{x q:Str}{line col:Nat}{H H':Hp}{rs:List Addr}(e:∀b o,b∉rs->H b=some o->H' b=some o)(hr:∀r∈rs,∃xs,H r=some (.lst xs))(h:dA K x q line col H):dA K x q line col H':=λc T ht=>by
 have no:∀b o,H b=some o->(∀xs,o≠.lst xs)->H' b=some o:=λb o hb nl=>e b o (λz=>by obtain⟨xs,hx⟩:=hr b z;rw[hx]at hb;cases hb;exact nl _ rfl) hb;rcases h c T ht with h|⟨c',h1,h2⟩
 ·exact .inl (no _ _ h (λxs z=>by cases z))
 ·exact .inr ⟨c',no _ _ h1 (λxs z=>by cases z),no _ _ h2 (λxs z=>by cases z)⟩
def Tbs.kp{K:FD}{H H':Hp}{rs:List Addr}(e:∀b o,b∉rs->H b=some o->H' b=some o)(hr:∀r∈rs,∃xs,H r=some (.lst xs))(h:Tbs K H):Tbs K H':=⟨kZ e hr h.fallen,kZ e hr h.kept,kZ e hr h.low,kZ e hr h.risen⟩
def oP(K:FD):Sp:=λvs H Q _=>∃vh m ws pa x,vs=[vh,.ref pa]/\bh H vh m ws/\HOuse m ws/\aB H pa x/\bR m x/\dC K/\Tbs K H/\∀q rs M H',Et H H'->Tbs K H'->Rows H' q rs m.toNat M->(rs.length:Int)=x.2+1->(∀i r:Nat,(i:Int)<=x.2->(r:Int)<m->(M i r=true↔∃n,Bfs.Rw (LB ws m.toNat x.2) n x ((r:Int),(i:Int))))->Q (.ref q) H'
abbrev nF:Stmt:=stq 59
def vR:FnScope ["house","place","ways","keeps","levels","room","number"] ["house","place"] (aA nF):=⟨rfl,rfl,rfl,by decide +kernel,rfl,by decide +kernel,by decide +kernel⟩
def EM{P:Program}{w:World}{K:FD}{mg:Str->Option Value}{base:Heap}(D:Dfn K mg "low_levels" nF ["house","place"])(T:Blt mg){c9 T9:Addr}(B:Tab K mg base "low_levels" c9 T9)(C_reached:Cal P w K mg base "reached" 6 ["place","beside"] (ui P w K mg base))(C_ways_by_room:Cal P w K mg base "ways_by_room" 1 ["house"] (u4 K))(C_low_beside:Cal P w K mg base "low_beside" 4 ["ways","keeps","top","here"] (vw K))(C0_kept:Cal P w K mg base "kept" 7 ["house"] (λvs H Q _=>lK K vs H Q E0)):Cal P w K mg base "low_levels" 8 ["house","place"] (oP K):=by
 have nd:=(vR).nd;refine D.okL B vR (λvs H Q E h=>?_) (λX hX H vs Q E h=>?_)
 ·obtain⟨vh,m,ws,pa,x,rfl,_⟩:=h;rfl
 ·obtain⟨f,A,outer,s,H0,E0,rfl,hr⟩:=hX;obtain⟨vh,m,ws,pa,x,rfl,hv,ok,hpx,ix,dis,htb,q⟩:=h;have m1:=ok.m1;have m12:=ok.m12;obtain⟨i0,i1,i2,i3⟩:=id ix;refine⟨_,(ai (aM (i:=2) nd rfl (Or.inr rfl) (aD C_ways_by_room hr (aa (pv 0) ae)))
    (ai (aM (i:=3) nd rfl (Or.inr rfl) (aD C0_kept hr (aa (pv 0) ae)))
    (ai (iU (i:=4) ["number"] [0] nd rfl (Or.inl rfl) (cB rfl T.range_ (aa (av aY (ah (aH K) (pv 1) af (λ_ _=>rfl)) af) ae)) (λ_=>(aS (i:=0) (show(["number","house"]:List Str).Nodup from by decide +kernel) rfl (Or.inl rfl) (Or.inr rfl))) (λ_=>fX) (λ_=>(av qQ (bo (aa bN ae)) (ah (aH K) (pv 1) af (λ_ _=>rfl)))))
    (ai (bV PassesOwn.never rfl (cD K (ky [2,3,1] C_reached hr (aa (pv 1) (aa (kx rfl rfl B.hd B.blt B.gl (by decide +kernel) rfl rfl rfl) ae)))) (iX (n:=2) K rfl (dF (aS (i:=5) nd rfl (Or.inl rfl)) (dF (aS (i:=6) nd rfl (Or.inl rfl)) iI))) (aj (gY bN (ji (ah (aF K) (pv 4) (pv 6) (λ_ _=>rfl)) (pv 5) set_list))))
    (aj (aG (pv 4))))))),?_⟩
  walk_at"";refine⟨vh,m,ws,rfl,hv,ok,λc ls H1 e1 wt=>?_⟩;walk_at"";refine⟨vh,rfl,.inr ⟨m,ws,hv.ext e1,ok,dis,htb.ext e1,λkl H2 e2 tb2 prs=>?_⟩⟩;have e02:=e1.et.trans e2;have wt2:=wt.et e2;have hv2:=hv.et e02;have hpx2:=hpx.et e02;obtain⟨hp0,hq0,hvr,hh2,_⟩:=id hv2;subst hvr;walk_at"";refine aI (ao.of hpx2) (v:=.int x.2) rfl ?_;walk_at"";refine ck (by omega) ?_;refine fg (λi ys H'=>Ext H2 H'/\∃rs:List Addr,ys=List.map V.ref rs/\rs.length=i/\rs.Nodup/\∀r∈rs,H' r=some (.lst (aQ m.toNat λ_=>false))/\H2 r=none) (bI (by omega)) ⟨Ext.rfl' _,[],rfl,rfl,List.nodup_nil,λl h=>(nomatch h)⟩ (λi ys H' _ h=>by obtain⟨_,ls,rfl,h,_⟩:=h;rw[FH,h];exact F5 _) ?_ ?_
  ·rintro i ys H3 hi ⟨e3,rs,rfl,hl,hnd,hrs⟩;walk_at"";refine ax ?_;walk_at"";refine aw λz1 H4 e4 hz1 _=>?_;walk_at"";refine aI (ao.of ((e3.trans e4) _ _ hh2)) (v:=.int m) rfl ?_;refine o7 hz1 (by omega) (bI (by simp;omega)) (cM λz2 H5 e5 hz2 hn5=>?_);rw[t9]at hz2;refine⟨(e3.trans e4).trans e5,rs++[z2],by rw[FZ];rfl,by rw[F0,hl];rfl,?_,λr hr=>?_⟩
   ·rw[List.nodup_append];refine⟨hnd,by simp,λa ha b hb z=>?_⟩;rw[FT.mp hb]at z;subst z;rw[e4 _ _ (hrs a ha).1]at hn5;cases hn5
   ·rcases F8.mp hr with h|h
    ·exact⟨(e4.trans e5) _ _ (hrs r h).1,(hrs r h).2⟩
    ·rw[FT.mp h];refine⟨hz2,?_⟩;cases y:H2 z2 with
     | none=>rfl
     | some o=>rw[(e3.trans e4) _ _ y]at hn5;cases hn5
  ·rintro ys H3 lq ⟨e3,rs,rfl,hrl,hnd,hrs⟩ hlq;have e34:=bS (o:=.lst (List.map V.ref rs)) hlq;have hlq4:(upd H3 lq (.lst (List.map V.ref rs))) lq=_:=aN;have nql:lq∉rs:=λz=>by rw[(hrs lq z).1]at hlq;cases hlq
   have rows4:Rows (upd H3 lq (.lst (List.map V.ref rs))) lq rs m.toNat (λ_ _=>false):=⟨aN,λi r h=>e34 _ _ (hrs r (FR h)).1⟩;have e24:=e3.trans e34;generalize upd H3 lq (.lst (List.map V.ref rs))=H4 at e34 hlq4 rows4 e24 ⊢;have e04:=e02.trans e24.et;have tb4:=tb2.ext e24;have wt4:=wt2.ext e24;have prs4:=prs.et e24.et;have hpx4:aB H4 pa x:=e24 _ _ hpx2;walk_at"";show iS _ [2,3,1] _ (["house","place","ways","keeps","levels","room","number"]:List Str) _ _ _ _;generalize PySem.Env.cells _=cells0;refine jS ?_;walk_at"";refine lj ?_;refine kF (x:="low_levels") tb4.low B.tin λfl c' cl H5 hcl e5 ht5 ot hf hc'=>?_;have t5:Tbs K H5:=⟨ot "fallen" _ _ _ (λc2 T2 e2=>dis "low_levels" (by simp) "fallen" (by simp) (by decide +kernel) _ _ _ _ B.tin e2) tb4.fallen,ot "kept" _ _ _ (λc2 T2 e2=>dis "low_levels" (by simp) "kept" (by simp) (by decide +kernel) _ _ _ _ B.tin e2) tb4.kept,ht5,ot "risen" _ _ _ (λc2 T2 e2=>dis "low_levels" (by simp) "risen" (by simp) (by decide +kernel) _ _ _ _ B.tin e2) tb4.risen⟩;walk_at"";refine⟨λj hj=>?_,λcp hlen hcp=>?_⟩
   ·simp only[FX,Gi,or_false]at hj;rcases hj with rfl|rfl|rfl
    ·exact⟨_,rfl⟩
    ·exact⟨_,rfl⟩
    ·exact⟨_,rfl⟩
   obtain⟨⟨n1,d1,o1,v1⟩,⟨n2,d2,o2,v2⟩,⟨n3,d3,o3,v3⟩,rfl⟩:=zu hlen;obtain⟨hN1,hcc1,hσ1,hno1,u1,hdat1,hrel1⟩:=hcp 0 2 _ rfl rfl;obtain⟨hN2,hcc2,hσ2,hno2,u2,hdat2,hrel2⟩:=hcp 1 3 _ rfl rfl;obtain⟨hN3,hcc3,hσ3,hno3,u3,hdat3,hrel3⟩:=hcp 2 1 _ rfl rfl;clear hcp hlen;dsimp only at hN1 hcc1 hσ1 hno1 hdat1 hrel1 hN2 hcc2 hσ2 hno2 hdat2 hrel2 hN3 hcc3 hσ3 hno3 hdat3 hrel3;have hN1':(Gp "ways")=n1:=Gq hN1;have hσ1':(V.ref c)=v1:=Gq (Gq hσ1);have hN2':(Gp "keeps")=n2:=Gq hN2;have hσ2':(V.ref kl)=v2:=Gq (Gq hσ2);have hN3':(Gp "place")=n3:=Gq hN3;have hσ3':(V.ref pa)=v3:=Gq (Gq hσ3);clear hN1 hσ1 hN2 hσ2 hN3 hσ3;subst hN1';subst hσ1';subst hN2';subst hσ2';subst hN3';subst hσ3';obtain⟨a1,ha1⟩:=hcl.has (Gp "ways") rfl;obtain⟨a2,ha2⟩:=hcl.has (Gp "keeps") rfl;obtain⟨a3,ha3⟩:=hcl.has (Gp "place") rfl;have hb1:=(hcl.fr _ _ ha1).2;have hb2:=(hcl.fr _ _ ha2).2;have hb3:=(hcl.fr _ _ ha3).2;rw[hcc1]at hb1;rw[hcc2]at hb2;rw[hcc3]at hb3;cases hb1;cases hb2;cases hb3;have n12:d1≠d2:=λz=>absurd (hcl.inj _ _ _ ha1 (z ▸ ha2)) (by decide +kernel);have n13:d1≠d3:=λz=>absurd (hcl.inj _ _ _ ha1 (z ▸ ha3)) (by decide +kernel);have n23:d2≠d3:=λz=>absurd (hcl.inj _ _ _ ha2 (z ▸ ha3)) (by decide +kernel);obtain⟨cp,hcp⟩:∃cp:List Cap,cp=[⟨Gp "ways",d1,o1,V.ref c⟩,⟨Gp "keeps",d2,o2,V.ref kl⟩,⟨Gp "place",d3,o3,V.ref pa⟩]:=⟨_,rfl⟩;have hn5:∀b o9,(cellsOf cp).lookup b=some o9->H5 b=none:=λb o9 hb=>by
    obtain⟨e,he,rfl,rfl⟩:=f9 hb;rw[hcp]at he;simp only[FX,Gi,or_false]at he;rcases he with rfl|rfl|rfl
    ·exact hno1
    ·exact hno2
    ·exact hno3
   have ex:=i6 hn5;have hcaps:Caps (bJ (cellsOf cp) H5) cl cp:=by
    refine⟨λe he=>?_,λy g hy=>?_⟩
    ·rw[hcp]at he ⊢;simp only[FX,Gi,or_false]at he;rcases he with rfl|rfl|rfl
     ·exact⟨ha1,dI (by simp[cellsOf]),u1,hdat1,hrel1⟩
     ·refine⟨ha2,dI ?_,u2,hdat2,hrel2⟩;show List.lookup d2 ((d1,o1)::(d2,o2)::[(d3,o3)])=some o2;rw[Gy,show (d2 == d1)=false from beq_eq_false_iff_ne.mpr (Ne.symm n12),Gy,beq_self_eq_true]
     ·refine⟨ha3,dI ?_,u3,hdat3,hrel3⟩;show List.lookup d3 ((d1,o1)::(d2,o2)::[(d3,o3)])=some o3;rw[Gy,show (d3 == d1)=false from beq_eq_false_iff_ne.mpr (Ne.symm n13),Gy,show (d3 == d2)=false from beq_eq_false_iff_ne.mpr (Ne.symm n23),Gy,beq_self_eq_true]
    ·have hm:=gI (hcl.fr y g hy).1;rw[hcp];simp at hm;rcases hm with rfl|rfl|rfl
     all_goals first|(rw[ha1]at hy;cases hy;exact⟨⟨Gp "ways",d1,o1,V.ref c⟩,by simp,rfl,rfl⟩)|(rw[ha2]at hy;cases hy;exact⟨⟨Gp "keeps",d2,o2,V.ref kl⟩,by simp,rfl,rfl⟩)|(rw[ha3]at hy;cases hy;exact⟨⟨Gp "place",d3,o3,V.ref pa⟩,by simp,rfl,rfl⟩)
   have wt5:=(wt4.et e5).ext ex;have prs5:=(prs4.et e5).et ex.et;have hpx5:aB (bJ (cellsOf cp) H5) pa x:=ex _ _ (hpx4.et e5);subst hcp;have hF:=
    lH (P:=P) (w:=w) (K:=K) (mg:=mg) (base:=base) (k:=4) hf hcl (["here"]:List Str) [⟨Gp "ways",d1,o1,V.ref c⟩,⟨Gp "keeps",d2,o2,V.ref kl⟩,⟨Gp "place",d3,o3,V.ref pa⟩] (vX m x.2 (LB ws m.toNat x.2)) (λH=>WT H c m.toNat ls ws/\dU H kl m.toNat (Kpt ws m.toNat)/\aB H pa x) ⟨rfl,rfl,rfl,by decide +kernel,by decide +kernel⟩ (λ_ _ _ us hl=>by obtain⟨u1,rfl⟩:=nk hl;rfl) (λvs H Q h=>by obtain⟨p,y,rfl,_⟩:=h;rfl) (λA outer s H vs Q hrL hpre hI hR=>by
     obtain⟨p,y,rfl,hpy,iy,hQ⟩:=hR;have hlk:=hpre.2.2.look;obtain⟨hI1,hI2,hI3⟩:=hI;have eu:Eu H (aV (cellsOf [⟨Gp "ways",d1,o1,V.ref c⟩,⟨Gp "keeps",d2,o2,V.ref kl⟩,⟨Gp "place",d3,o3,V.ref pa⟩]) H):=λb o hb nf=>eh hlk hb nf;have k1:=hI1.eu eu;have k2:=hI2.eu eu;have k3:=hI3.eu eu;have kp:=hpy.eu eu;refine⟨_,(aD C_low_beside hrL (aa (pv 1) (aa (pv 2) (aa (ah (aH K) (pv 3) af (λ_ _=>rfl)) (aa (pv 0) ae))))),?_⟩;have hb:∀H',Ext (aV (cellsOf [⟨Gp "ways",d1,o1,V.ref c⟩,⟨Gp "keeps",d2,o2,V.ref kl⟩,⟨Gp "place",d3,o3,V.ref pa⟩]) H) H'->Ext H (bJ (cellsOf [⟨Gp "ways",d1,o1,V.ref c⟩,⟨Gp "keeps",d2,o2,V.ref kl⟩,⟨Gp "place",d3,o3,V.ref pa⟩]) H'):=λH' e=>oG hlk e;have hu:∀l,(cellsOf [⟨Gp "ways",d1,o1,V.ref c⟩,⟨Gp "keeps",d2,o2,V.ref kl⟩,⟨Gp "place",d3,o3,V.ref pa⟩]).lookup l=none->aV (cellsOf [⟨Gp "ways",d1,o1,V.ref c⟩,⟨Gp "keeps",d2,o2,V.ref kl⟩,⟨Gp "place",d3,o3,V.ref pa⟩]) H l=H l:=λl hl=>cq hl;generalize aV (cellsOf [⟨Gp "ways",d1,o1,V.ref c⟩,⟨Gp "keeps",d2,o2,V.ref kl⟩,⟨Gp "place",d3,o3,V.ref pa⟩]) H=HU at k1 k2 k3 kp hb hu ⊢;generalize cellsOf [⟨Gp "ways",d1,o1,V.ref c⟩,⟨Gp "keeps",d2,o2,V.ref kl⟩,⟨Gp "place",d3,o3,V.ref pa⟩]=cs at hb hu ⊢;show iH _ _ _ _ [some (.ref p),some (.ref c),some (.ref kl),some (.ref pa)] _ _;walk_at"";refine aI (ao.of k3) (v:=.int x.2) rfl ?_;walk_at"";refine⟨c,kl,x.2,p,m,ws,ls,y,rfl,k1,k2,ok,kp,iy.1,iy.2.1,λl ps ys H' e hn hl hps hys hyl=>?_⟩;intro hnc;have nl:cs.lookup l=none:=by
      cases z:cs.lookup l with
      | none=>rfl
      | some o=>rw[hnc l o z]at hl;cases hl
     have et:=i6 hnc;exact hQ l ps ys _ (hb H' e) (by rw[←hu l nl];exact hn) (et _ _ hl) (bY (λa x h=>et _ _ h) hps) hys hyl)
   refine⟨pa,fl,_,x,m,x.2,LB ws m.toNat x.2,rfl,hpx5,⟨i0,i1,i2,Int.le_refl _⟩,m12,by omega,hF,⟨⟨ex _ _ hf,ex _ _ hc',hcaps⟩,wt5,prs5,hpx5⟩,λH H' e h=>⟨h.1.ext e,h.2.1.ext e,h.2.2.1.et e.et,e _ _ h.2.2.2⟩,λy z hy hS=>EW ok i2 hy hS,λl as qs H6 e6 hl6 hps hin hqn hqs=>?_⟩;clear hF;obtain⟨b1,b2,b3,b4⟩:=held hn5 e6;refine⟨b1,?_⟩;have hl7:=b4 _ _ hl6 (λf z=>by cases z);have hps7:Paired (aB (aV _ H6)) as qs:=bY (λa x h=>b4 _ _ h (λf z=>by cases z)) hps;have rows7:=(rows4.et e5).ext b2;have e07:=(e04.trans e5).trans b2.et;have t7:=t5.ext b2;generalize aV _ H6=H7 at hl7 hps7 rows7 e07 t7 ⊢;have hal:=dz hps7;have fr0:∀r∈rs,∀o,H r=some o->(∀ps,o≠.tbl ps)->False:=λr hr o ho no=>by have:=e02 _ _ ho no;rw[(hrs r hr).2]at this;cases this
   clear hcaps hn5 ex wt5 prs5 hpx5 e6 hl6 hps b1 b2 b3 b4 hf hc' hcl ha1 ha2 ha3 hcc1 hcc2 hcc3 hno1 hno2 hno3 hrel1 hrel2 hrel3 hdat1 hdat2 hdat3 n12 n13 n23 ot;have tup1:∀(b:Addr) (z:Bfs.Pl),aB H7 b z->b∉rs:=λb z hb hr=>by obtain⟨j,hj⟩:=Gx hr;have h1:=rows7.2 j b hj;have h2:H7 b=some (.tup [.int z.1,.int z.2]):=hb;rw[h1]at h2;cases h2
   have nl:l∉rs:=λhr=>by
    obtain⟨j,hj⟩:=Gx hr;have h1:=rows7.2 j l hj;rw[hl7]at h1;have h2:List.map V.ref as=aQ m.toNat λ_=>false:=by
     injection h1 with h1
     injection h1
    have h3:=congrArg (λz:List V=>z[0]?) h2
    try dsimp only at h3
    rw[fR _ (by omega),FJ]at h3;cases y:as[0]? with
    | none=>rw[y]at h3;cases h3
    | some a=>rw[y]at h3;cases h3
   refine cG (ag.of hl7) ?_;refine forL (xs:=List.map V.ref as) (λj σ H'=>∃M k1 k2,TL H7 H' lq rs m.toNat M/\(∀i r:Nat,M i r=true↔(((r:Nat):Int),((i:Nat):Int))∈qs.take j)/\σ=[some (.ref hp0),some (.ref pa),some (.ref c),some (.ref kl),some (.ref lq),k1,k2]) ⟨_,_,_,⟨λ_ _ _ e=>e,hnd,nql,rows7⟩,λi r=>by simp,rfl⟩ (λj σ H' _ h=>by obtain⟨M,k1,k2,tl,_⟩:=h;exact ag.of (tl.keep _ _ nl hl7)) ?_ ?_
   ·rintro j v σ H8 hx ⟨M,k1,k2,tl,hM,rfl⟩;rw[FJ]at hx;obtain⟨b,hb,rfl⟩:=FU.mp hx;obtain⟨z,hz,hbz⟩:=gr hps7 hb;obtain⟨z0,z1,z2,z3⟩:=hin z (FR hz);have hbz8:aB H8 b z:=tl.keep _ _ (tup1 b z hbz) hbz;have hrx:z.2.toNat<rs.length:=by omega
    have hrg:rs[z.2.toNat]?=some rs[z.2.toNat]:=FI hrx;generalize rs[z.2.toNat]=ar at hrg;have hrow:=tl.rows.2 _ _ hrg;refine jF (ao.of hbz8) rfl ?_;walk_at"";refine aE (ag.of tl.rows.1) (v:=.ref ar) (fN z2 (by rw[FJ,hrg];rfl)) ?_;walk_at"";refine jy hrow (jb z0 (by rw[cO];omega)) ?_;refine⟨_,_,_,tl.mark hrg (by omega),λi r=>?_,rfl⟩;rw[List.take_add_one,hz,F8];unfold put2;split
    ·rename_i y;simp only[true_iff];right;simp;refine Prod.ext ?_ ?_
     ·show((r:Nat):Int)=z.1;omega
     ·show((i:Nat):Int)=z.2;omega
    ·rename_i y;rw[hM];constructor
     ·exact λh=>.inl h
     ·rintro(h|h)
      ·exact h
      ·have h':(((r:Nat):Int),((i:Nat):Int))=z:=by simpa using h
       refine absurd ⟨?_,?_⟩ y
       ·rw[←h'];show i=((i:Nat):Int).toNat;omega
       ·rw[←h'];show r=((r:Nat):Int).toNat;omega
   ·rintro σ H8 ⟨M,k1,k2,tl,hM,rfl⟩;rw[FH,hal,Gf]at hM;walk_at"";refine q lq rs M H8 (λb o hb no=>?_) (t7.kp tl.keep λr hr=>?_) tl.rows (by omega) λi r hi hr=>?_
    ·have h7:=e07 _ _ hb no;exact tl.keep b o (λhr=>fr0 b hr o hb no) h7
    ·obtain⟨j,hj⟩:=Gx hr;exact⟨_,rows7.2 j r hj⟩
    ·rw[hM];exact hqs _
def vg(K:FD):Sp:=λvs H Q _=>∃rl lv n f R,vs=[.ref rl,.ref lv]/\dU H rl n R/\H lv=some (.lst (aQ n f))/\n<=12/\∀l g H',Ext H H'->H l=none->H' l=some (.lst (aQ n g))->(∀j,j<n->(g j=true↔∃i,i<n/\f i=true/\R i j))->Q (.ref l) H'
abbrev lZ:Stmt:=stq 60
def xl:FnScope ["rises","level","risen_to","p","q"] ["rises","level"] (aA lZ):=⟨rfl,rfl,rfl,by decide +kernel,rfl,by decide +kernel,by decide +kernel⟩
def Dy{P:Program}{w:World}{K:FD}{mg:Str->Option Value}{base:Heap}(D:Dfn K mg "next_level" lZ ["rises","level"])(T:Blt mg):Cal P w K mg base "next_level" 1 ["rises","level"] (vg K):=by
 have nd:=(xl).nd;refine D.ok xl (λvs H Q E h=>?_) (λX hX H vs Q E h=>?_)
 ·obtain⟨rl,lv,n,f,R,rfl,_⟩:=h;rfl
 ·obtain⟨f,cdv,A,outer,s,H0,E0,rfl,hr⟩:=hX;obtain⟨rl,lv,n,f',R,rfl,prs,hlv,hn,q⟩:=h;obtain⟨ps,g,hrl,hps,hg⟩:=prs;have hpl:=dz hps;refine⟨_,(@ai _ _ _ _ _ (@aM _ _ 2 _ _ _ _ nd rfl (Or.inl rfl) (av qQ (@bo _ _ _ _ (@aa _ _ _ _ _ bN ae rfl)) (bq (dD K) rfl T.len_ PySem.boot_len (@aa _ _ _ _ _ (pv 1) ae rfl))) rfl (Or.inl rfl))
    (@ai _ _ _ _ _ (bV PassesOwn.never rfl (cD K (pv 0)) (iX (n:=2) K rfl (dF (aS (i:=3) nd rfl (Or.inl rfl)) (dF (aS (i:=4) nd rfl (Or.inl rfl)) iI))) (@aj _ _ _ (cE (bE (@ah _ _ _ _ _ _ _ (aF K) (pv 1) (pv 3) (λ_ _=>rfl))) (@aj _ _ _ (@gY _ _ _ _ _ _ bN (ji (pv 2) (pv 4) set_list) rfl rfl rfl)) aU)))
    (@aj _ _ _ (@aG _ _ _ _ (pv 2))))),?_⟩
  walk_at"";refine aw λz1 H1 e1 hz1 _=>?_;walk_at"";refine gC (ag.of (e1 _ _ hlv)) ?_;rw[cO];refine o7 hz1 (by omega) (bI (by simp;omega)) (cM λrt H2 e2 hrt hrn=>?_);rw[t9,FV]at hrt;have e02:=e1.trans e2;have hrt0:H rt=none:=by
   cases y:H rt with
   | none=>rfl
   | some o=>rw[e1 _ _ y]at hrn;cases hrn
  walk_at"";refine cG (ag.of (e02 _ _ hrl)) ?_;refine forL (xs:=List.map V.ref ps) (λj σ H'=>∃h k1 k2,Ext H H'/\H' rt=some (.lst (aQ n h))/\(∀b,h b=true↔∃z∈(de n g n).take j,f' z.1.toNat=true/\z.2.toNat=b)/\σ=[some (.ref rl),some (.ref lv),some (.ref rt),k1,k2]) ⟨_,_,_,e02,hrt,λb=>by simp,rfl⟩ (λj σ H' _ h=>by obtain⟨_,_,_,e,_⟩:=h;exact ag.of (e _ _ hrl)) ?_ ?_
  ·rintro j v σ H3 hx ⟨h,k1,k2,e3,hr3,hh,rfl⟩;rw[FJ]at hx;obtain⟨b,hb,rfl⟩:=FU.mp hx;obtain⟨z,hz,hbz⟩:=gr hps hb;obtain⟨i,r,hi,hr,hgz,rfl⟩:=ia.mp (FR hz);have hbz3:aB H3 b (((i:Nat):Int),((r:Nat):Int)):=e3 _ _ hbz;refine jF (ao.of hbz3) rfl ?_;walk_at"";refine bt ?_;walk_at"";refine aE (ag.of (e3 _ _ hlv)) (dw (by omega) (by omega)) ?_;rw[FV];walk_at"";have step:∀P:Bfs.Pl->Prop,(∃z∈(de n g n).take (j+1),P z)↔(∃z∈(de n g n).take j,P z)\/P (((i:Nat):Int),((r:Nat):Int)):=λP=>by
    rw[List.take_add_one,hz];constructor
    ·rintro⟨z,hm,hp⟩;rcases F8.mp hm with hm|hm
     ·exact .inl ⟨z,hm,hp⟩
     ·have:z=(((i:Nat):Int),((r:Nat):Int)):=by simpa using hm
      subst this;exact .inr hp
    ·rintro(⟨z,hm,hp⟩|hp)
     ·exact⟨z,Gs _ hm,hp⟩
     ·exact⟨_,Gr _ (by simp),hp⟩
   cases hf:f' i with
   | false=>
    refine aq ?_;walk_at"";refine⟨h,_,_,e3,hr3,λb=>?_,rfl⟩;rw[hh,step];constructor
    ·exact λy=>.inl y
    ·rintro(y|⟨y,_⟩)
     ·exact y
     ·have y':f' ((i:Nat):Int).toNat=true:=y;rw[FV,hf]at y';cases y'
   | true=>
    refine ax ?_;walk_at"";refine jy hr3 (jb (by omega) (by rw[cO];omega)) ?_;rw[FV,ma _ _ hr];refine⟨_,_,_,cR e3 hrt0,aN,λb=>?_,rfl⟩;rw[step];by_cases hbr:b=r
    ·rw[GH hbr];simp only[true_iff];refine .inr ⟨?_,?_⟩
     ·show f' ((i:Nat):Int).toNat=true;rw[FV];exact hf
     ·show((r:Nat):Int).toNat=b;rw[FV];exact hbr.symm
    ·rw[GG hbr,hh];constructor
     ·exact λy=>.inl y
     ·rintro(y|⟨_,y⟩)
      ·exact y
      ·have y':((r:Nat):Int).toNat=b:=y;rw[FV]at y';exact absurd y'.symm hbr
  ·rintro σ H3 ⟨h,k1,k2,e3,hr3,hh,rfl⟩;rw[FH,hpl,Gf]at hh;walk_at"";refine q rt h H3 e3 hrt0 hr3 λb hb=>?_;rw[hh];constructor
   ·rintro⟨z,hz,hf,rfl⟩;obtain⟨i,r,hi,hr,hgz,rfl⟩:=ia.mp hz;have hf':f' ((i:Nat):Int).toNat=true:=hf;rw[FV]at hf';refine⟨i,hi,hf',?_⟩;show R i ((r:Nat):Int).toNat;rw[FV];exact(hg i r hi hr).mp hgz
   ·rintro⟨i,hi,hf,hR⟩;refine⟨(((i:Nat):Int),((b:Nat):Int)),ia.mpr ⟨i,b,hi,hb,(hg i b hi hb).mpr hR,rfl⟩,?_,?_⟩
    ·show f' ((i:Nat):Int).toNat=true;rw[FV];exact hf
    ·show((b:Nat):Int).toNat=b;exact FV b
def ow{f:Nat->Bool}{lo i:Nat}{ys:List V}(h:ys=(row f lo i).map V.int)(hf:f (lo+i)=true):ys++[V.int ((lo+i:Nat):Int)]=(row f lo (i+1)).map V.int:=by rw[oY,GH hf,FZ,h];rfl
def lX{f:Nat->Bool}{lo i:Nat}{ys:List V}(h:ys=(row f lo i).map V.int)(hf:f (lo+i)=false):ys=(row f lo (i+1)).map V.int:=by rw[oY,GG (by rw[hf];decide),List.append_nil,h]
def tZ{n:Nat}{f:Nat->Bool}{i:Int}(h0:0<=i)(h:i<=n):bW (aQ n f) (some i) none=aQ (n-i.toNat) λk=>f (i.toNat+k):=by
 unfold bW;rw[cO,HT.pR];have e:HT.aL n 0 (some i)=i.toNat:=by show(if i<0 then(i+(n:Int)).toNat else min i.toNat n)=i.toNat;rw[GG (by omega)];omega
 rw[e];apply List.ext_getElem?;intro k;rcases Gw k (n-i.toNat)with hk|hk
 ·rw[List.getElem?_take_of_lt hk,List.getElem?_drop,fR _ (by omega),fR _ hk]
 ·rw[List.getElem?_eq_none (by rw[Gz,List.length_drop,cO];omega),List.getElem?_eq_none (by rw[cO];omega)]
def dB(n:Nat)(f:Nat->Bool):List PyData:=(GC n).map λi=>PyData.bool (f i)
def rE{α:Type}{R:V->PyData->Prop}{g:α->V}{k:α->PyData}(h:∀x,R (g x) (k x)):∀l:List α,Paired R (l.map g) (l.map k)
 | []=>.nil
 | x::l=>.cons (h x) (rE h l)
def i8{H:Hp}{p:Addr}{n:Nat}{f:Nat->Bool}(h:H p=some (.lst (aQ n f))):aW H 1 (.ref p) (.list (dB n f)):=
 .inr ⟨p,aQ n f,dB n f,rfl,.inr ⟨h,rfl⟩,rE (λi=>(rfl:f i=f i)) _⟩
def tm{α:Type}(f g:α->Bool):∀l:List α,PyData.eqvAll (l.map λi=>PyData.bool (f i)) (l.map λi=>PyData.bool (g i))=l.all λi=>f i == g i
 | []=>rfl
 | x::l=>by show(PyData.eqv (.bool (f x)) (.bool (g x)) && PyData.eqvAll (l.map λi=>PyData.bool (f i)) (l.map λi=>PyData.bool (g i)))=((f x == g x) && l.all λi=>f i == g i);rw[tm f g l];rfl
def iV{n:Nat}{f g:Nat->Bool}:PyData.eqv (.list (dB n f)) (.list (dB n g))=true↔∀i,i<n->f i=g i:=by show PyData.eqvAll (dB n f) (dB n g)=true↔_;unfold dB;rw[tm,Gj];simp only[List.mem_range,beq_iff_eq]
def BY{n d:Nat}{g:Nat->Bool}(hd:d<=n)(hz:n % d=0):PyData.eqv (.list (dB (n-d) λk=>g (d+k))) (.list (dB (n-d) g))=true↔Alike g 0 n d:=by
 rw[iV];constructor
 ·intro h;refine⟨hz,λi hi=>?_⟩;have:=h i (by omega);rw[show 0+i+d=d+i by omega,this,Nat.zero_add]
 ·intro h i hi;have:=h.2 i (by omega);rw[show 0+i+d=d+i by omega,Nat.zero_add]at this;exact this
def vj(K:FD):Sp:=λvs H Q _=>∃(p:Addr) (n:Nat) (g:Nat->Bool),vs=[.ref p]/\1<=n/\n<=20000/\H p=some (.lst (aQ n g)) ∧
 ∀(d:Nat) H',Ext H H'->1<=d->d<=n->Alike g 0 n d->(∀e,1<=e->e<d->¬Alike g 0 n e)->Q (.int d) H'
abbrev oA:Stmt:=stq 23
def yg:FnScope ["turn","whole","step"] ["turn"] (aA oA):=⟨rfl,rfl,rfl,by decide +kernel,rfl,by decide +kernel,by decide +kernel⟩
def Dc{P:Program}{w:World}{K:FD}{mg:Str->Option Value}{base:Heap}(D:Dfn K mg "least_step" oA ["turn"])(T:Blt mg):Cal P w K mg base "least_step" 1 ["turn"] (vj K):=by
 have nd:=(yg).nd;refine D.ok yg (λvs H Q E h=>?_) (λX hX H vs Q E h=>?_)
 ·obtain⟨p,n,g,rfl,_⟩:=h;rfl
 ·obtain⟨f,cdv,A,outer,s,H0,E0,rfl,hr⟩:=hX;obtain⟨p,n,g,rfl,hn1,hn2,hp,q⟩:=h;refine⟨_,(ai (aM (i:=1) nd rfl (Or.inl rfl) (bq (dD K) rfl T.len_ PySem.boot_len (aa (pv 0) ae)))
    (ai (aM (i:=2) nd rfl (Or.inl rfl) af)
    (ai (jj PassesOwn.never (PW.pt (dn (aT dG (av cj (pv 1) (pv 2)) af (aP _)) (eo (aT (xE hr) (gj (jw K) (pv 0) (fF (pv 2)) gO) (gj (jw K) (pv 0) gO (fF (av cU (pv 1) (pv 2)))) (aP _))))) (aj (pY (i:=2) nd rfl (Or.inl rfl) af ug)))
    (aj (aG (pv 2)))))),?_⟩
  walk_at"";refine gC (ag.of hp) ?_;rw[cO];walk_at"";refine jH (λm σ H'=>Ext H H'/\∃d:Nat,σ=[some (.ref p),some (.int n),some (.int d)]/\1<=d/\d<=n/\m=n-d/\∀e,1<=e->e<d->¬Alike g 0 n e)
   (λσ H'=>Ext H H'/\∃d:Nat,σ=[some (.ref p),some (.int n),some (.int d)]/\1<=d/\d<=n/\Alike g 0 n d/\∀e,1<=e->e<d->¬Alike g 0 n e) (n-1)
   ⟨Ext.rfl' H,1,rfl,F5 _,hn1,rfl,λe h1 h2=>by omega⟩ ?_ ?_
  rotate_left
  ·rintro σ H' ⟨e,d,rfl,h1,h2,ha,hf⟩;walk_at"";exact q d H' e h1 h2 ha hf
  rintro m σ H' ⟨e,d,rfl,h1,h2,rfl,hf⟩;have hp':=e _ _ hp;have hmod:((n:Int) % (d:Int)=0)↔n % d=0:=by have:(n:Int) % (d:Int)=((n % d:Nat):Int):=rfl;omega
  have next:∀H2,Ext H' H2->¬Alike g 0 n d->∃m',m'<n-d/\Ext H H2/\∃d':Nat,[some (V.ref p),some (V.int n),some (V.int ((d:Int)+1))]=[some (V.ref p),some (V.int n),some (V.int d')]/\1<=d'/\d'<=n/\m'=n-d'/\∀e,1<=e->e<d'->¬Alike g 0 n e:=by
   intro H2 e2 hna;have hlt:d<n:=by
    rcases Gw d n with h|h
    ·exact h
    ·have:d=n:=by omega
     subst this;exact absurd ⟨Nat.mod_self d,λi hi=>by omega⟩ hna
   refine⟨n-(d+1),by omega,e.trans e2,d+1,rfl,by omega,by omega,rfl,λe' h3 h4=>?_⟩;rcases Gw e' d with h5|h5
   ·exact hf e' h3 h5
   ·have:e'=d:=by omega
    subst this;exact hna
  walk_at"";by_cases hz:(n:Int) % (d:Int)=0
  ·rw[GF hz];refine aq ?_;walk_at"";refine jD (ag.of hp') (cM λp1 H1 e1 hp1 _=>?_);walk_at"";refine jD (ag.of (e1 _ _ hp')) (cM λp2 H2 e2 hp2 _=>?_);rw[tZ (by omega) (by omega),FV]at hp1;rw[Ci (by omega) (by omega),show ((n:Int)-(d:Int)).toNat=n-d by omega]at hp2;refine⟨1,1,_,_,i8 (e2 _ _ hp1),i8 hp2,by decide,?_⟩;walk_at"";have hal:=BY (g:=g) h2 (hmod.mp hz);cases hc:PyData.eqv (.list (dB (n-d) λk=>g (d+k))) (.list (dB (n-d) g))with
   | true=>
    exact aq ⟨e.trans (e1.trans e2),d,rfl,h1,h2,hal.mp hc,hf⟩
   | false=>
    refine ax ⟨_,λ_ _ h=>h,?_⟩;walk_at"";exact next H2 (e1.trans e2) λh=>by rw[hal.mpr h]at hc;cases hc
  ·rw[GD hz];refine ax (ax ⟨_,λ_ _ h=>h,?_⟩);walk_at"";exact next H' (Ext.rfl' H') λh=>hz (hmod.mpr h.1)
def sP{f:Nat->Bool}{b n d:Nat}:Alike (λk=>f (b+k)) 0 n d↔Alike f b n d:=by unfold Alike;simp only[Nat.zero_add,Nat.add_assoc]
def yc(K:FD):Sp:=λvs H Q _=>∃(p:Addr) (b n:Nat) (f:Nat->Bool),vs=[.ref p,.int b]/\1<=n/\b+n<=20000/\H p=some (.lst (aQ (b+n) f))/\bw f b n ∧
 ∀v (l d:Nat) H',Ext H H'->Least f d l->l<=b->d<=n->dg H' v l d (row f 0 l) (row f l d)->Q v H'
abbrev mx:Stmt:=stq 24
def xa:FnScope ["marks","base","step","low","once","again"] ["marks","base"] (aA mx):=⟨rfl,rfl,rfl,by decide +kernel,rfl,by decide +kernel,by decide +kernel⟩
def DG{P:Program}{w:World}{K:FD}{mg:Str->Option Value}{base:Heap}(D:Dfn K mg "stair_of_marks" mx ["marks","base"])(T:Blt mg)(C_least_step:Cal P w K mg base "least_step" 1 ["turn"] (vj K)):Cal P w K mg base "stair_of_marks" 2 ["marks","base"] (yc K):=by
 have nd:=(xa).nd;refine D.ok xa (λvs H Q E h=>?_) (λX hX H vs Q E h=>?_)
 ·obtain⟨p,b,n,f,rfl,_⟩:=h;rfl
 ·obtain⟨f,cdv,A,outer,s,H0,E0,rfl,hr⟩:=hX;obtain⟨p,b,n,g,rfl,hn1,hbn,hp,hper,q⟩:=h;refine⟨_,(ai (aM (i:=2) nd rfl (Or.inl rfl) (aD C_least_step hr (aa (gj (jw K) (pv 0) (fF (pv 1)) gO) ae)))
    (ai (aM (i:=3) nd rfl (Or.inl rfl) (pv 1))
    (ai (jj PassesOwn.never (PW.pt (wc (aT fK (pv 3) af (aP _)) (yC (aT bX (ah (aF K) (pv 0) (av cU (pv 3) af) (λ_ _=>rfl)) (ah (aF K) (pv 0) (av aY (av cU (pv 3) af) (pv 2)) (λ_ _=>rfl)) (aP _))))) (aj (pY (i:=3) nd rfl (Or.inl rfl) af CT)))
    (ai (iU (i:=4) ["number"] [0] nd rfl (Or.inl rfl) (cB rfl T.range_ (aa (pv 3) ae)) (λ_=>(aS (i:=0) (show(["number","marks"]:List Str).Nodup from by decide +kernel) rfl (Or.inl rfl) (Or.inr rfl))) (λ_=>(fo (bE (ah (aF K) (pv 1) (pv 0) (λ_ _=>rfl))))) (λ_=>(pv 0)))
    (ai (iU (i:=5) ["number"] [0] nd rfl (Or.inl rfl) (Fm rfl T.range_ (aa (pv 3) (aa (av aY (pv 3) (pv 2)) ae))) (λ_=>(aS (i:=0) (show(["number","marks"]:List Str).Nodup from by decide +kernel) rfl (Or.inl rfl) (Or.inr rfl))) (λ_=>(fo (bE (ah (aF K) (pv 1) (pv 0) (λ_ _=>rfl))))) (λ_=>(pv 0)))
    (aj (aG (aR (aa (pv 3) (aa (pv 2) (aa (iM (lV K) rfl T.tuple_ PyProof.Rows.boot_tuple (aa (pv 4) ae)) (aa (iM (lV K) rfl T.tuple_ PyProof.Rows.boot_tuple (aa (pv 5) ae)) ae)))))))))))),?_⟩
  walk_at"";refine jD (ag.of hp) (cM λp1 H1 e1 hp1 _=>?_);rw[tZ (by omega) (by omega),FV,show b+n-b=n by omega]at hp1;walk_at"";refine⟨p1,n,_,rfl,hn1,by omega,hp1,λd H2 e2 hd1 hd2 hal hfirst=>?_⟩;have hal':=sP.mp hal;have hfirst':∀e,1<=e->e<d->¬Alike g b n e:=λe h3 h4 h5=>hfirst e h3 h4 (sP.mpr h5);have e02:Ext H H2:=e1.trans e2;have hp2:=e02 _ _ hp;walk_at"";refine jH (λm σ H'=>H'=H2/\∃l:Nat,σ=[some (.ref p),some (.int b),some (.int d),some (.int l),none,none]/\l<=b/\m=l/\∀x,l<=x->x<b->g x=g (x+d))
   (λσ H'=>H'=H2/\∃l:Nat,σ=[some (.ref p),some (.int b),some (.int d),some (.int l),none,none]/\l<=b/\(∀x,l<=x->x<b->g x=g (x+d))/\(l=0\/g (l-1)≠g (l-1+d))) b
   ⟨rfl,b,rfl,F5 _,rfl,λx h1 h2=>by omega⟩ ?_ ?_
  ·rintro m σ H' ⟨rfl,l,rfl,hl,rfl,hdown⟩;walk_at"";by_cases h0:(0:Int)<(m:Int)
   ·rw[GF h0];refine ax ?_;walk_at"";refine aE (ag.of hp2) (dw (by omega) (by omega)) ?_;walk_at"";refine aE (ag.of hp2) (dw (by omega) (by omega)) ?_;walk_at"";rw[show ((m:Int)-1).toNat=m-1 by omega,show ((m:Int)-1+(d:Int)).toNat=m-1+d by omega];cases hc:g (m-1) == g (m-1+d)with
    | true=>
     refine ax ⟨_,λ_ _ h=>h,?_⟩;walk_at"";refine⟨m-1,by omega,rfl,m-1,by rw[show ((m-1:Nat):Int)=(m:Int)-1 by omega];rfl,by omega,rfl,λx h1 h2=>?_⟩;rcases Gw x m with h3|h3
     ·have:x=m-1:=by omega
      rw[this];exact eq_of_beq hc
     ·exact hdown x h3 h2
    | false=>exact aq ⟨rfl,m,rfl,hl,hdown,.inr λh=>by rw[h]at hc;simp at hc⟩
   ·rw[GD h0];exact aq (aq ⟨rfl,m,rfl,hl,hdown,.inl (by omega)⟩)
  rintro σ H' ⟨rfl,l,rfl,hl,hdown,hstop⟩;have hleast:Least g d l:=zy hper hn1 hd1 hal' hfirst' hl hdown hstop;walk_at"";refine ck (by omega) ?_;rw[FV];refine fg (λi ys H3=>H3=H'/\ys=(row g 0 i).map V.int) (bI (by omega)) ⟨rfl,rfl⟩ ?_ ?_ ?_
  ·rintro i ys H3 _ ⟨rfl,rfl⟩;rw[FH];exact qc g 0 i
  ·rintro i ys H3 hi ⟨rfl,hy⟩;walk_at"";refine aE (ag.of hp2) (dw (by omega) (by omega)) ?_;walk_at"";rw[show ((0:Int)+(i:Int)).toNat=i by omega];have e0:g (0+i)=g i:=by rw[Nat.zero_add]
   cases hg:g i with
   | true=>
    refine ax ?_;walk_at"";refine⟨rfl,?_⟩;rw[←ow hy (e0.trans hg)];congr 3
    all_goals omega
   | false=>exact aq ⟨rfl,lX hy (e0.trans hg)⟩
  rintro ys H3 p3 ⟨rfl,rfl⟩ hp3;have e4:Ext H3 (upd H3 p3 (.lst ((row g 0 l).map V.int))):=bS hp3;have h4:(upd H3 p3 (.lst ((row g 0 l).map V.int))) p3=_:=aN;generalize upd H3 p3 (.lst ((row g 0 l).map V.int))=H4 at e4 h4;have hp4:=e4 _ _ hp2;walk_at"";refine CN (by omega) ?_;rw[show ((l:Int)+(d:Int)-(l:Int)).toNat=d by omega];refine fg (λi ys H5=>H5=H4/\ys=(row g l i).map V.int) (bI (by omega)) ⟨rfl,rfl⟩ ?_ ?_ ?_
  ·rintro i ys H5 _ ⟨rfl,rfl⟩;rw[FH];exact qc g _ i
  ·rintro i ys H5 hi ⟨rfl,hy⟩;walk_at"";refine aE (ag.of hp4) (dw (by omega) (by omega)) ?_;walk_at"";rw[show ((l:Int)+(i:Int)).toNat=l+i by omega];cases hg:g (l+i)with
   | true=>
    refine ax ?_;walk_at"";refine⟨rfl,?_⟩;rw[←ow hy hg];congr 3
    all_goals omega
   | false=>exact aq ⟨rfl,lX hy hg⟩
  rintro ys H5 p5 ⟨rfl,rfl⟩ hp5;have e6:Ext H5 (upd H5 p5 (.lst ((row g l d).map V.int))):=bS hp5;have h6:(upd H5 p5 (.lst ((row g l d).map V.int))) p5=_:=aN;generalize upd H5 p5 (.lst ((row g l d).map V.int))=H6 at e6 h6;walk_at"";refine lT (ag.of (e6 _ _ h4)) (cM λt1 H7 e7 ht1 _=>?_);walk_at"";refine lT (ag.of (e7 _ _ h6)) (cM λt2 H8 e8 ht2 _=>?_);walk_at"";refine aw λt H9 e9 ht _=>?_;exact q _ l d H9 (e02.trans (e4.trans (e6.trans (e7.trans (e8.trans e9))))) hleast hl hd2 ⟨t,t1,t2,rfl,ht,e9 _ _ (e8 _ _ ht1),e9 _ _ ht2⟩
open Classical in
def iD(n:Nat)(R:Nat->Nat->Prop)(f:Nat->Bool):Nat->Bool:=λj=>decide (∃i,i<n/\f i=true/\R i j)
def jr{n:Nat}{R:Nat->Nat->Prop}{f:Nat->Bool}{j:Nat}:iD n R f j=true↔∃i,i<n/\f i=true/\R i j:=by unfold iD;simp
def bz(n:Nat)(R:Nat->Nat->Prop)(f:Nat->Bool):Nat->Nat->Bool
 | 0=>f
 | k+1=>iD n R (bz n R f k)
def dZ(n:Nat)(f g:Nat->Bool):Prop:=∀j,j<n->f j=g j
def zZ{n:Nat}{R:Nat->Nat->Prop}{f g:Nat->Bool}(h:dZ n f g):dZ n (iD n R f) (iD n R g):=λj _=>by
 rw[Gm,jr,jr];constructor
 ·rintro⟨i,hi,h1,h2⟩;exact⟨i,hi,by rw[←h i hi];exact h1,h2⟩
 ·rintro⟨i,hi,h1,h2⟩;exact⟨i,hi,by rw[h i hi];exact h1,h2⟩
def vf{n:Nat}{R:Nat->Nat->Prop}{f:Nat->Bool}{a k:Nat}(h:dZ n (bz n R f a) (bz n R f k)):∀t,dZ n (bz n R f (a+t)) (bz n R f (k+t))
 | 0=>h
 | t+1=>zZ (vf h t)
def eV(f:Nat->Bool):Nat->Nat
 | 0=>0
 | n+1=>eV f n+if f n then 2 ^ n else 0
def kJ(f:Nat->Bool):∀n,eV f n<2 ^ n
 | 0=>by simp[eV]
 | n+1=>by
  have:=kJ f n;have h2:2 ^ (n+1)=2 ^ n+2 ^ n:=by rw[Nat.pow_succ];omega
  show eV f n+(if f n then 2 ^ n else 0)<_;split<;>omega
def wb{f g:Nat->Bool}:∀n,eV f n=eV g n->dZ n f g
 | 0,_=>λj hj=>absurd hj (Nat.not_lt_zero _)
 | n+1,h=>by
  have h1:=kJ f n;have h2:=kJ g n;have h':eV f n+(if f n then 2 ^ n else 0)=eV g n+(if g n then 2 ^ n else 0):=h;have key:f n=g n/\eV f n=eV g n:=by cases hf:f n<;>cases hg:g n<;>simp[hf,hg]at h' ⊢<;>omega
  intro j hj;by_cases hjn:j<n
  ·exact wb n key.2 j hjn
  ·have:j=n:=by omega
   subst this;exact key.1
def vd{n k:Nat}{F:Nat->Nat->Bool}(hn:n<=12)(h:∀a b,a<b->b<k->¬dZ n (F a) (F b)):k<=4096:=by
 have h1:=Bfs.ij 4096 ((GC k).map λa=>eV (F a) n) (by
  rw[List.nodup_iff_pairwise_ne,List.pairwise_map,List.pairwise_iff_getElem];intro i j hi hj hij e;simp at hi hj e;exact h i j hij hj (wb n e)) (λx hx=>by
  obtain⟨a,_,rfl⟩:=List.mem_map.mp hx;exact Gg (kJ (F a) n) (Gh (Nat.pow_le_pow_right (by omega) hn) (by decide)))
 simpa using h1
def fO(n:Nat)(R:Nat->Nat->Prop)(top:Nat)(M:Nat->Nat->Bool):Nat->Nat->Bool:=λi=>if i<top then M i else bz n R (M top) (i-top)
def AY{α:Type}{xs:List α}{k:Nat}(h:xs.length=k+1){v:α}(hv:xs[k]?=some v):bF xs (-1)=some v:=by unfold bF fb;rw[h,GG (by omega),GH (by omega)];show xs[(-1+((k+1:Nat):Int)).toNat]?=some v;rw[show (-1+((k+1:Nat):Int)).toNat=k by omega];exact hv
def DQ{xs:List V}{k:Nat}(h:xs.length=k+1):bW xs none (some (-1))=xs.take k:=by
 unfold bW;have e1:HT.aL xs.length xs.length (some (-1))=k:=by show(if(-1:Int)<0 then(-1+(xs.length:Int)).toNat else min (-1:Int).toNat xs.length)=_;rw[GH (by decide)];omega
 have e2:HT.aL xs.length 0 none=0:=rfl;rw[e1,e2];simp
def m5{H:Hp}{n:Nat}:∀{hs:List Addr} {F:Nat->Nat->Bool},(∀(a:Nat) (r:Addr),hs[a]?=some r->H r=some (.lst (aQ n (F a))))->Paired (aW H 1) (List.map V.ref hs) ((GC hs.length).map λa=>PyData.list (dB n (F a)))
 | [],_,_=>.nil
 | r::hs,F,h=>by rw[Ge,List.range_succ_eq_map,List.map_cons,List.map_cons,List.map_map];exact .cons (i8 (h 0 r rfl)) (m5 (F:=λa=>F (a+1)) λa r' hr=>h (a+1) r' (by simpa using hr))
def Dh{i x a:Nat}(h:x+a<=i):a+(i-x-a)=i-x:=by omega
def CC{i x a k:Nat}(h:x+a<=i)(ha:a<k+1):k+1+(i-x-a)=i+(k+1-a)-x:=by omega
def sQ{i x a c:Nat}(h:x+a<=i):¬i+c<x/\¬i<x:=by omega
def EG{x r h k a:Nat}(hr:r=x+1)(hh:h=k+1)(ha:a<k+1):min x r+h=x+a+(k+1-a):=by omega
def Bs{i x r:Nat}(hr:r=x+1):i-min x r=i-x:=by omega
def uF{x r:Nat}(hr:r=x+1):min x r=x:=by omega
def qT(K:FD):Sp:=λvs H Q _=>∃vh m ws pa x,vs=[vh,.ref pa]/\bh H vh m ws/\HOuse m ws/\aB H pa x/\bR m x/\dC K/\Tbs K H/\∀p lq rs (b N:Nat) M H',Et H H'->Tbs K H'->H' p=some (.tup [.ref lq,.int (b:Nat)])->Rows H' lq rs m.toNat (fO m.toNat (bj ws m.toNat) x.2.toNat M)->rs.length=b+N->1<=N->b+N<=5200->(∀r,r<m.toNat->bw (λi=>fO m.toNat (bj ws m.toNat) x.2.toNat M i r) b N) →
 (∀i r:Nat,(i:Int)<=x.2->(r:Int)<m->(M i r=true↔∃n,Bfs.Rw (LB ws m.toNat x.2) n x ((r:Int),(i:Int))))->Q (.ref p) H'
abbrev nG:Stmt:=stq 61
def sq:FnScope ["house","place","rises","low","high","level"] ["house","place"] (aA nG):=⟨rfl,rfl,rfl,by decide +kernel,rfl,by decide +kernel,by decide +kernel⟩
def Af{P:Program}{w:World}{K:FD}{mg:Str->Option Value}{base:Heap}(D:Dfn K mg "all_levels" nG ["house","place"])(T:Blt mg)(C_next_level:Cal P w K mg base "next_level" 1 ["rises","level"] (vg K))(C_low_levels:Cal P w K mg base "low_levels" 8 ["house","place"] (oP K))(C0_risen:Cal P w K mg base "risen" 7 ["house"] (λvs H Q _=>kQ K vs H Q E0)):Cal P w K mg base "all_levels" 9 ["house","place"] (qT K):=by
 have nd:=(sq).nd;refine D.ok sq (λvs H Q E h=>?_) (λX hX H vs Q E h=>?_)
 ·obtain⟨vh,m,ws,pa,x,rfl,_⟩:=h;rfl
 ·obtain⟨f,cdv,A,outer,s,H0,E0,rfl,hr⟩:=hX;obtain⟨vh,m,ws,pa,x,rfl,hv,ok,hpx,ix,dis,htb,q⟩:=h;have m1:=ok.m1;have m12:=ok.m12;obtain⟨i0,i1,i2,i3⟩:=id ix;refine⟨_,(ai (aM (i:=2) nd rfl (Or.inl rfl) (aD C0_risen hr (aa (pv 0) ae)))
    (ai (aM (i:=3) nd rfl (Or.inl rfl) (aD C_low_levels hr (aa (pv 0) (aa (pv 1) ae))))
    (ai (aM (i:=4) nd rfl (Or.inl rfl) (bo (aa (ah (aF K) (pv 3) (eM eE af) (λ_ _=>rfl)) ae)))
    (ai (aM (i:=5) nd rfl (Or.inl rfl) (aD C_next_level hr (aa (pv 2) (aa (ah (aF K) (pv 3) (eM eE af) (λ_ _=>rfl)) ae))))
    (ai (jj PassesOwn.never (aT (xY hr) (pv 5) (pv 4) (by with_unfolding_all rfl)) (ai (aZ (bC K FP F6 F7 bL (pv 4) (aa (pv 5) ae)))
    (aj (aM (i:=5) nd rfl (Or.inl rfl) (aD C_next_level hr (aa (pv 2) (aa (pv 5) ae)))))))
    (aj (aG (aR (aa (av qP (gj (jw K) (pv 3) gO (fF (eM eE af))) (pv 4)) (aa (av aY (ah (aH K) (pv 1) af (λ_ _=>rfl)) (bC K FP PySem.F.slot_list_index PySem.F.type_list_index (EF hr) (pv 4) (aa (pv 5) ae))) ae)))))))))),?_⟩
  walk_at"";refine⟨vh,rfl,.inr ⟨m,ws,hv,ok,dis,htb,λrl H1 e1 tb1 prs=>?_⟩⟩;walk_at"";refine⟨vh,m,ws,pa,x,rfl,hv.et e1,ok,hpx.et e1,ix,dis,tb1,λlq rs M H2 e2 tb2 rows hrl hM=>?_⟩;have prs2:=prs.et e2;have hpx2:=(hpx.et e1).et e2;have hrl':rs.length=x.2.toNat+1:=by omega
  have hlast:rs[x.2.toNat]?=some rs[x.2.toNat]:=FI (by omega);generalize rs[x.2.toNat]=r0 at hlast;have hr0:=rows.2 _ _ hlast;have hat:bF (List.map V.ref rs) (-1)=some (.ref r0):=AY (k:=x.2.toNat) (by rw[FH];exact hrl') (by rw[FJ,hlast];rfl);walk_at"";refine aE (ag.of rows.1) hat ?_;walk_at"";refine aw λhq H3 e3 hhq hhn=>?_;walk_at"";refine aE (ag.of (e3 _ _ rows.1)) hat ?_;walk_at"";refine⟨rl,r0,m.toNat,_,_,rfl,prs2.et e3.et,e3 _ _ hr0,by omega,λlv g H4 e4 hln hl4 hg=>?_⟩;have e24:=e3.trans e4;have hl4':H4 lv=some (.lst (aQ m.toNat (bz m.toNat (bj ws m.toNat) (M x.2.toNat) 1))):=by
   rw[hl4];congr 2;exact eU λj hj=>by rw[Gm];exact(hg j hj).trans jr.symm
  clear hl4 hg;walk_at"";refine jH (λmm σ H'=>∃hs lv k,Ext H2 H'/\H' hq=some (.lst (List.map V.ref hs))/\hs.length=k+1/\(∀(a:Nat) (r:Addr),hs[a]?=some r->H' r=some (.lst (aQ m.toNat (bz m.toNat (bj ws m.toNat) (M x.2.toNat) a))))/\(∀a b,a<b->b<k+1->¬dZ m.toNat (bz m.toNat (bj ws m.toNat) (M x.2.toNat) a) (bz m.toNat (bj ws m.toNat) (M x.2.toNat) b))/\H' lv=some (.lst (aQ m.toNat (bz m.toNat (bj ws m.toNat) (M x.2.toNat) (k+1))))/\mm=4097-k/\σ=[some vh,some (.ref pa),some (.ref rl),some (.ref lq),some (.ref hq),some (.ref lv)])
   (λσ H'=>∃hs lv k a,Ext H2 H'/\H' hq=some (.lst (List.map V.ref hs))/\hs.length=k+1/\(∀(a:Nat) (r:Addr),hs[a]?=some r->H' r=some (.lst (aQ m.toNat (bz m.toNat (bj ws m.toNat) (M x.2.toNat) a))))/\(∀a b,a<b->b<k+1->¬dZ m.toNat (bz m.toNat (bj ws m.toNat) (M x.2.toNat) a) (bz m.toNat (bj ws m.toNat) (M x.2.toNat) b))/\H' lv=some (.lst (aQ m.toNat (bz m.toNat (bj ws m.toNat) (M x.2.toNat) (k+1))))/\a<k+1/\dZ m.toNat (bz m.toNat (bj ws m.toNat) (M x.2.toNat) a) (bz m.toNat (bj ws m.toNat) (M x.2.toNat) (k+1))/\k+1<=4096/\σ=[some vh,some (.ref pa),some (.ref rl),some (.ref lq),some (.ref hq),some (.ref lv)])
   4097 ⟨[r0],lv,0,e24,e4 _ _ hhq,rfl,λa r ha=>by
    cases a with
    | zero=>cases ha;exact e24 _ _ hr0
    | succ a=>simp at ha,λa b h1 h2=>by omega,hl4',rfl,rfl⟩ ?_ ?_
  ·rintro mm σ H5 ⟨hs,lv,k,e5,hq5,hsl,hrow,hun,hlv,rfl,rfl⟩;have hk:=vd (F:=bz m.toNat (bj ws m.toNat) (M x.2.toNat)) (show m.toNat<=12 by omega) hun;have hrep:=m5 hrow;walk_at"";refine xm (i8 hlv) hq5 hrep (by omega) ?_;have hany:((GC hs.length).map λa=>PyData.list (dB m.toNat (bz m.toNat (bj ws m.toNat) (M x.2.toNat) a))).any (λe=>PyData.eqv e (.list (dB m.toNat (bz m.toNat (bj ws m.toNat) (M x.2.toNat) (k+1)))))=true↔∃a,a<k+1/\dZ m.toNat (bz m.toNat (bj ws m.toNat) (M x.2.toNat) a) (bz m.toNat (bj ws m.toNat) (M x.2.toNat) (k+1)):=by
    rw[List.any_map,Gk,hsl];constructor
    ·rintro⟨a,ha,he⟩;exact⟨a,List.mem_range.mp ha,iV.mp he⟩
    ·rintro⟨a,ha,he⟩;exact⟨a,List.mem_range.mpr ha,iV.mpr he⟩
   generalize ((GC hs.length).map λa=>PyData.list (dB m.toNat (bz m.toNat (bj ws m.toNat) (M x.2.toNat) a))).any (λe=>PyData.eqv e (.list (dB m.toNat (bz m.toNat (bj ws m.toNat) (M x.2.toNat) (k+1)))))=bb at hany ⊢;cases bb with
   | true=>
    obtain⟨a,ha,hsame⟩:=hany.mp rfl;refine⟨_,rfl,aq ?_⟩;exact⟨hs,lv,k,a,e5,hq5,hsl,hrow,hun,hlv,ha,hsame,hk,rfl⟩
   | false=>
    have hno:∀a,a<k+1->¬dZ m.toNat (bz m.toNat (bj ws m.toNat) (M x.2.toNat) a) (bz m.toNat (bj ws m.toNat) (M x.2.toNat) (k+1)):=λa ha hs=>by have:=hany.mpr ⟨a,ha,hs⟩;cases this
    have hun2:∀a b,a<b->b<k+1+1->¬dZ m.toNat (bz m.toNat (bj ws m.toNat) (M x.2.toNat) a) (bz m.toNat (bj ws m.toNat) (M x.2.toNat) b):=λa b hab hb=>by
     by_cases hbk:b<k+1
     ·exact hun a b hab hbk
     ·have:b=k+1:=by omega
      subst this;exact hno a hab
    have hk2:=vd (F:=bz m.toNat (bj ws m.toNat) (M x.2.toNat)) (show m.toNat<=12 by omega) hun2;refine⟨_,rfl,ax ⟨λσ' H'=>∃hs lv,Ext H2 H'/\H' hq=some (.lst (List.map V.ref hs))/\hs.length=k+1+1/\(∀(a:Nat) (r:Addr),hs[a]?=some r->H' r=some (.lst (aQ m.toNat (bz m.toNat (bj ws m.toNat) (M x.2.toNat) a))))/\H' lv=some (.lst (aQ m.toNat (bz m.toNat (bj ws m.toNat) (M x.2.toNat) (k+1+1))))/\σ'=[some vh,some (.ref pa),some (.ref rl),some (.ref lq),some (.ref hq),some (.ref lv)],λσ' H' ⟨hs,lv,a1,a2,a3,a4,a5,a6⟩=>⟨4097-(k+1),by omega,hs,lv,k+1,a1,a2,a3,a4,hun2,a5,rfl,a6⟩,?_⟩⟩;have nqr:∀r∈hs++[lv],r≠hq:=λr hr z=>by
     have hb:∃f,H5 r=some (.lst (aQ m.toNat f)):=by
      rcases F8.mp hr with h|h
      ·obtain⟨j,hj⟩:=Gx h;exact⟨_,hrow j r hj⟩
      ·rw[FT.mp h];exact⟨_,hlv⟩
     obtain⟨f,hb⟩:=hb;rw[z,hq5]at hb;have h2:List.map V.ref hs=aQ m.toNat f:=by
      injection hb with hb
      injection hb
     have h3:=congrArg (λz:List V=>z[0]?) h2
     try dsimp only at h3
     rw[fR _ (by omega),FJ]at h3;cases y:hs[0]? with
     | none=>rw[y]at h3;cases h3
     | some a=>rw[y]at h3;cases h3
    walk_at"";refine⟨cH (ag.of hq5),?_⟩;walk_at"";refine bT hq5 (mC (by rw[FH];omega)) ?_;have hn2:H2 hq=none:=hhn;have e6:=cR (o:=.lst (List.map V.ref hs++[.ref lv])) e5 hn2;have keep:∀b o,b≠hq->H5 b=some o->upd H5 hq (.lst (List.map V.ref hs++[.ref lv])) b=some o:=λb o nb e=>by rw[aC nb];exact e
    have hq6:upd H5 hq (.lst (List.map V.ref hs++[.ref lv])) hq=some (.lst (List.map V.ref (hs++[lv]))):=by rw[aN,FZ];rfl
    have hlv6:=keep lv _ (nqr lv (by simp)) hlv;have hrow6:∀(a:Nat) (r:Addr),(hs++[lv])[a]?=some r->upd H5 hq (.lst (List.map V.ref hs++[.ref lv])) r=some (.lst (aQ m.toNat (bz m.toNat (bj ws m.toNat) (M x.2.toNat) a))):=λa r ha=>by
     by_cases hal:a<hs.length
     ·rw[Ga hal]at ha;exact keep r _ (nqr r (Gs _ (FR ha))) (hrow a r ha)
     ·rw[F9 (by omega)]at ha;have hz:a-hs.length=0:=by have:=(FQ.mp ha).1;simp at this;omega
      rw[hz]at ha;cases ha;have:a=k+1:=by omega
      subst this;exact hlv6
    generalize upd H5 hq (.lst (List.map V.ref hs++[.ref lv]))=H6 at e6 hq6 hlv6 hrow6 ⊢;walk_at"";refine⟨rl,lv,m.toNat,_,_,rfl,prs2.et e6.et,hlv6,by omega,λlv2 g2 H7 e7 _ hl7 hg2=>?_⟩;walk_at"";refine⟨hs++[lv],lv2,e6.trans e7,e7 _ _ hq6,by rw[F0,hsl];rfl,λa r ha=>e7 _ _ (hrow6 a r ha),?_,rfl⟩;rw[hl7];congr 2;exact eU λj hj=>by rw[Gm];exact(hg2 j hj).trans jr.symm
  ·rintro σ H5 ⟨hs,lv,k,a,e5,hq5,hsl,hrow,hun,hlv,ha,hsame,hk,rfl⟩;have rows5:=rows.ext e5;walk_at"";refine jD (ag.of rows5.1) (cM λlo H6 e6 hlo _=>?_);rw[DQ (k:=x.2.toNat) (by rw[FH];exact hrl')]at hlo;walk_at"";refine oU hlo (e6 _ _ hq5) (bI (by simp;omega)) (cM λll H7 e7 hll _=>?_);have e57:=e6.trans e7;walk_at"";refine aI (ao.of (e57 _ _ (e5 _ _ hpx2))) (v:=.int x.2) rfl ?_;walk_at"";have hrow7:∀(a:Nat) (r:Addr),hs[a]?=some r->H7 r=some (.lst (aQ m.toNat (bz m.toNat (bj ws m.toNat) (M x.2.toNat) a))):=λa r h=>e57 _ _ (hrow a r h);refine⟨cH (ag.of (e57 _ _ hq5)),?_⟩;walk_at"";refine⟨1,hq,_,.ref lv,_,_,a,rfl,rfl,i8 (e57 _ _ hlv),e57 _ _ hq5,m5 hrow7,by omega,⟨_,by rw[FJ,List.getElem?_range (by omega)];rfl,iV.mpr hsame⟩,λb e hb he=>?_,by omega,?_⟩
   ·rw[FJ,List.getElem?_range (by omega)]at he;cases he;rw[Bool.eq_false_iff];intro hc;have:=iV.mp hc;exact hun b a hb ha λj hj=>(this j hj).trans (hsame j hj).symm
   walk_at"";refine aw λpp H8 e8 hpp _=>?_;have e28:=e5.trans (e57.trans e8);refine q pp ll (rs.take x.2.toNat++hs) (x.2.toNat+a) (k+1-a) M H8 ((e1.trans e2).trans e28.et) (tb2.ext e28) ?_ ⟨?_,λi r hi=>?_⟩ ?_ (by omega) (by omega) (λr hr=>?_) hM
   ·rw[hpp];congr 3;congr 2;omega
   ·rw[e8 _ _ hll,FZ,List.map_take]
   ·unfold fO;by_cases hix:i<x.2.toNat
    ·rw[GH hix];rw[Ga (by rw[Gz,uF hrl'];exact hix),List.getElem?_take_of_lt hix]at hi;exact e28 _ _ (rows.2 i r hi)
    ·rw[GG hix];rw[F9 (by rw[Gz,uF hrl'];exact Nat.le_of_not_lt hix),Gz,Bs hrl']at hi;exact e8 _ _ (hrow7 _ _ hi)
   ·rw[F0,Gz];exact EG hrl' hsl ha
   ·intro i hi;show fO _ _ _ _ (i+(k+1-a)) r=fO _ _ _ _ i r;unfold fO;rw[GG (sQ hi).1,GG (sQ (c:=0) hi).2];have hp:=vf hsame (i-x.2.toNat-a) r hr;rw[Dh hi,CC hi ha]at hp;exact hp.symm
def xG{i d:Nat}(h:i+1<=d)(hn:d≠i+1):i+1+(d-1-(i+1))=d-1:=by omega
def eX(ws:List Way)(a b:Bfs.Pl):Prop:=∃w∈ws,cW w a.1 a.2=true/\b=(w.other,a.2+rz w.deed)
def bM(ws:List Way)(x y:Bfs.Pl):Prop:=∃n,Bfs.Rw (eX ws) n x y
def je{w:Way}{r n:Int}(hr:w.room=r)(h:w.deed = "up"\/w.deed = "stay"\/(w.deed = "down"/\0<n)\/(w.deed = "zero"/\n=0)):cW w r n=true:=by
 unfold cW;rw[GF hr,Bool.true_and];rcases h with h|h|⟨h,hn⟩|⟨h,hn⟩
 ·rw[h,GG (by decide +kernel)];have:decide ((Gp "up") = "zero")=false:=by decide +kernel
  rw[this];rfl
 ·rw[h,GG (by decide +kernel)];have:decide ((Gp "stay") = "zero")=false:=by decide +kernel
  rw[this];rfl
 ·rw[h,GH (by decide +kernel)];exact GF hn
 ·rw[h,GG (by decide +kernel),hn];simp
def iu{w:Way}{r n:Int}(hd:cI w.deed)(h:cW w r n=true):(w.deed = "up"/\rz w.deed=1)\/(w.deed = "stay"/\rz w.deed=0)\/(w.deed = "down"/\0<n/\rz w.deed = -1)\/(w.deed = "zero"/\n=0/\rz w.deed=0):=by
 unfold cW at h;rw[Gn]at h;rcases hd with hd|hd|hd|hd
 ·exact .inl ⟨hd,by rw[hd];exact kU⟩
 ·rw[hd,GH (by decide +kernel)]at h;exact .inr (.inr (.inl ⟨hd,of_decide_eq_true h.2,by rw[hd];exact lx⟩))
 ·exact .inr (.inl ⟨hd,by rw[hd];exact mK⟩)
 ·rw[hd,GG (by decide +kernel)]at h;have h2:decide ((Gp "zero") = "zero")=true:=by decide +kernel
  rw[h2]at h;refine .inr (.inr (.inr ⟨hd,?_,by rw[hd];exact xU⟩));simpa using h.2
def bM.refl{ws:List Way}{x:Bfs.Pl}:bM ws x x:=⟨0,.nil⟩
def bM.trans{ws:List Way}{x y z:Bfs.Pl}(h:bM ws x y)(g:bM ws y z):bM ws x z:=by obtain⟨n,h⟩:=h;obtain⟨k,g⟩:=g;exact⟨n+k,h.trans g⟩
def bM.one{ws:List Way}{x y:Bfs.Pl}(h:eX ws x y):bM ws x y:=⟨1,.snoc .nil h⟩
section
variable {m:Int} {ws:List Way} (ok:∀w∈ws,w.Ok m)
include ok
def fH{a b:Bfs.Pl}(h:eX ws a b)(ha:0<=a.2):0<=b.1/\b.1<m/\0<=b.2/\b.2<=a.2+1/\a.2<=b.2+1:=by obtain⟨w,hw,ho,rfl⟩:=h;have okw:=ok w hw;refine⟨okw.o0,okw.o1,?_⟩;rcases iu okw.dd ho with⟨_,h⟩|⟨_,h⟩|⟨_,h1,h⟩|⟨_,h1,h⟩<;>(show 0<=a.2+rz w.deed/\a.2+rz w.deed<=a.2+1/\a.2<=a.2+rz w.deed+1;omega)
def um{i j:Nat}(h:Kpt ws m.toNat i j):∀L:Int,0<=L->bM ws ((i:Int),L) ((j:Int),L):=by
 induction h with
 | refl _=>exact λ_ _=>.refl
 | @stay w hw hd=>
  intro L _;have okw:=ok w hw;have r0:=okw.r0;have o0:=okw.o0;refine .one ⟨w,hw,je (by show w.room=((w.room.toNat:Nat):Int);omega) (.inr (.inl hd)),?_⟩;rw[hd,mK];exact Prod.ext (by show((w.other.toNat:Nat):Int)=w.other;omega) (by show L=L+0;omega)
 | trans _ _ h1 h2=>exact λL hL=>(h1 L hL).trans (h2 L hL)
 | @arch u d hu hud hd hdd _ ih=>
  intro L hL;have oku:=ok u hu;have okd:=ok d hd;have u0:=oku.r0;have u1:=oku.o0;have d0:=okd.r0;have d1:=okd.o0;have s1:eX ws (((u.room.toNat:Nat):Int),L) (((u.other.toNat:Nat):Int),L+1):=⟨u,hu,je (by show u.room=((u.room.toNat:Nat):Int);omega) (.inl hud),by rw[hud,kU];exact Prod.ext (by show((u.other.toNat:Nat):Int)=u.other;omega) rfl⟩;have s2:eX ws (((d.room.toNat:Nat):Int),L+1) (((d.other.toNat:Nat):Int),L):=⟨d,hd,je (by show d.room=((d.room.toNat:Nat):Int);omega) (.inr (.inr (.inl ⟨hdd,by omega⟩))),by rw[hdd,lx];exact Prod.ext (by show((d.other.toNat:Nat):Int)=d.other;omega) (by show L=L+1 + -1;omega)⟩;exact((bM.one s1).trans (ih (L+1) (by omega))).trans (.one s2)
def uS:∀(n:Nat) (w:Nat->Bfs.Pl) (i:Nat) (L:Int),1<=L->(∀k,i<=k->k<i+n->eX ws (w k) (w (k+1)))->(∀k,i<=k->k<=i+n->L<=(w k).2)->(w i).2=L->(w (i+n)).2=L->0<=(w i).1->(w i).1<m->Kpt ws m.toNat (w i).1.toNat (w (i+n)).1.toNat:=by
 intro n;induction n using Nat.strongRecOn with
 | ind n ih=>
  intro w i L hL hS hh h0 h1 r0 r1;cases n with
  | zero=>exact .refl (by show(w i).1.toNat<m.toNat;omega)
  | succ n=>
   have s0:=hS i (F5 _) (by omega);have in1:=fH ok s0 (by omega);obtain⟨v,hv,ho,hw1⟩:=id s0;have okv:=ok v hv;have hroom:=hZ ho;have e1:(w (i+1)).1=v.other:=by rw[hw1]
   have e2:(w (i+1)).2=(w i).2+rz v.deed:=by rw[hw1]
   have hge:=hh (i+1) (by omega) (by omega);rcases iu okv.dd ho with⟨hd,hz⟩|⟨hd,hz⟩|⟨hd,_,hz⟩|⟨hd,h00,hz⟩
   ·obtain⟨d,hd1,hd2,hd3,hd4⟩:=Bfs.Ai (h:=λk=>(w k).2) (l:=L) (P:=i+1) (n:=i+(n+1)) (by omega) (λk hk1 hk2=>(fH ok (hS k (by omega) hk2) (by have:=hh k (by omega) (by omega);omega)).2.2.2.2) (by show(w (i+(n+1))).2<=L;omega) (by show L<=(w (i+1)).2;omega)
    try dsimp only at hd3 hd4
    have hdi:d≠i+1:=λz=>by rw[z]at hd3;omega
    have sd:=hS (d-1) (by omega) (by omega);rw[show d-1+1=d by omega]at sd;obtain⟨v2,hv2,ho2,hw2⟩:=id sd;have okv2:=ok v2 hv2;have hroom2:=hZ ho2;have f1:(w d).1=v2.other:=by rw[hw2]
    have f2:(w d).2=(w (d-1)).2+rz v2.deed:=by rw[hw2]
    have hgt:=hd4 (d-1) (by omega) (by omega);have hdown:v2.deed = "down"/\rz v2.deed = -1:=by
     rcases iu okv2.dd ho2 with⟨_,hz⟩|⟨_,hz⟩|⟨hd,_,hz⟩|⟨_,_,hz⟩
     ·omega
     ·omega
     ·exact⟨hd,hz⟩
     ·omega
    have inner:=ih (d-1-(i+1)) (by omega) w (i+1) (L+1) (by omega) (λk hk1 hk2=>hS k (by omega) (by omega)) (λk hk1 hk2=>by have:=hd4 k hk1 (by omega);omega) (by omega) (by rw[xG hd1 hdi];omega) in1.1 in1.2.1;rw[xG hd1 hdi,e1,←hroom2]at inner;have ar:=Kpt.arch hv hd hv2 hdown.1 inner;rw[hroom,←f1]at ar;have ind:=fH ok sd (by omega);have rest:=ih (i+(n+1)-d) (by omega) w d L hL (λk hk1 hk2=>hS k (by omega) (by omega)) (λk hk1 hk2=>hh k (by omega) (by omega)) hd3 (by rw[Nat.add_sub_of_le hd2];exact h1) ind.1 ind.2.1;rw[Nat.add_sub_of_le hd2]at rest;exact .trans ar rest
   ·have rest:=ih n (by omega) w (i+1) L hL (λk hk1 hk2=>hS k (by omega) (by omega)) (λk hk1 hk2=>hh k (by omega) (by omega)) (by omega) (by rw[show i+1+n=i+(n+1) by omega];exact h1) in1.1 in1.2.1;rw[show i+1+n=i+(n+1) by omega,e1]at rest;have st:=Kpt.stay (n:=m.toNat) hv hd;rw[hroom]at st;exact .trans st rest
   ·omega
   ·omega
def nY{w:Nat->Bfs.Pl}{n:Nat}(h0:0<=(w 0).1/\(w 0).1<m/\0<=(w 0).2)(hS:∀k,k<n->eX ws (w k) (w (k+1))):∀k,k<=n->0<=(w k).1/\(w k).1<m/\0<=(w k).2
 | 0,_=>h0
 | k+1,hk=>by have ih:=nY h0 hS k (by omega);have:=fH ok (hS k (by omega)) ih.2.2;exact⟨this.1,this.2.1,this.2.2.1⟩
def Fs{top:Int}{x:Bfs.Pl}(ht:0<=top)(hx:cL m top x){k:Nat}{y:Bfs.Pl}(h:Bfs.Rw (LB ws m.toNat top) k x y):bM ws x y/\cL m top y:=by
 induction h with
 | nil=>exact⟨.refl,hx⟩
 | @snoc n x y z _ hs ih=>
  obtain⟨hr,hy⟩:=ih hx;rcases hs with⟨w,hw,ho,rfl,hle⟩|⟨hty,i,j,hk,hyi,rfl⟩
  ·have st:eX ws y (w.other,y.2+rz w.deed):=⟨w,hw,ho,rfl⟩;have:=fH ok st hy.2.2.1;exact⟨hr.trans (.one st),this.1,this.2.1,this.2.2.1,hle⟩
  ·have hlt:=Kpt.lt ok hk;have hy2:y.2=top:=by have:=hy.2.2.2;omega
   have hs:=um ok hk top ht;have hye:y=((i:Int),top):=Prod.ext hyi hy2;rw[←hye]at hs;exact⟨hr.trans hs,by show(0:Int)<=(j:Int);omega,by show(j:Int)<m;omega,ht,Int.le_refl _⟩
def AK{top:Int}(ht:0<=top):∀(n:Nat) (w:Nat->Bfs.Pl),0<=(w 0).1->(w 0).1<m->(w 0).2=top->(∀k,k<n->eX ws (w k) (w (k+1)))->(w n).2<=top->∃k,Bfs.Rw (LB ws m.toNat top) k (w 0) (w n):=by
 intro n;induction n using Nat.strongRecOn with
 | ind n ih=>
  intro w h00 h01 h02 hS hle;cases n with
  | zero=>exact⟨0,.nil⟩
  | succ n=>
   have hin:=nY ok (w:=w) (n:=n+1) ⟨h00,h01,by omega⟩ hS;have sn:=hS n (by omega);have inn:=fH ok sn (hin n (by omega)).2.2;by_cases hz:(w n).2<=top
   ·obtain⟨k,hk⟩:=ih n (by omega) w h00 h01 h02 (λk hk=>hS k (by omega)) hz;obtain⟨v,hv,ho,he⟩:=sn;exact⟨k+1,.snoc hk (.inl ⟨v,hv,ho,he,hle⟩)⟩
   ·obtain⟨u,hu,hul,hui⟩:=Bfs.jZ (h:=λk=>(w k).2) (l:=top) n (λk hk=>(fH ok (hS k (by omega)) (hin k (by omega)).2.2).2.2.2.1) (by show(w 0).2<=top;omega) (by show top<=(w n).2;omega)
    try dsimp only at hul hui
    have hun:u≠n:=λz=>by rw[z]at hul;omega
    have su:=hS u (by omega);have inu:=fH ok su (hin u (by omega)).2.2;have hu1:=hui (u+1) (by omega) (by omega);obtain⟨v,hv,ho,hw1⟩:=id su;obtain⟨v2,hv2,ho2,hw2⟩:=id sn;have e1:(w (u+1)).1=v.other:=by rw[hw1]
    have e2:(w (u+1)).2=(w u).2+rz v.deed:=by rw[hw1]
    have f1:(w (n+1)).1=v2.other:=by rw[hw2]
    have f2:(w (n+1)).2=(w n).2+rz v2.deed:=by rw[hw2]
    have hup:v.deed = "up":=by
     rcases iu (ok v hv).dd ho with⟨hd,_⟩|⟨_,hz⟩|⟨_,_,hz⟩|⟨_,_,hz⟩
     ·exact hd
     ·omega
     ·omega
     ·omega
    have hdn:v2.deed = "down":=by
     rcases iu (ok v2 hv2).dd ho2 with⟨_,hz⟩|⟨_,hz⟩|⟨hd,_,_⟩|⟨_,_,hz⟩
     ·omega
     ·omega
     ·exact hd
     ·omega
    have hin1:=hin (u+1) (by omega);have inner:=uS ok (n-(u+1)) w (u+1) (top+1) (by omega) (λk hk1 hk2=>hS k (by omega)) (λk hk1 hk2=>by have:=hui k (by omega) (by omega);omega) (by omega) (by rw[show u+1+(n-(u+1))=n by omega];omega) hin1.1 hin1.2.1;rw[show u+1+(n-(u+1))=n by omega,e1,←hZ ho2]at inner;have ar:=Kpt.arch hv hup hv2 hdn inner;rw[hZ ho,←f1]at ar;obtain⟨k,hk⟩:=ih u (by omega) w h00 h01 h02 (λk hk=>hS k (by omega)) (by omega);have hinu:=hin u (by omega);have hinn:=hin (n+1) (by omega);refine⟨k+1,.snoc hk (.inr ⟨by omega,_,_,ar,by omega,?_⟩)⟩;exact Prod.ext (by show(w (n+1)).1=(((w (n+1)).1.toNat:Nat):Int);omega) (by show(w (n+1)).2=top;omega)
def Cj{top:Int}{x:Bfs.Pl}(ht:0<=top)(hx:cL m top x)(hx2:x.2=top){y:Bfs.Pl}(hy:y.2<=top):(∃n,Bfs.Rw (LB ws m.toNat top) n x y)↔bM ws x y:=by
 constructor
 ·rintro⟨n,h⟩;exact(Fs ok ht hx h).1
 ·rintro⟨n,h⟩;obtain⟨w,w0,wn,hS⟩:=h.fn;have:=AK ok ht n w (by rw[w0];exact hx.1) (by rw[w0];exact hx.2.1) (by rw[w0];exact hx2) hS (by rw[wn];exact hy);rw[w0,wn]at this;exact this
def xV{x:Bfs.Pl}(hx:0<=x.1/\x.1<m/\0<=x.2){i r:Nat}(hi:x.2<=(i:Int)):bM ws x ((r:Int),((i+1:Nat):Int))↔∃p,p<m.toNat/\bM ws x ((p:Int),(i:Int))/\bj ws m.toNat p r:=by
 constructor
 ·rintro⟨n,h⟩;obtain⟨w,w0,wn,hS⟩:=h.fn;have hin:=nY ok (w:=w) (n:=n) (by rw[w0];exact hx) hS;have wn2:(w n).2=(i:Int)+1:=by rw[wn];show((i+1:Nat):Int)=_;omega
  obtain⟨u,hu,hul,hui⟩:=Bfs.jZ (h:=λk=>(w k).2) (l:=(i:Int)) n (λk hk=>(fH ok (hS k hk) (hin k (by omega)).2.2).2.2.2.1) (by show(w 0).2<=(i:Int);rw[w0];exact hi) (by show(i:Int)<=(w n).2;omega)
  try dsimp only at hul hui
  have hun:u≠n:=λz=>by rw[z]at hul;omega
  have su:=hS u (by omega);have hu1:=hui (u+1) (by omega) (by omega);obtain⟨v,hv,ho,hw1⟩:=id su;have e1:(w (u+1)).1=v.other:=by rw[hw1]
  have e2:(w (u+1)).2=(w u).2+rz v.deed:=by rw[hw1]
  have hup:v.deed = "up"/\rz v.deed=1:=by
   rcases iu (ok v hv).dd ho with⟨hd,hz⟩|⟨_,hz⟩|⟨_,_,hz⟩|⟨_,_,hz⟩
   ·exact⟨hd,hz⟩
   ·omega
   ·omega
   ·omega
  have hin1:=hin (u+1) (by omega);have hinu:=hin u (by omega);have inner:=uS ok (n-(u+1)) w (u+1) ((i:Int)+1) (by omega) (λk hk1 hk2=>hS k (by omega)) (λk hk1 hk2=>by have:=hui k (by omega) (by omega);omega) (by omega) (by rw[show u+1+(n-(u+1))=n by omega];exact wn2) hin1.1 hin1.2.1;rw[show u+1+(n-(u+1))=n by omega,e1,show (w n).1.toNat=r by rw[wn];exact FV r]at inner;refine⟨(w u).1.toNat,by omega,⟨u,?_⟩,v,hv,hup.1,by rw[hZ ho],inner⟩;have seg:=Bfs.ze (S:=eX ws) (w:=w) (i:=0) (j:=u) (by omega) (λk _ hk=>hS k (by omega));rw[w0,Nat.sub_zero]at seg;have hwu:w u=((((w u).1.toNat:Nat):Int),(i:Int)):=Prod.ext (by show(w u).1=(((w u).1.toNat:Nat):Int);omega) hul;rw[hwu]at seg;exact seg
 ·rintro⟨p,hp,hr,v,hv,hd,hroom,hk⟩;have okv:=ok v hv;have r0:=okv.r0;have o0:=okv.o0;have st:eX ws ((p:Int),(i:Int)) (((v.other.toNat:Nat):Int),(i:Int)+1):=⟨v,hv,je (by show v.room=((p:Nat):Int);omega) (.inl hd),by rw[hd,kU];exact Prod.ext (by show((v.other.toNat:Nat):Int)=v.other;omega) rfl⟩;have hs:=um ok hk ((i:Int)+1) (by omega);have:=(hr.trans (.one st)).trans hs;rw[show ((i+1:Nat):Int)=(i:Int)+1 by omega];exact this
def zp{x:Bfs.Pl}(hx:0<=x.1/\x.1<m/\0<=x.2){M:Nat->Nat->Bool}(hM:∀i r:Nat,(i:Int)<=x.2->(r:Int)<m->(M i r=true↔∃n,Bfs.Rw (LB ws m.toNat x.2) n x ((r:Int),(i:Int)))):∀i r:Nat,r<m.toNat->(fO m.toNat (bj ws m.toNat) x.2.toNat M i r=true↔bM ws x ((r:Int),(i:Int))):=by
 have hxT:cL m x.2 x:=⟨hx.1,hx.2.1,hx.2.2,Int.le_refl _⟩;have low:∀i r:Nat,(i:Int)<=x.2->r<m.toNat->(M i r=true↔bM ws x ((r:Int),(i:Int))):=λi r hi hr=>(hM i r hi (by omega)).trans (Cj ok hx.2.2 hxT rfl hi);have high:∀k r:Nat,r<m.toNat->(bz m.toNat (bj ws m.toNat) (M x.2.toNat) k r=true↔bM ws x ((r:Int),((x.2.toNat+k:Nat):Int))):=by
  intro k;induction k with
  | zero=>exact λr hr=>low x.2.toNat r (by omega) hr
  | succ k ih=>
   intro r hr;show iD _ _ _ r=true↔_;rw[jr,show x.2.toNat+(k+1)=x.2.toNat+k+1 by omega,xV ok hx (by omega)];constructor
   ·rintro⟨i,hi,h1,h2⟩;exact⟨i,hi,(ih i hi).mp h1,h2⟩
   ·rintro⟨i,hi,h1,h2⟩;exact⟨i,hi,(ih i hi).mpr h1,h2⟩
 intro i r hr;unfold fO;by_cases hi:i<x.2.toNat
 ·rw[GH hi];exact low i r (by omega) hr
 ·rw[GG hi,high (i-x.2.toNat) r hr,show x.2.toNat+(i-x.2.toNat)=i by omega]
end
def xj(K:FD):Sp:=λvs H Q _=>∃lq rs m F b N r,vs=[.ref lq,.int (b:Nat),.int (r:Nat)]/\Rows H lq rs m F/\rs.length=b+N/\1<=N/\b+N<=20000/\r<m/\bw (λi=>F i r) b N/\∀v (l d:Nat) H',Ext H H'->Least (λi=>F i r) d l->l<=b->d<=N->dg H' v l d (row (λi=>F i r) 0 l) (row (λi=>F i r) l d)->Q v H'
abbrev oR:Stmt:=stq 62
def rY:FnScope ["levels","base","room"] ["levels","base","room"] (aA oR):=⟨rfl,rfl,rfl,by decide +kernel,rfl,by decide +kernel,by decide +kernel⟩
def zB{P:Program}{w:World}{K:FD}{mg:Str->Option Value}{base:Heap}(D:Dfn K mg "stair_of_room" oR ["levels","base","room"])(T:Blt mg)(C_stair_of_marks:Cal P w K mg base "stair_of_marks" 2 ["marks","base"] (yc K)):Cal P w K mg base "stair_of_room" 3 ["levels","base","room"] (xj K):=by
 have nd:=(rY).nd;refine D.ok rY (λvs H Q E h=>?_) (λX hX H vs Q E h=>?_)
 ·obtain⟨lq,rs,m,F,b,N,r,rfl,_⟩:=h;rfl
 ·obtain⟨f,cdv,A,outer,s,H0,E0,rfl,hr⟩:=hX;obtain⟨lq,rs,m,F,b,N,r,rfl,rows,hrl,hN,hbN,hr',hper,q⟩:=h;refine⟨_,(aj (aG (aD C_stair_of_marks hr (aa (dE ["level"] [2] (cD K (pv 0)) (λ_=>(aS (i:=0) (show(["level","room"]:List Str).Nodup from by decide +kernel) rfl (Or.inl rfl) (Or.inr rfl))) (λ_=>fX) (λ_=>(ah (aF K) (pv 0) (pv 1) (λ_ _=>rfl)))) (aa (pv 1) ae))))),?_⟩;walk_at"";refine cG (ag.of rows.1) ?_;refine ic (xs:=List.map V.ref rs) (λi ys H'=>H'=H/\ys=aQ i (λi=>F i r)) (Gh (show(List.map V.ref rs).length<=20000 by rw[FH];omega) (by decide)) ⟨rfl,rfl⟩ (λi ys H' _ h=>⟨by rw[h.1];exact ag.of rows.1,by rw[h.2,cO];exact F5 _⟩) ?_ ?_
  ·rintro i v ys H1 hx ⟨rfl,rfl⟩;rw[FJ]at hx;obtain⟨a,ha,rfl⟩:=FU.mp hx;have hrow:=rows.2 i a ha;walk_at"";refine ax ?_;walk_at"";refine aE (ag.of hrow) (dw (by omega) (by omega)) ?_;rw[FV];refine⟨rfl,?_⟩;rw[jK]
  ·rintro ys H1 p9 ⟨hH,rfl⟩ hp9;subst hH;rw[FH,hrl];have e1:=bS (o:=.lst (aQ (b+N) λi=>F i r)) hp9;have h9:(upd H1 p9 (.lst (aQ (b+N) λi=>F i r))) p9=_:=aN;generalize upd H1 p9 (.lst (aQ (b+N) λi=>F i r))=H2 at e1 h9 ⊢;walk_at"";exact⟨p9,b,N,_,rfl,hN,hbN,h9,hper,λv l d H3 e3 hL hl hd hst=>q v l d H3 (e1.trans e3) hL hl hd hst⟩
def iZ(H:Hp)(vs:List V)(m:Int)(ws:List Way)(x:Bfs.Pl):Prop:=(vs.length:Int)=m/\∀(r:Nat) (v:V),vs[r]?=some v->∃(F:Nat->Bool) (l d:Nat),dg H v l d (row F 0 l) (row F l d)/\Least F d l/\1<=d/\l+d<=5200/\∀i:Nat,F i=true↔bM ws x ((r:Int),(i:Int))
def lQ(K:FD):Sp:=λvs H Q E=>∃vh pa,vs=[vh,.ref pa]/\((cY H vh/\Ref K H E)\/∃m ws x,bh H vh m ws/\HOuse m ws/\aB H pa x/\((¬dv m x/\dX K H E "NoPlace")\/(dv m x/\1000<x.2/\dX K H E "TooGreat") ∨
 (bR m x/\dC K/\Tbs K H/\∀l xs H',Et H H'->Tbs K H'->H' l=some (.lst xs)->iZ H' xs m ws x->Q (.ref l) H')))
abbrev nR:Stmt:=stq 63
def sr:FnScope ["house","place","told"] ["house","place"] (aA nR):=⟨rfl,rfl,rfl,by decide +kernel,rfl,by decide +kernel,by decide +kernel⟩
def CH{P:Program}{w:World}{K:FD}{mg:Str->Option Value}{base:Heap}(D:Dfn K mg "forward" nR ["house","place"])(T:Blt mg)(C_stair_of_room:Cal P w K mg base "stair_of_room" 3 ["levels","base","room"] (xj K))(C_all_levels:Cal P w K mg base "all_levels" 9 ["house","place"] (qT K))(CX_refuse_bad_places:CalX P w K mg base "refuse_bad_places" 3 ["house","places"] (mW K))(CX_refuse_no_house:CalX P w K mg base "refuse_no_house" 6 ["thing"] (gv K)):CalX P w K mg base "forward" 10 ["house","place"] (lQ K):=by
 have nd:=(sr).nd;refine D.okX sr (λvs H Q E h=>?_) (λf cdv A outer s H vs Q E hr h=>?_)
 ·obtain⟨vh,pa,rfl,_⟩:=h;rfl
 ·obtain⟨vh,pa,rfl,h⟩:=h;refine⟨_,(ai (aZ (iN CX_refuse_no_house hr (aa (pv 0) ae)))
    (ai (aZ (iN CX_refuse_bad_places hr (aa (pv 0) (aa (bo (aa (pv 1) ae)) ae))))
    (ai (aM (i:=2) nd rfl (Or.inr rfl) (aD C_all_levels hr (aa (pv 0) (aa (pv 1) ae))))
    (aj (jx (aG (dE ["room"] [2] (cB rfl T.range_ (aa (ah (aH K) (pv 0) af (λ_ _=>rfl)) ae)) (λ_=>(aS (i:=0) (show(["room","told"]:List Str).Nodup from by decide +kernel) rfl (Or.inl rfl) (Or.inr rfl))) (λ_=>fX) (λ_=>(aD C_stair_of_room hr (aa (ah (aH K) (pv 1) af (λ_ _=>rfl)) (aa (ah (aH K) (pv 1) af (λ_ _=>rfl)) (aa (pv 0) ae)))))))))))),?_⟩
  walk_at"";rcases h with⟨hno,href⟩|⟨m,ws,x,hv,ok,hpx,h⟩
  ·exact refuses hno href
  have m1:=ok.m1;have m12:=ok.m12;refine accepts hv ok λH1 e1=>?_;obtain⟨hp0,hq0,hvr,hh,_⟩:=id (hv.ext e1);subst hvr;walk_at"";refine aw λpl H2 e2 hpl _=>?_;have e02:=e1.trans e2;walk_at"";refine⟨hp0,.ref hq0,m,pl,[pa],[x],rfl,e2 _ _ hh,hpl,.cons (e02 _ _ hpx) .nil,?_⟩;rcases h with⟨hb,hr⟩|⟨hb,hg,hr⟩|⟨ix,dis,htb,q⟩
  ·exact .inl ⟨⟨x,by simp,hb⟩,hr.ext e02⟩
  ·exact .inr (.inl ⟨λy hy=>by rw[FT.mp hy];exact hb,⟨x,by simp,hg⟩,hr.ext e02⟩)
  refine .inr (.inr ⟨λy hy=>by rw[FT.mp hy];exact ix,?_⟩);walk_at"";refine⟨.ref hp0,m,ws,pa,x,rfl,hv.ext e02,ok,e02 _ _ hpx,ix,dis,htb.ext e02,λp lq rs b N M H3 e3 tb3 hp rows hrl hN hbN hper hM=>?_⟩;have hiff:=zp ok.ok ⟨ix.1,ix.2.1,ix.2.2.1⟩ hM;generalize fO m.toNat (bj ws m.toNat) x.2.toNat M=F at rows hper hiff;have hh3:H3 hp0=some (.tup [.int m,.ref hq0]):=e3 _ _ (e2 _ _ hh) (λps z=>by cases z);walk_at"";refine aI (ao.of hh3) (v:=.int m) rfl ?_;walk_at"";refine ck (by omega) ?_;refine fg (λi ys H'=>Ext H3 H'/\ys.length=i/\∀(r:Nat) (v:V),ys[r]?=some v->∃(F:Nat->Bool) (l d:Nat),dg H' v l d (row F 0 l) (row F l d)/\Least F d l/\1<=d/\l+d<=5200/\∀i:Nat,F i=true↔bM ws x ((r:Int),(i:Int))) (bI (by omega)) ⟨Ext.rfl' _,rfl,λr v h=>by simp at h⟩ (λi ys H' _ h=>Nat.le_of_eq h.2.1) ?_ ?_
  ·rintro i ys H4 hi ⟨e4,hyl,hys⟩;rw[show (0:Int)+(i:Int)=((i:Nat):Int) by omega];have hp4:=e4 _ _ hp;walk_at"";refine ax ?_;walk_at"";refine aI (ao.of hp4) (v:=.ref lq) rfl ?_;walk_at"";refine aI (ao.of hp4) (v:=.int (b:Nat)) rfl ?_;walk_at"";refine⟨lq,rs,m.toNat,F,b,N,i,rfl,rows.ext e4,hrl,hN,by omega,hi,hper i hi,λv l d H5 e5 hL hl hd hst=>?_⟩;refine⟨e4.trans e5,by rw[F0,hyl];rfl,λr v' hv'=>?_⟩;by_cases hrl2:r<ys.length
   ·rw[Ga hrl2]at hv';obtain⟨F',l',d',a1,a2⟩:=hys r v' hv';exact⟨F',l',d',a1.ext e5,a2⟩
   ·rw[F9 (by omega)]at hv';have hz:r-ys.length=0:=by have:=(FQ.mp hv').1;simp at this;omega
    rw[hz]at hv';cases hv';have hri:r=i:=by omega
    subst hri;exact⟨λj=>F j r,l,d,hst,hL,hL.pos,by omega,λj=>hiff j r hi⟩
  ·rintro ys H4 p9 ⟨e4,hyl,hys⟩ hp9;have e5:=bS (o:=.lst ys) hp9;have e35:=e4.trans e5;walk_at"";refine q p9 ys _ ((e02.et.trans e3).trans e35.et) (tb3.ext e35) aN ⟨by omega,λr v hv=>?_⟩;obtain⟨F',l',d',a1,a2⟩:=hys r v hv;exact⟨F',l',d',a1.ext e5,a2⟩
def uZ{m:Int}{ws:List Way}(ok:∀w∈ws,w.Ok m){p r:Nat}(h:bj ws m.toNat p r):p<m.toNat/\r<m.toNat:=by obtain⟨v,hv,hd,hroom,hk⟩:=h;have:=Kpt.lt ok hk;have r1:=(ok v hv).r1;have r0:=(ok v hv).r0;omega
def tT{m:Int}{ws:List Way}(ok:∀w∈ws,w.Ok m){x:Bfs.Pl}(hx:0<=x.1/\x.1<m/\0<=x.2):∀k r:Nat,r<m.toNat->(bM ws x ((r:Int),((x.2.toNat+k:Nat):Int))↔∃s,s<m.toNat/\bM ws x ((s:Int),x.2)/\Rnd.Wg (bj ws m.toNat) k s r):=by
 intro k;induction k with
 | zero=>
  intro r hr;rw[show ((x.2.toNat+0:Nat):Int)=x.2 by omega];constructor
  ·exact λh=>⟨r,hr,h,.nil⟩
  ·rintro⟨s,_,h,w⟩;cases w;exact h
 | succ k ih=>
  intro r hr;rw[show x.2.toNat+(k+1)=x.2.toNat+k+1 by omega,xV ok hx (by omega)];constructor
  ·rintro⟨p,hp,h,hs⟩;obtain⟨s,h1,h2,h3⟩:=(ih p hp).mp h;exact⟨s,h1,h2,.snoc h3 hs⟩
  ·rintro⟨s,h1,h2,h3⟩;cases h3 with
   | @snoc _ _ p _ h3 hs=>
    have:=uZ ok hs;exact⟨p,this.1,(ih p this.1).mpr ⟨s,h1,h2,h3⟩,hs⟩
def iZ.near{H:Hp}{xs:List V}{m:Int}{ws:List Way}{x:Bfs.Pl}(h:iZ H xs m ws x)(ok:HOuse m ws)(ix:bR m x):∃P,1<=P/\P<=81/\∀(r:Nat) (v:V),xs[r]?=some v->∃(F:Nat->Bool) (l d:Nat),dg H v l d (row F 0 l) (row F l d)/\Least F d l/\1<=d/\d ∣ P/\l<=1288/\∀i:Nat,F i=true↔bM ws x ((r:Int),(i:Int)):=by
 have m1:=ok.m1;have m12:=ok.m12;obtain⟨ix0,ix1,ix2,ix3⟩:=ix;have hn:m.toNat<=12:=by omega
 obtain⟨P,hP1,hP81,hP⟩:=Rnd.round (n:=m.toNat) (A:=bj ws m.toNat) (λi j h=>uZ ok.ok h) hn;have hnn:m.toNat*m.toNat<=12*12:=Nat.mul_le_mul hn hn;have hn1:m.toNat<=m.toNat*m.toNat:=Nat.le_mul_of_pos_right _ (by omega);refine⟨P,hP1,hP81,λr v hv=>?_⟩;obtain⟨F,l,d,hst,hL,hd,_,hF⟩:=h.2 r v hv;have hr:r<m.toNat:=by have:=(FQ.mp hv).1;have:=h.1;omega
 have per:bw F (x.2.toNat+288) P:=λy hy=>by
  obtain⟨k,rfl⟩:∃k,y=x.2.toNat+k:=⟨y-x.2.toNat,by omega⟩;rw[Gm,hF,hF,show x.2.toNat+k+P=x.2.toNat+(k+P) by omega,tT ok.ok ⟨ix0,ix1,ix2⟩ _ r hr,tT ok.ok ⟨ix0,ix1,ix2⟩ _ r hr];constructor
  ·rintro⟨s,h1,h2,h3⟩;exact⟨s,h1,h2,hP s r (k+P) k h1 (by omega) (by omega) (Nat.add_mod_right k P) h3⟩
  ·rintro⟨s,h1,h2,h3⟩;exact⟨s,h1,h2,hP s r k (k+P) h1 (by omega) (by omega) (Nat.add_mod_right k P).symm h3⟩
 obtain⟨hdP,hl⟩:=Rnd.CP hL hP1 per;exact⟨F,l,d,hst,hL,hd,hdP,by omega,hF⟩
def iZ.gd{H:Hp}{xs:List V}{m:Int}{ws:List Way}{x:Bfs.Pl}(h:iZ H xs m ws x)(ok:HOuse m ws)(ix:bR m x):∀(r:Nat) (v:V),xs[r]?=some v->∃b s o a,dg H v b s o a/\Gd b s o a/\(∀n:Int,0<=n->(mem b s o a n=true↔bM ws x ((r:Int),n)))/\∀n:Int,n<0->mem b s o a n=false:=by
 obtain⟨P,hP1,hP81,hn⟩:=h.near ok ix;intro r v hv;obtain⟨F,l,d,hst,hL,hd,hdP,hl,hF⟩:=hn r v hv;have hdle:d<=P:=Nat.le_of_dvd (by omega) hdP;refine⟨_,_,_,_,hst,⟨Ed F l d hd,by omega,by omega⟩,λn hn=>?_,λn hn=>?_⟩
 ·have e:=Dw hd hL.per n.toNat;rw[FW hn]at e;rw[e,hF n.toNat,FW hn]
 ·rw[St.nv _ (by omega),Bool.eq_false_iff];intro z;have:=kz.mp (List.contains_iff_mem.mp z);omega
def sj(K:FD)(H:Hp)(E:XK):Prop:=∀H',Et H H'->Tbs K H'->E (.ref (cA K "TooGreat")) none H'
def kg(K:FD):Sp:=λvs H Q E=>∃vh pa lv,vs=[vh,.ref pa,.int lv]/\((cY H vh/\Ref K H E)\/∃m ws x,bh H vh m ws/\HOuse m ws/\aB H pa x/\((¬dv m x/\dX K H E "NoPlace")\/(dv m x/\1000<x.2/\dX K H E "TooGreat") ∨
 (bR m x/\dC K/\Tbs K H/\((3000<lv/\sj K H E)\/(lv<=3000 ∧
 ∀l (G:Nat->Bool) H',Et H H'->Tbs K H'->H' l=some (.lst ((row G 0 m.toNat).map V.int))->(∀r:Nat,r<m.toNat->(G r=true↔0<=lv/\bM ws x ((r:Int),lv)))->Q (.ref l) H')))))
abbrev mf:Stmt:=stq 64
def xF:FnScope ["house","place","l","stairs"] ["house","place","l"] (aA mf):=⟨rfl,rfl,rfl,by decide +kernel,rfl,by decide +kernel,by decide +kernel⟩
def zO{P:Program}{w:World}{K:FD}{mg:Str->Option Value}{base:Heap}(D:Dfn K mg "rooms_at" mf ["house","place","l"])(T:Blt mg)(g_GREATEST_LEVEL:∃t,mg "GREATEST_LEVEL" = some (.int 3000 t))(XF:Xf K mg base fz gx)(C_holds:Cal P w K mg base "holds" 7 ["stair","x"] (sx K))(CX_forward:CalX P w K mg base "forward" 10 ["house","place"] (lQ K)):CalX P w K mg base "rooms_at" 11 ["house","place","l"] (kg K):=by
 have nd:=(xF).nd;refine D.okX xF (λvs H Q E h=>?_) (λf cdv A outer s H vs Q E hr h=>?_)
 ·obtain⟨vh,pa,lv,rfl,_⟩:=h;rfl
 ·obtain⟨t_GREATEST_LEVEL,c_GREATEST_LEVEL⟩:=g_GREATEST_LEVEL;obtain⟨vh,pa,lv,rfl,h⟩:=h;refine⟨_,(@ai _ _ _ _ _ (@aM _ _ 3 _ _ _ _ nd rfl (Or.inl rfl) (iN CX_forward hr (@aa _ _ _ _ _ (pv 0) (@aa _ _ _ _ _ (pv 1) ae rfl) rfl)) rfl (Or.inl rfl))
    (@ai _ _ _ _ _ (@bD _ _ _ _ _ _ _ _ (aT fK (pv 2) (cx (v:=.int 3000) rfl c_GREATEST_LEVEL ⟨_,rfl⟩) (aP _)) (@aj _ _ _ (ke (XF.own "TooGreat" (by decide +kernel)) PySem.F.excBase_ValueError (@aa _ _ _ _ _ (wM (cx (v:=.int 3000) rfl c_GREATEST_LEVEL ⟨_,rfl⟩)) ae rfl))) aU)
    (@aj _ _ _ (jx (@aG _ _ _ _ (dE ["room","stair"] [2] (Ad K rfl T.enumerate_ (@aa _ _ _ _ _ (pv 3) ae rfl)) (λ_=>(iX (n:=2) K rfl (dF (aS (i:=0) (show(["room","stair","l"]:List Str).Nodup from by decide +kernel) rfl (Or.inl rfl) (Or.inr rfl)) (dF (aS (i:=1) (show(["room","stair","l"]:List Str).Nodup from by decide +kernel) rfl (Or.inl rfl) (Or.inr rfl)) iI)))) (λ_=>(fo (bE (aD C_holds hr (@aa _ _ _ _ _ (pv 1) (@aa _ _ _ _ _ (pv 2) ae rfl) rfl))))) (λ_=>(pv 0)))))))),?_⟩
  walk_at"";rcases h with h|⟨m,ws,x,hv,ok,hpx,h⟩
  ·exact⟨vh,pa,rfl,.inl h⟩
  refine⟨vh,pa,rfl,.inr ⟨m,ws,x,hv,ok,hpx,?_⟩⟩;rcases h with h|h|⟨ix,dis,htb,h⟩
  ·exact .inl h
  ·exact .inr (.inl h)
  refine .inr (.inr ⟨ix,dis,htb,λl xs H1 e1 t1 hl fw=>?_⟩);walk_at"";rcases h with⟨hlv,hr⟩|⟨hlv,q⟩
  ·rw[GF hlv];refine ax ?_;walk_at"";refine⟨by decide +kernel,by decide +kernel,λz=>?_⟩;walk_at"";exact⟨bI (by simp),hr H1 e1 t1⟩
  rw[GD (show ¬3000<lv by omega)];refine aq ?_;walk_at"";have m12:=ok.m12;have hxl:=fw.1;have hgd:=fw.gd ok ix;obtain⟨G,hG⟩:∃G:Nat->Bool,∀r:Nat,(G r=true↔0<=lv/\bM ws x ((r:Int),lv)):=⟨λr=>@decide (0<=lv/\bM ws x ((r:Int),lv)) (Classical.propDecidable _),λr=>@decide_eq_true_iff _ (Classical.propDecidable _)⟩;refine Fj ?_;walk_at"";refine Am (ag.of hl) ?_;refine Ef (xs:=xs) (λi ys H'=>Ext H1 H'/\ys=(row G 0 i).map V.int) (bI (by omega)) ⟨Ext.rfl' _,rfl⟩ (λi ys H' h=>⟨ag.of (h.1 _ _ hl),by rw[h.2,FH];exact qc _ _ _⟩) ?_ ?_
  ·rintro i u ys H2 pp H3 hu ⟨e2,rfl⟩ e3 hpp _;obtain⟨b,s',o,a,hst,hg,h1,h2⟩:=hgd i u hu;refine jF (ao.of hpp) rfl ?_;walk_at"";refine⟨u,lv,b,s',o,a,rfl,hst.ext (e2.trans e3),hg,_,rfl,?_⟩;have hm:mem b s' o a lv=G i:=by
    rw[Gm,hG i];by_cases h0:0<=lv
    ·rw[h1 lv h0];exact⟨λz=>⟨h0,z⟩,λz=>z.2⟩
    ·rw[h2 lv (by omega)];exact⟨λz=>(nomatch z),λz=>absurd z.1 h0⟩
   rw[hm];cases hGi:G i with
   | true=>
    refine ax ?_;walk_at"";refine⟨e2.trans e3,?_⟩;have:=ow (f:=G) (lo:=0) (i:=i) rfl (by rw[Nat.zero_add];exact hGi);rw[Nat.zero_add]at this;exact this
   | false=>
    refine aq ?_;exact⟨e2.trans e3,lX (f:=G) (lo:=0) (i:=i) rfl (by rw[Nat.zero_add];exact hGi)⟩
  ·rintro ys H2 p9 ⟨e2,rfl⟩ hp9;have hlen:xs.length=m.toNat:=by omega
   rw[hlen];refine q p9 G _ (e1.trans (e2.trans (bS hp9)).et) (t1.ext (e2.trans (bS hp9))) aN λr _=>hG r
local macro_rules|`(tactic| walk_at "ra") => do
 let ts ← ("seq asg c name".splitOn " ").toArray.mapM λn =>
  let i := Lean.mkIdent (.mkSimple ("rd_" ++ n))
  `(tacticSeq| with_reducible refine $i ?_)
 `(tactic| repeat (first $[| $ts]*|dsimp only))
def rQ(K:FD)(D:Addr)(z:Str):Prop:=(D=cA K "NoHouse"/\z=Gp "house")\/(D=cA K "NoPlace"/\z=Gp "place")\/(D=cA K "TooGreat"/\z=Gp "great")
structure Knd(K:FD)(D:Addr)(b1 b3 b4 b5:Bool):Prop where
 k1:PySem.W.kitOne K (.ref D) (.ref (cA K "NoHouse"))=some b1
 k2:PySem.W.kitOne K (.ref D) (.ref (cA K "NoStair"))=some false
 k3:PySem.W.kitOne K (.ref D) (.ref (cA K "NoPlace"))=some b3
 k4:PySem.W.kitOne K (.ref D) (.ref (cA K "TooGreat"))=some b4
 k5:PySem.W.kitOne K (.ref D) (.ref (cA K "NoWalk"))=some b5
 ko:∀C∈(["Endless","NotBare","NoText","NoLine","NoWay","NoDeed"]:List Str).map (cA K),PySem.W.kitOne K (.ref D) (.ref C)=some false
 kv:PySem.W.kitOne K (.ref D) (.type "ValueError")=some true
def nJ{K:FD}{c:Str}(kc:∀y∈fz,PySem.W.kitOne K (.ref (cA K c)) (.ref (cA K y))=some (c == y || y == ("StairError":Str)))(kv:PySem.W.kitOne K (.ref (cA K c)) (.type "ValueError")=some true)(hn:(["NoStair","Endless","NotBare","NoText","NoLine","NoWay","NoDeed"]:List Str).contains c=false):
  Knd K (cA K c) (c == "NoHouse") (c == "NoPlace") (c == "TooGreat") (c == "NoWalk"):=by
 have no:∀y∈(["NoStair","Endless","NotBare","NoText","NoLine","NoWay","NoDeed"]:List Str),(c == y)=false:=λy hy=>by
  cases h:c == y with
  | false=>rfl
  | true=>
   have e:c=y:=by simpa using h
   rw[e,List.contains_iff_mem.mpr hy]at hn;cases hn
 refine⟨(kc "NoHouse" (by decide +kernel)).trans ?_,(kc "NoStair" (by decide +kernel)).trans ?_,(kc "NoPlace" (by decide +kernel)).trans ?_,(kc "TooGreat" (by decide +kernel)).trans ?_,(kc "NoWalk" (by decide +kernel)).trans ?_,λC hC=>?_,kv⟩
 ·rw[show (("NoHouse":Str) == ("StairError":Str))=false by decide +kernel,Bool.or_false]
 ·rw[no "NoStair" (by decide +kernel)];decide +kernel
 ·rw[show (("NoPlace":Str) == ("StairError":Str))=false by decide +kernel,Bool.or_false]
 ·rw[show (("TooGreat":Str) == ("StairError":Str))=false by decide +kernel,Bool.or_false]
 ·rw[show (("NoWalk":Str) == ("StairError":Str))=false by decide +kernel,Bool.or_false]
 ·obtain⟨y,hy,rfl⟩:=List.mem_map.mp hC;have hy2:y∈fz:=by simp only[FX,Gi,or_false]at hy;rcases hy with rfl|rfl|rfl|rfl|rfl|rfl<;>decide +kernel
  rw[kc y hy2,no y (FK _ hy)];simp only[FX,Gi,or_false]at hy;rcases hy with rfl|rfl|rfl|rfl|rfl|rfl<;>decide +kernel
def mB(K:FD)(x D:Addr):Sp:=λvs H Q _=>∃b1 b3 b4 b5 z,vs=[.ref x]/\Knd K D b1 b3 b4 b5/\((b1=true/\b3=false/\b4=false/\b5=false/\z=Gp "house")\/(b1=false/\b3=true/\b4=false/\b5=false/\z=Gp "place") ∨
 (b1=false/\b3=false/\b4=true/\b5=false/\z=Gp "great")\/(b1=false/\b3=false/\b4=false/\b5=true/\z=Gp "walk"))/\∀H',Ext H H'->Q (.str z) H'
abbrev nM:Stmt:=stq 66
def uT:FnScope ["_law_e","_law_words"] ["_law_e"] (aA nM):=⟨rfl,rfl,rfl,by decide +kernel,rfl,by decide +kernel,by decide +kernel⟩
def DI{P:Program}{w:World}{K:FD}{mg:Str->Option Value}{base:Heap}(D:Dfn K mg "_law_kind" nM ["_law_e"])(T:Blt mg)(XF:Xf K mg base fz gx){x Dx:Addr}{oe:Obj}(hK:ExcK K Dx)(hc:oe.cls=.ref Dx)(hal:∃vs,oe.data=.fields vs/\vs[2]?=some .none):CalH P w K mg base "_law_kind" 1 ["_law_e"] x oe (mB K x Dx):=by
 have nd:=(uT).nd;refine D.okH uT hal (λvs H Q E h=>?_) (λX hX H vs Q h=>?_)
 ·obtain⟨_,_,_,_,_,rfl,_⟩:=h;rfl
 ·obtain⟨f,cdv,A,outer,s,H0,rfl,hr⟩:=hX;obtain⟨b1,b3,b4,b5,z,rfl,k,hz,q⟩:=h;refine⟨_,(ai (aM (i:=1) nd rfl (Or.inl rfl) (bo ae))
    (ai (cE (bE (bq (gN hK hc) rfl T.isinstance_ PyProof.Rows.boot_isinstance (aa (pv 0) (aa (cx (v:=.ref (cA K "NoHouse")) rfl (XF.cl "NoHouse" (by decide +kernel)) rfl) ae)))) (aj (aZ (bC K FP F6 F7 bL (pv 1) (aa az ae)))) aU)
    (ai (cE (bE (bq (gN hK hc) rfl T.isinstance_ PyProof.Rows.boot_isinstance (aa (pv 0) (aa (cx (v:=.ref (cA K "NoStair")) rfl (XF.cl "NoStair" (by decide +kernel)) rfl) ae)))) (aj (aZ (bC K FP F6 F7 bL (pv 1) (aa az ae)))) aU)
    (ai (cE (bE (bq (gN hK hc) rfl T.isinstance_ PyProof.Rows.boot_isinstance (aa (pv 0) (aa (cx (v:=.ref (cA K "NoPlace")) rfl (XF.cl "NoPlace" (by decide +kernel)) rfl) ae)))) (aj (aZ (bC K FP F6 F7 bL (pv 1) (aa az ae)))) aU)
    (ai (cE (bE (bq (gN hK hc) rfl T.isinstance_ PyProof.Rows.boot_isinstance (aa (pv 0) (aa (cx (v:=.ref (cA K "TooGreat")) rfl (XF.cl "TooGreat" (by decide +kernel)) rfl) ae)))) (aj (aZ (bC K FP F6 F7 bL (pv 1) (aa az ae)))) aU)
    (ai (cE (bE (bq (gN hK hc) rfl T.isinstance_ PyProof.Rows.boot_isinstance (aa (pv 0) (aa (cx (v:=.ref (cA K "NoWalk")) rfl (XF.cl "NoWalk" (by decide +kernel)) rfl) ae)))) (aj (aZ (bC K FP F6 F7 bL (pv 1) (aa az ae)))) aU)
    (ai (cE (bE (bq (gN hK hc) rfl T.isinstance_ PyProof.Rows.boot_isinstance (aa (pv 0) (aa (aR (aa (cx (v:=.ref (cA K "Endless")) rfl (XF.cl "Endless" (by decide +kernel)) rfl) (aa (cx (v:=.ref (cA K "NotBare")) rfl (XF.cl "NotBare" (by decide +kernel)) rfl) (aa (cx (v:=.ref (cA K "NoText")) rfl (XF.cl "NoText" (by decide +kernel)) rfl) (aa (cx (v:=.ref (cA K "NoLine")) rfl (XF.cl "NoLine" (by decide +kernel)) rfl) (aa (cx (v:=.ref (cA K "NoWay")) rfl (XF.cl "NoWay" (by decide +kernel)) rfl) (aa (cx (v:=.ref (cA K "NoDeed")) rfl (XF.cl "NoDeed" (by decide +kernel)) rfl) ae))))))) ae)))) (aj (aZ (bC K FP F6 F7 bL (pv 1) (aa az ae)))) aU)
    (ai (cE (dh (bE (bq (gN hK hc) rfl T.isinstance_ PyProof.Rows.boot_isinstance (aa (pv 0) (aa (fu (v:=.ty "ValueError") rfl T.ValueError_ PyProof.Rows.Boot.«ValueError» rfl) ae))))) (aj (aZ (bC K FP F6 F7 bL (pv 1) (aa az ae)))) aU)
    (aj (aG (bC K PySem.F.plainAttrs_str PySem.F.slot_str_join PySem.F.type_str_join (yN K) az (aa (pv 1) ae)))))))))))),?_⟩
  walk_at"";refine aw λf H1 e1 hf hfn=>?_;walk_at"";rcases hz with⟨rfl,rfl,rfl,rfl,rfl⟩|⟨rfl,rfl,rfl,rfl,rfl⟩|⟨rfl,rfl,rfl,rfl,rfl⟩|⟨rfl,rfl,rfl,rfl,rfl⟩
  ·refine bt ?_;walk_at"";refine cc k.k1 ?_;walk_at"";refine ax ?_;walk_at"";refine⟨cH (ag.of hf),?_⟩;walk_at"";refine bT hf (cK (by simp)) ?_;have e2:Ext H (upd H1 f (.lst ([]++[.str (Gp "house")]))):=cR e1 hfn;have hf2:upd H1 f (.lst ([]++[.str (Gp "house")])) f=some (.lst (List.map V.str [Gp "house"])):=aN;generalize upd H1 f (.lst ([]++[.str (Gp "house")]))=H2 at e2 hf2 ⊢;walk_at"";refine bt ?_;walk_at"";refine cc k.k2 ?_;walk_at"";refine aq ?_;walk_at"";refine bt ?_;walk_at"";refine cc k.k3 ?_;walk_at"";refine aq ?_;walk_at"";refine bt ?_;walk_at"";refine cc k.k4 ?_;walk_at"";refine aq ?_;walk_at"";refine bt ?_;walk_at"";refine cc k.k5 ?_;walk_at"";refine aq ?_;walk_at"";refine bt ?_;walk_at"";refine aw λta H3 e3 hta _=>?_;walk_at"";refine lL (Cs:=(["Endless","NotBare","NoText","NoLine","NoWay","NoDeed"]:List Str).map (cA K)) hta (jA k.ko) ?_;walk_at"";refine aq ?_;walk_at"";refine bt ?_;walk_at"";refine lI k.kv ?_;walk_at"";refine aq ?_;walk_at"";refine⟨rfl,?_⟩;walk_at"";refine⟨_,f,[Gp "house"],rfl,rfl,ag.of (e3 _ _ hf2),by decide +kernel,?_⟩;rw[show Txt.join (Gp " ") [Gp "house"]=Gp "house" by decide +kernel];exact q _ (e2.trans e3)
  ·refine bt ?_;walk_at"";refine cc k.k1 ?_;walk_at"";refine aq ?_;walk_at"";refine bt ?_;walk_at"";refine cc k.k2 ?_;walk_at"";refine aq ?_;walk_at"";refine bt ?_;walk_at"";refine cc k.k3 ?_;walk_at"";refine ax ?_;walk_at"";refine⟨cH (ag.of hf),?_⟩;walk_at"";refine bT hf (cK (by simp)) ?_;have e2:Ext H (upd H1 f (.lst ([]++[.str (Gp "place")]))):=cR e1 hfn;have hf2:upd H1 f (.lst ([]++[.str (Gp "place")])) f=some (.lst (List.map V.str [Gp "place"])):=aN;generalize upd H1 f (.lst ([]++[.str (Gp "place")]))=H2 at e2 hf2 ⊢;walk_at"";refine bt ?_;walk_at"";refine cc k.k4 ?_;walk_at"";refine aq ?_;walk_at"";refine bt ?_;walk_at"";refine cc k.k5 ?_;walk_at"";refine aq ?_;walk_at"";refine bt ?_;walk_at"";refine aw λta H3 e3 hta _=>?_;walk_at"";refine lL (Cs:=(["Endless","NotBare","NoText","NoLine","NoWay","NoDeed"]:List Str).map (cA K)) hta (jA k.ko) ?_;walk_at"";refine aq ?_;walk_at"";refine bt ?_;walk_at"";refine lI k.kv ?_;walk_at"";refine aq ?_;walk_at"";refine⟨rfl,?_⟩;walk_at"";refine⟨_,f,[Gp "place"],rfl,rfl,ag.of (e3 _ _ hf2),by decide +kernel,?_⟩;rw[show Txt.join (Gp " ") [Gp "place"]=Gp "place" by decide +kernel];exact q _ (e2.trans e3)
  ·refine bt ?_;walk_at"";refine cc k.k1 ?_;walk_at"";refine aq ?_;walk_at"";refine bt ?_;walk_at"";refine cc k.k2 ?_;walk_at"";refine aq ?_;walk_at"";refine bt ?_;walk_at"";refine cc k.k3 ?_;walk_at"";refine aq ?_;walk_at"";refine bt ?_;walk_at"";refine cc k.k4 ?_;walk_at"";refine ax ?_;walk_at"";refine⟨cH (ag.of hf),?_⟩;walk_at"";refine bT hf (cK (by simp)) ?_;have e2:Ext H (upd H1 f (.lst ([]++[.str (Gp "great")]))):=cR e1 hfn;have hf2:upd H1 f (.lst ([]++[.str (Gp "great")])) f=some (.lst (List.map V.str [Gp "great"])):=aN;generalize upd H1 f (.lst ([]++[.str (Gp "great")]))=H2 at e2 hf2 ⊢;walk_at"";refine bt ?_;walk_at"";refine cc k.k5 ?_;walk_at"";refine aq ?_;walk_at"";refine bt ?_;walk_at"";refine aw λta H3 e3 hta _=>?_;walk_at"";refine lL (Cs:=(["Endless","NotBare","NoText","NoLine","NoWay","NoDeed"]:List Str).map (cA K)) hta (jA k.ko) ?_;walk_at"";refine aq ?_;walk_at"";refine bt ?_;walk_at"";refine lI k.kv ?_;walk_at"";refine aq ?_;walk_at"";refine⟨rfl,?_⟩;walk_at"";refine⟨_,f,[Gp "great"],rfl,rfl,ag.of (e3 _ _ hf2),by decide +kernel,?_⟩;rw[show Txt.join (Gp " ") [Gp "great"]=Gp "great" by decide +kernel];exact q _ (e2.trans e3)
  ·refine bt ?_;walk_at"";refine cc k.k1 ?_;walk_at"";refine aq ?_;walk_at"";refine bt ?_;walk_at"";refine cc k.k2 ?_;walk_at"";refine aq ?_;walk_at"";refine bt ?_;walk_at"";refine cc k.k3 ?_;walk_at"";refine aq ?_;walk_at"";refine bt ?_;walk_at"";refine cc k.k4 ?_;walk_at"";refine aq ?_;walk_at"";refine bt ?_;walk_at"";refine cc k.k5 ?_;walk_at"";refine ax ?_;walk_at"";refine⟨cH (ag.of hf),?_⟩;walk_at"";refine bT hf (cK (by simp)) ?_;have e2:Ext H (upd H1 f (.lst ([]++[.str (Gp "walk")]))):=cR e1 hfn;have hf2:upd H1 f (.lst ([]++[.str (Gp "walk")])) f=some (.lst (List.map V.str [Gp "walk"])):=aN;generalize upd H1 f (.lst ([]++[.str (Gp "walk")]))=H2 at e2 hf2 ⊢;walk_at"";refine bt ?_;walk_at"";refine aw λta H3 e3 hta _=>?_;walk_at"";refine lL (Cs:=(["Endless","NotBare","NoText","NoLine","NoWay","NoDeed"]:List Str).map (cA K)) hta (jA k.ko) ?_;walk_at"";refine aq ?_;walk_at"";refine bt ?_;walk_at"";refine lI k.kv ?_;walk_at"";refine aq ?_;walk_at"";refine⟨rfl,?_⟩;walk_at"";refine⟨_,f,[Gp "walk"],rfl,rfl,ag.of (e3 _ _ hf2),by decide +kernel,?_⟩;rw[show Txt.join (Gp " ") [Gp "walk"]=Gp "walk" by decide +kernel];exact q _ (e2.trans e3)
def yQ{K:FD}{mg:Str->Option Value}{base:Heap}(XF:Xf K mg base fz gx){D:Addr}{z:Str}(h:rQ K D z):PySem.W.exmOne K (.ref D) (.ref (cA K "StairError"))=some true/\ExcK K D ∧
  ∃b1 b3 b4 b5,Knd K D b1 b3 b4 b5/\((b1=true/\b3=false/\b4=false/\b5=false/\z=Gp "house")\/(b1=false/\b3=true/\b4=false/\b5=false/\z=Gp "place") ∨
   (b1=false/\b3=false/\b4=true/\b5=false/\z=Gp "great")\/(b1=false/\b3=false/\b4=false/\b5=true/\z=Gp "walk")):=by
 rcases h with⟨rfl,hz⟩|⟨rfl,hz⟩|⟨rfl,hz⟩
 ·exact⟨XF.up "NoHouse" (by decide +kernel),XF.exk "NoHouse" (by decide +kernel),_,_,_,_,nJ (c:="NoHouse") (XF.kc "NoHouse" (by decide +kernel)) (XF.kv "NoHouse" (by decide +kernel)) (by decide +kernel),.inl ⟨by decide +kernel,by decide +kernel,by decide +kernel,by decide +kernel,hz⟩⟩
 ·exact⟨XF.up "NoPlace" (by decide +kernel),XF.exk "NoPlace" (by decide +kernel),_,_,_,_,nJ (c:="NoPlace") (XF.kc "NoPlace" (by decide +kernel)) (XF.kv "NoPlace" (by decide +kernel)) (by decide +kernel),.inr (.inl ⟨by decide +kernel,by decide +kernel,by decide +kernel,by decide +kernel,hz⟩)⟩
 ·exact⟨XF.up "TooGreat" (by decide +kernel),XF.exk "TooGreat" (by decide +kernel),_,_,_,_,nJ (c:="TooGreat") (XF.kc "TooGreat" (by decide +kernel)) (XF.kv "TooGreat" (by decide +kernel)) (by decide +kernel),.inr (.inr (.inl ⟨by decide +kernel,by decide +kernel,by decide +kernel,by decide +kernel,hz⟩))⟩
def Ax(H:Hp)(way:Int)(v:V)(pa:Addr)(lv:Int)(z:Str):Prop:=
 ∃m ws x,bh H v m ws/\HOuse m ws/\aB H pa x ∧
  ((way<=1/\¬dv m x/\z=Gp "place")\/(way<=1/\dv m x/\1000<x.2/\z=Gp "great")\/(way=0/\bR m x/\3000<lv/\z=Gp "great")\/((1<=way\/lv<=3000)/\bR m x/\z=Gp "told"))
def iA(K:FD):Sp:=λvs H Q _=>∃way v pa lv z,vs=[.int way,v,.ref pa,.int lv]/\0<=way/\way<=4/\((cY H v/\z=Gp "house"/\∀H',Ext H H'->Q (.str z) H')\/(Ax H way v pa lv z/\dC K/\Tbs K H/\∀H',Et H H'->Tbs K H'->Q (.str z) H'))
abbrev mi:Stmt:=stq 78
def sh:FnScope ["_law_way","_law_house_here","_law_place_here","_law_l","_law_e"] ["_law_way","_law_house_here","_law_place_here","_law_l"] (aA mi):=⟨rfl,rfl,rfl,by decide +kernel,rfl,by decide +kernel,by decide +kernel⟩
def Br{P:Program}{w:World}{K:FD}{mg:Str->Option Value}{base:Heap}(D:Dfn K mg "_law_asked" mi ["_law_way","_law_house_here","_law_place_here","_law_l"])(T:Blt mg)(XF:Xf K mg base fz gx)(CX_rooms_at:CalX P w K mg base "rooms_at" 11 ["house","place","l"] (kg K))(CX_forward:CalX P w K mg base "forward" 10 ["house","place"] (lQ K))(CX_kept:CalX P w K mg base "kept" 7 ["house"] (lK K))(CX_risen:CalX P w K mg base "risen" 7 ["house"] (kQ K))(CX_fallen:CalX P w K mg base "fallen" 7 ["house"] (nB K))(CH__law_kind:∀(x:Addr) (oe:Obj) (Dx:Addr),ExcK K Dx->oe.cls=.ref Dx->(∃vs,oe.data=.fields vs/\vs[2]?=some .none)->CalH P w K mg base "_law_kind" 1 ["_law_e"] x oe (mB K x Dx)):Cal P w K mg base "_law_asked" 12 ["_law_way","_law_house_here","_law_place_here","_law_l"] (iA K):=by
 have nd:=(sh).nd;refine D.ok sh (λvs H Q E h=>?_) (λX hX H vs Q E h=>?_)
 ·obtain⟨way,v,pa,lv,z,rfl,_⟩:=h;rfl
 ·obtain⟨f,cdv,A,outer,s,H0,E0,rfl,hr⟩:=hX;obtain⟨way,v,pa,lv,z,rfl,w0,w4,hask⟩:=h;refine⟨_,(ai (DV (i:=4) rfl rfl nd rfl rfl rfl (XF.cl "StairError" (by decide +kernel)) rfl (by decide) (fI (lr (aT bX (pv 0) af (aP _)) (fI (jl CX_rooms_at hr (aa (pv 1) (aa (pv 2) (aa (pv 3) ae)))) fZ) (fI (lr (aT bX (pv 0) af (aP _)) (fI (jl CX_forward hr (aa (pv 1) (aa (pv 2) ae))) fZ) (fI (lr (aT bX (pv 0) af (aP _)) (fI (jl CX_kept hr (aa (pv 1) ae)) fZ) (fI (lr (aT bX (pv 0) af (aP _)) (fI (jl CX_risen hr (aa (pv 1) ae)) fZ) (fI (jl CX_fallen hr (aa (pv 1) ae)) fZ)) fZ)) fZ)) fZ)) fZ) (λx oe Dx da hK hc hal hdd=>(aj (aG (Fo (CH__law_kind x oe Dx hK hc hal) hr (aa (pv 4) ae))))))
    (aj (aG az))),?_⟩
  walk_at "ra";have hw:way=0\/way=1\/way=2\/way=3\/way=4:=by omega
  refine CU (λDx da σ1 H1=>rQ K Dx z/\σ1=[some (.int way),some v,some (.ref pa),some (.int lv),none]/\∀H',Ext H1 H'->Q (.str z) H') (λE9 hE=>?_) ?_
  ·rcases hask with⟨h1,hz,q⟩|⟨⟨m,ws,x,h1,h2,h3,h4⟩,dis,htb,q⟩
   ·have no:Ref K H (E9 [some (.int way),some v,some (.ref pa),some (.int lv),none]):=λH' e'=>hE _ _ _ _ ⟨.inl ⟨rfl,hz⟩,rfl,λH2 e2=>q H2 (e'.trans e2)⟩;rcases hw with rfl|rfl|rfl|rfl|rfl
    ·walk_at"";refine ax ?_;walk_at"";exact⟨v,pa,lv,rfl,.inl ⟨h1,no⟩⟩
    ·walk_at"";refine aq ?_;walk_at"";refine ax ?_;walk_at"";exact⟨v,pa,rfl,.inl ⟨h1,no⟩⟩
    ·walk_at"";refine aq ?_;walk_at"";refine aq ?_;walk_at"";refine ax ?_;walk_at"";exact⟨v,rfl,.inl ⟨h1,no⟩⟩
    ·walk_at"";refine aq ?_;walk_at"";refine aq ?_;walk_at"";refine aq ?_;walk_at"";refine ax ?_;walk_at"";exact⟨v,rfl,.inl ⟨h1,no⟩⟩
    ·walk_at"";refine aq ?_;walk_at"";refine aq ?_;walk_at"";refine aq ?_;walk_at"";refine aq ?_;walk_at"";exact⟨v,rfl,.inl ⟨h1,no⟩⟩
   ·have pl:z=Gp "place"->dX K H (E9 [some (.int way),some v,some (.ref pa),some (.int lv),none]) "NoPlace":=λhz H' e'=>hE _ _ _ _ ⟨.inr (.inl ⟨rfl,hz⟩),rfl,λH2 e2=>q H2 (e'.trans e2).et (htb.ext (e'.trans e2))⟩;have gt:z=Gp "great"->dX K H (E9 [some (.int way),some v,some (.ref pa),some (.int lv),none]) "TooGreat":=λhz H' e'=>hE _ _ _ _ ⟨.inr (.inr ⟨rfl,hz⟩),rfl,λH2 e2=>q H2 (e'.trans e2).et (htb.ext (e'.trans e2))⟩;have gt2:z=Gp "great"->sj K H (E9 [some (.int way),some v,some (.ref pa),some (.int lv),none]):=λhz H' e' t'=>hE _ _ _ _ ⟨.inr (.inr ⟨rfl,hz⟩),rfl,λH2 e2=>q H2 (e'.trans e2.et) (t'.ext e2)⟩;rcases hw with rfl|rfl|rfl|rfl|rfl
    ·walk_at"";refine ax ?_;walk_at"";refine⟨v,pa,lv,rfl,.inr ⟨m,ws,x,h1,h2,h3,?_⟩⟩;rcases h4 with⟨_,h4,hz⟩|⟨_,h4,h5,hz⟩|⟨_,h4,h5,hz⟩|⟨h4,h5,hz⟩
     ·exact .inl ⟨h4,pl hz⟩
     ·exact .inr (.inl ⟨h4,h5,gt hz⟩)
     ·exact .inr (.inr ⟨h4,dis,htb,.inl ⟨h5,gt2 hz⟩⟩)
     ·refine .inr (.inr ⟨h5,dis,htb,.inr ⟨by omega,λl G H' e' t' _ _=>?_⟩⟩);walk_at"";rw[←hz];exact q H' e' t'
    ·walk_at"";refine aq ?_;walk_at"";refine ax ?_;walk_at"";refine⟨v,pa,rfl,.inr ⟨m,ws,x,h1,h2,h3,?_⟩⟩;rcases h4 with⟨_,h4,hz⟩|⟨_,h4,h5,hz⟩|⟨h4,_⟩|⟨h4,h5,hz⟩
     ·exact .inl ⟨h4,pl hz⟩
     ·exact .inr (.inl ⟨h4,h5,gt hz⟩)
     ·omega
     ·refine .inr (.inr ⟨h5,dis,htb,λl xs H' e' t' _ _=>?_⟩);walk_at"";rw[←hz];exact q H' e' t'
    ·walk_at"";refine aq ?_;walk_at"";refine aq ?_;walk_at"";refine ax ?_;walk_at"";refine⟨v,rfl,.inr ⟨m,ws,h1,h2,dis,htb,λl H' e' t' _=>?_⟩⟩;rcases h4 with⟨h4,_⟩|⟨h4,_⟩|⟨h4,_⟩|⟨_,h5,hz⟩
     ·omega
     ·omega
     ·omega
     walk_at"";rw[←hz];exact q H' e' t'
    ·walk_at"";refine aq ?_;walk_at"";refine aq ?_;walk_at"";refine aq ?_;walk_at"";refine ax ?_;walk_at"";refine⟨v,rfl,.inr ⟨m,ws,h1,h2,dis,htb,λl H' e' t' _=>?_⟩⟩;rcases h4 with⟨h4,_⟩|⟨h4,_⟩|⟨h4,_⟩|⟨_,h5,hz⟩
     ·omega
     ·omega
     ·omega
     walk_at"";rw[←hz];exact q H' e' t'
    ·walk_at"";refine aq ?_;walk_at"";refine aq ?_;walk_at"";refine aq ?_;walk_at"";refine aq ?_;walk_at"";refine⟨v,rfl,.inr ⟨m,ws,h1,h2,dis,htb,λl H' e' t' _ _=>?_⟩⟩;rcases h4 with⟨h4,_⟩|⟨h4,_⟩|⟨h4,_⟩|⟨_,h5,hz⟩
     ·omega
     ·omega
     ·omega
     walk_at"";rw[←hz];exact q H' e' t'
  ·rintro σ1 Dx da H1 ⟨hd,rfl,q⟩;obtain⟨u1,u2,b1,b3,b4,b5,hk,hz⟩:=yQ XF hd;refine⟨u1,u2,λx hx=>?_⟩;walk_at"";exact⟨b1,b3,b4,b5,z,rfl,hk,hz,q⟩
def u7(K:FD):Sp:=λvs H Q _=>∃v m ws c p,vs=[v,.int c,.int p]/\bh H v m ws/\HOuse m ws/\0<p/\∀a r n H',Ext H H'->aB H' a (r,n)->0<=r->r<m->0<=n->n<=12->Q (.ref a) H'
abbrev nN:Stmt:=stq 76
def xu:FnScope ["_law_house_here","_law_cell_here","_law_prime","_law_draws_here"] ["_law_house_here","_law_cell_here","_law_prime"] (aA nN):=⟨rfl,rfl,rfl,by decide +kernel,rfl,by decide +kernel,by decide +kernel⟩
def Fg{P:Program}{w:World}{K:FD}{mg:Str->Option Value}{base:Heap}(D:Dfn K mg "_law_place" nN ["_law_house_here","_law_cell_here","_law_prime"])(T:Blt mg)(C__law_draws:Cal P w K mg base "_law_draws" 2 ["_law_cell_here","_law_widths","_law_prime"] (gn K)):Cal P w K mg base "_law_place" 3 ["_law_house_here","_law_cell_here","_law_prime"] (u7 K):=by
 have nd:=(xu).nd;refine D.ok xu (λvs H Q E h=>?_) (λX hX H vs Q E h=>?_)
 ·obtain⟨v,m,ws,c,p,rfl,_⟩:=h;rfl
 ·obtain⟨f,cdv,A,outer,s,H0,E0,rfl,hr⟩:=hX;obtain⟨v,m,ws,c,p,rfl,hv,ok,hp,q⟩:=h;have m1:=ok.m1;refine⟨_,(ai (aM (i:=3) nd rfl (Or.inl rfl) (aD C__law_draws hr (aa (pv 1) (aa (bo (aa af (aa af ae))) (aa (pv 2) ae)))))
    (aj (aG (aR (aa (av cj (ah (aF K) (pv 3) af (λ_ _=>rfl)) (ah (aH K) (pv 0) af (λ_ _=>rfl))) (aa (ah (aF K) (pv 3) af (λ_ _=>rfl)) ae)))))),?_⟩
  walk_at"";refine aw λw0 G1 f1 hw0 _=>?_;walk_at"";refine iG [12,13] hw0 (by decide) (by decide) hp λdq ds H1 e1 hd hdn hl hb=>?_;have eH:Ext H H1:=f1.trans e1;obtain⟨d0,g0,_⟩:=cP hl hb 0 rfl;obtain⟨d1,g1,b10,b11⟩:=cP hl hb 1 rfl;obtain⟨hh,t,rfl,k1,k2⟩:=hv.ext eH;walk_at"";refine aE (ag.of hd) g0 ?_;walk_at"";refine aI (ao.of k1) (v:=.int m) rfl ?_
  try refine rd_I (show(0:Int)<m by omega) ?_
  walk_at"";refine aE (ag.of hd) g1 ?_;walk_at"";refine aw λa H2 e2 ha _=>?_;exact q a _ _ H2 (eH.trans e2) ha (Int.emod_nonneg _ (by omega)) (Int.emod_lt_of_pos _ (by omega)) (by omega) (by omega)
local macro_rules|`(tactic| walk_at "ds") => do
 let ts ← ("cons nil tup lst c var un U CB".splitOn " ").toArray.mapM λn =>
  let i := Lean.mkIdent (.mkSimple ("rd_" ++ n))
  if n == "var" then `(tacticSeq| ((with_reducible apply $i); (exact rfl)))
  else `(tacticSeq| with_reducible refine $i ?_)
 `(tactic| repeat (first $[| $ts]*|dsimp only))
def cn(H:Hp)(xs:List V):Prop:=∀x∈xs,cY H x
def cn.nil(H:Hp):cn H []:=λx hx=>by cases hx
def cn.cons{H:Hp}{x:V}{xs:List V}(h:cY H x)(h':cn H xs):cn H (x::xs):=λy hy=>by
 rcases FX.mp hy with rfl|hy
 ·exact h
 ·exact h' y hy
def cn.ext{H H':Hp}{xs:List V}(e:Ext H H')(h:cn H xs):cn H' xs:=λx hx=>(h x hx).ext e
def cn.app{H:Hp}{xs ys:List V}(h:cn H xs)(h':cn H ys):cn H (xs++ys):=λx hx=>(F8.mp hx).elim (h x) (h' x)
def jO(H:Hp)(m:Int)(v:V):Prop:=bp H 2 v/\bP H m v=false
def jO.ext{H H':Hp}{m:Int}{v:V}(e:Ext H H')(h:jO H m v):jO H' m v:=⟨h.1.ext e,(lC e h.1).trans h.2⟩
def gH(H:Hp)(m:Int)(xs:List V):Prop:=∀x∈xs,jO H m x
def gH.nil(H:Hp)(m:Int):gH H m []:=λx hx=>by cases hx
def gH.cons{H:Hp}{m:Int}{x:V}{xs:List V}(h:jO H m x)(h':gH H m xs):gH H m (x::xs):=λy hy=>by
 rcases FX.mp hy with rfl|hy
 ·exact h
 ·exact h' y hy
def AU{H:Hp}{p:Addr}{xs:List V}(h:H p=some (.lst xs)):dj H (.ref p)=false:=by unfold dj;dsimp only;rw[h]
def vH{H:Hp}{m:Int}{p:Addr}{xs:List V}(h:H p=some (.lst xs)):dW H m (.ref p)=false:=by unfold dW;dsimp only;rw[h]
def ES{H:Hp}{m:Int}{p:Addr}{xs:List V}(h:H p=some (.lst xs)):bP H m (.ref p)=false:=by unfold bP;dsimp only;rw[h]
def jL{H:Hp}{m:Int}{q:V}(h:dW H m q=false):dP H [.int m,q]=false:=by unfold dP;dsimp only;rw[h,Bool.and_false,Bool.and_false]
def qS{H:Hp}{m:Int}{q:V}(h:m<1\/12<m):dP H [.int m,q]=false:=by
 unfold dP;dsimp only;rcases h with h|h
 ·rw[GD (show ¬1<=m by omega)];rfl
 ·rw[GD (show ¬m<=12 by omega),Bool.false_and,Bool.and_false]
def BB{H:Hp}{m:Int}{xs:List V}{x:V}(hx:x∈xs):fm H m (xs++[x])=false:=by
 unfold fm;have:¬((xs++[x]).map (cZ H)).Nodup:=by rw[FZ,List.nodup_append];rintro⟨_,_,h⟩;exact h (cZ H x) (List.mem_map.mpr ⟨x,hx,rfl⟩) (cZ H x) (List.mem_map.mpr ⟨x,FT.mpr rfl,rfl⟩) rfl
 rw[GD this,Bool.and_false,Bool.and_false]
def dl(f:Addr)(H:Hp):Hp:=λb=>if b=f then none else H b
def gm{f:Addr}{H:Hp}:dl f H f=none:=GH rfl
def fC{f b:Addr}{H:Hp}(h:b≠f):dl f H b=H b:=GG h
def dm(f:Addr){H H':Hp}(e:Ext H H'):Ext (dl f H) (dl f H'):=λb o h=>by
 by_cases z:b=f
 ·rw[z,gm]at h;cases h
 ·rw[fC z]at h ⊢;exact e b o h
def gU(f:Addr)(H:Hp):Ext (dl f H) H:=λb o h=>by
 by_cases z:b=f
 ·rw[z,gm]at h;cases h
 ·rw[fC z]at h;exact h
def qg{f:Addr}{H:Hp}{o:HO}:dl f (upd H f o)=dl f H:=funext λb=>by
 by_cases z:b=f
 ·rw[z,gm,gm]
 ·rw[fC z,fC z,aC z]
def Eg{f:Addr}{H H':Hp}(n:H f=none)(e:Ext H H'):Ext H (dl f H'):=λb o h=>by rw[fC (λz=>by rw[z,n]at h;cases h)];exact e b o h
def dQ{f p:Addr}{H H':Hp}{o u:HO}(hf:H f=some u)(n:H p=none)(k:H' p=some o):dl f H' p=some o:=by rw[fC (λz=>by rw[z,hf]at n;cases n)];exact k
def gZ{f p:Addr}{H:Hp}{xs ys:List V}(hf:H f=some (.lst ys))(k:H p=some (.tup xs)):dl f H p=some (.tup xs):=by rw[fC (λz=>by rw[z,hf]at k;cases k)];exact k
def kD{f:Addr}{G H:Hp}(e:Ext (dl f G) H):Ext (dl f G) (dl f H):=λb o h=>by rw[fC (λz=>by rw[z,gm]at h;cases h)];exact e b o h
def mU{f:Addr}{G H:Hp}{o:HO}(e:Ext (dl f G) H):Ext (dl f G) (upd H f o):=λb u h=>by rw[aC (λz=>by rw[z,gm]at h;cases h)];exact e b u h
def zP{G G':Hp}{l:Addr}{xs:List V}(_k:G' l=some (.lst xs))(h:cn G xs):cn G xs:=h
def yo{G G':Hp}{m:Int}{l:Addr}{xs:List V}(_k:G' l=some (.lst xs))(h:gH G m xs):gH G m xs:=h
def E2{H H':Hp}{b:Addr}(e:Ext H H')(n:H' b=none):H b=none:=by
 cases h:H b with
 | none=>rfl
 | some o=>rw[e _ _ h]at n;cases n
def xf(K:FD):Sp:=λvs H Q _=>∃v m ws,vs=[v]/\bh H v m ws/\HOuse m ws/\∀l ys H',Ext H H'->H' l=some (.lst ys)->ys.length<=40->cn H' ys->Q (.ref l) H'
abbrev pj:Stmt:=stq 77
def wK:FnScope ["_law_house_here","_law_many","_law_ways","_law_bad","_law_way"] ["_law_house_here"] (aA pj):=⟨rfl,rfl,rfl,by decide +kernel,rfl,by decide +kernel,by decide +kernel⟩
def Bc{P:Program}{w:World}{K:FD}{mg:Str->Option Value}{base:Heap}(D:Dfn K mg "_law_bad_houses" pj ["_law_house_here"])(T:Blt mg):Cal P w K mg base "_law_bad_houses" 1 ["_law_house_here"] (xf K):=by
 have nd:=(wK).nd;refine D.ok wK (λvs H Q E h=>?_) (λX hX H vs Q E h=>?_)
 ·obtain⟨v,m,ws,rfl,_⟩:=h;rfl
 ·obtain⟨f,cdv,A,outer,s,H0,E0,rfl,hr⟩:=hX;obtain⟨v,m,ws,rfl,hv,ok,q⟩:=h;obtain⟨p,r,bs,rfl,h1,h2,hbl,hal,hts⟩:=vA hv ok;have m1:=ok.m1;have m2:=ok.m12;have hfew:=ok.few;have hxl:(bs.map V.ref).length<=100:=by rw[FH,hbl];exact hfew
  have hbl1:bs.length<=100:=by rw[hbl];exact hfew
  have tr:bp H 2 (.ref r):=bB h2 (Gh hxl (by decide)) hts;refine⟨_,(@ai _ _ _ _ _ (@gY _ _ _ _ _ _ (pv 0) (iX (n:=2) K rfl (dF (aS (i:=1) nd rfl (Or.inl rfl)) (dF (aS (i:=2) nd rfl (Or.inl rfl)) iI))) rfl rfl rfl)
    (@ai _ _ _ _ _ (@aM _ _ 3 _ _ _ _ nd rfl (Or.inl rfl) (@bo _ _ _ _ (@aa _ _ _ _ _ jU (@aa _ _ _ _ _ af (@aa _ _ _ _ _ az (@aa _ _ _ _ _ (@aR _ _ _ _ _ ae) (@aa _ _ _ _ _ (@aR _ _ _ _ _ (@aa _ _ _ _ _ af ae rfl)) (@aa _ _ _ _ _ (@bo _ _ _ _ (@aa _ _ _ _ _ af (@aa _ _ _ _ _ (@aR _ _ _ _ _ ae) ae rfl) rfl)) (@i5 _ _ _ _ _ (.tup (.cons .int (.cons (.tup .nil) .nil))) (@i5 _ _ _ _ _ (.tup (.cons .int (.cons (.tup .nil) .nil))) (@i5 _ _ _ _ _ (.tup (.cons .bl (.cons (.tup .nil) .nil))) (@aa _ _ _ _ _ (@aR _ _ _ _ _ (@aa _ _ _ _ _ af (@aa _ _ _ _ _ (@bo _ _ _ _ ae) ae rfl) rfl)) (@i5 _ _ _ _ _ (.tup (.cons .int (.cons (.tup .nil) (.cons (.tup .nil) .nil)))) (@aa _ _ _ _ _ (@aR _ _ _ _ _ (@aa _ _ _ _ _ (pv 1) (@aa _ _ _ _ _ (iM (Dz K) rfl T.list_ PyProof.Rows.boot_list (@aa _ _ _ _ _ (pv 2) ae rfl)) ae rfl) rfl)) ae rfl)) rfl)))) rfl) rfl) rfl) rfl) rfl) rfl)) rfl (Or.inl rfl))
    (@ai _ _ _ _ _ (bV PassesOwn.never rfl (cD K (@bo _ _ _ _ (@aa _ _ _ _ _ (@aR _ _ _ _ _ (@aa _ _ _ _ _ af (@aa _ _ _ _ _ az (@aa _ _ _ _ _ (pv 1) (@aa _ _ _ _ _ az ae rfl) rfl) rfl) rfl)) (@aa _ _ _ _ _ (@aR _ _ _ _ _ (@aa _ _ _ _ _ (pv 1) (@aa _ _ _ _ _ az (@aa _ _ _ _ _ af (@aa _ _ _ _ _ az ae rfl) rfl) rfl) rfl)) (@aa _ _ _ _ _ (@aR _ _ _ _ _ (@aa _ _ _ _ _ af (@aa _ _ _ _ _ az (@aa _ _ _ _ _ af (@aa _ _ _ _ _ az ae rfl) rfl) rfl) rfl)) (@aa _ _ _ _ _ (@aR _ _ _ _ _ (@aa _ _ _ _ _ af (@aa _ _ _ _ _ az (@aa _ _ _ _ _ af (@aa _ _ _ _ _ az ae rfl) rfl) rfl) rfl)) (@aa _ _ _ _ _ (@aR _ _ _ _ _ (@aa _ _ _ _ _ af (@aa _ _ _ _ _ az (@aa _ _ _ _ _ af (@aa _ _ _ _ _ az ae rfl) rfl) rfl) rfl)) ae rfl) rfl) rfl) rfl) rfl))) (aS (i:=4) nd rfl (Or.inl rfl)) (@aj _ _ _ (aZ (bC K FP F6 F7 bL (pv 3) (@aa _ _ _ _ _ (@aR _ _ _ _ _ (@aa _ _ _ _ _ (pv 1) (@aa _ _ _ _ _ (av oo (gj mI (pv 2) gO (fF af)) (@aR _ _ _ _ _ (@aa _ _ _ _ _ (pv 4) ae rfl))) ae rfl) rfl)) ae rfl)))))
    (@ai _ _ _ _ _ (bV PassesOwn.never rfl (cD K (@bo _ _ _ _ (@aa _ _ _ _ _ (@aR _ _ _ _ _ (@aa _ _ _ _ _ af (@aa _ _ _ _ _ az (@aa _ _ _ _ _ af ae rfl) rfl) rfl)) (@aa _ _ _ _ _ (@bo _ _ _ _ (@aa _ _ _ _ _ af (@aa _ _ _ _ _ az (@aa _ _ _ _ _ af (@aa _ _ _ _ _ az ae rfl) rfl) rfl) rfl)) (@aa _ _ _ _ _ (@aR _ _ _ _ _ (@aa _ _ _ _ _ (eM eE af) (@aa _ _ _ _ _ az (@aa _ _ _ _ _ af (@aa _ _ _ _ _ az ae rfl) rfl) rfl) rfl)) (@aa _ _ _ _ _ (@aR _ _ _ _ _ (@aa _ _ _ _ _ af (@aa _ _ _ _ _ az (@aa _ _ _ _ _ bN (@aa _ _ _ _ _ az ae rfl) rfl) rfl) rfl)) (@aa _ _ _ _ _ (@aR _ _ _ _ _ (@aa _ _ _ _ _ af (@aa _ _ _ _ _ jU (@aa _ _ _ _ _ af (@aa _ _ _ _ _ az ae rfl) rfl) rfl) rfl)) (@aa _ _ _ _ _ jU ae rfl) rfl) rfl) rfl) rfl) rfl))) (aS (i:=4) nd rfl (Or.inl rfl)) (@aj _ _ _ (aZ (bC K FP F6 F7 bL (pv 3) (@aa _ _ _ _ _ (@aR _ _ _ _ _ (@aa _ _ _ _ _ (pv 1) (@aa _ _ _ _ _ (av oo (gj mI (pv 2) gO (fF af)) (@aR _ _ _ _ _ (@aa _ _ _ _ _ (pv 4) ae rfl))) ae rfl) rfl)) ae rfl)))))
    (@ai _ _ _ _ _ (cE (aT fK (bq (dD K) rfl T.len_ PySem.boot_len (@aa _ _ _ _ _ (pv 2) ae rfl)) af (aP _)) (@aj _ _ _ (aZ (bC K FP F6 F7 bL (pv 3) (@aa _ _ _ _ _ (@aR _ _ _ _ _ (@aa _ _ _ _ _ (pv 1) (@aa _ _ _ _ _ (av oo (pv 2) (gj mI (pv 2) gO (fF af))) ae rfl) rfl)) ae rfl)))) aU)
    (@aj _ _ _ (@aG _ _ _ _ (pv 3)))))))),?_⟩
  walk_at"";refine jF (ao.of h1) rfl ?_;walk_at"";refine aw λp1 G1 e1 k1 n1=>?_;walk_at "ds";refine aw λp2 G2 e2 k2 n2=>?_;walk_at "ds";refine aw λp3 G3 e3 k3 n3=>?_;walk_at "ds";refine aw λp4 G4 e4 k4 n4=>?_;walk_at "ds";refine aw λp5 G5 e5 k5 n5=>?_;walk_at "ds";refine aw λp6 G6 e6 k6 n6=>?_;walk_at "ds";refine aw λp7 G7 e7 k7 n7=>?_;walk_at "ds";refine aw λp8 G8 e8 k8 n8=>?_;walk_at "ds";refine aw λp9 G9 e9 k9 n9=>?_;walk_at "ds";refine aw λp10 G10 e10 k10 n10=>?_;walk_at "ds";refine aw λp11 G11 e11 k11 n11=>?_;walk_at "ds";refine aw λp12 G12 e12 k12 n12=>?_;walk_at "ds";refine aw λp13 G13 e13 k13 n13=>?_;walk_at "ds";refine aw λp14 G14 e14 k14 n14=>?_;walk_at "ds";refine aw λp15 G15 e15 k15 n15=>?_;walk_at "ds";refine zG (ao.of ((e1.trans (e2.trans (e3.trans (e4.trans (e5.trans (e6.trans (e7.trans (e8.trans (e9.trans (e10.trans (e11.trans (e12.trans (e13.trans (e14.trans e15)))))))))))))) _ _ h2)) (cM λp16 G16 e16 k16 _=>?_);walk_at "ds";refine aw λp17 G17 e17 k17 n17=>?_;walk_at "ds";refine aw λp18 G18 e18 k18 n18=>?_;walk_at"";have F1:=zP (G:=G17) k18 (.cons ⟨(nK _ _),rfl⟩ (.cons ⟨(bA _ _ _),rfl⟩ (.cons ⟨(cb _ _ (by decide +kernel)),rfl⟩ (.cons ⟨((bB (n:=3) k1 (by simp) (.nil _ _)).ext (e2.trans (e3.trans (e4.trans (e5.trans (e6.trans (e7.trans (e8.trans (e9.trans (e10.trans (e11.trans (e12.trans (e13.trans (e14.trans (e15.trans (e16.trans e17)))))))))))))))),((dH ((e2.trans (e3.trans (e4.trans (e5.trans (e6.trans (e7.trans (e8.trans (e9.trans (e10.trans (e11.trans (e12.trans (e13.trans (e14.trans (e15.trans (e16.trans e17))))))))))))))) _ _ k1)).trans (kr (by simp)))⟩ (.cons ⟨((bB (n:=3) k2 (by simp) (.cons (bA _ _ _) (.nil _ _))).ext (e3.trans (e4.trans (e5.trans (e6.trans (e7.trans (e8.trans (e9.trans (e10.trans (e11.trans (e12.trans (e13.trans (e14.trans (e15.trans (e16.trans e17))))))))))))))),((dH ((e3.trans (e4.trans (e5.trans (e6.trans (e7.trans (e8.trans (e9.trans (e10.trans (e11.trans (e12.trans (e13.trans (e14.trans (e15.trans (e16.trans e17)))))))))))))) _ _ k2)).trans (kr (by simp)))⟩ (.cons ⟨((kI (n:=3) k4 (by simp) (.cons (bA _ _ _) (.cons ((bB (n:=2) k3 (by simp) (.nil _ _)).ext e4) (.nil _ _)))).ext (e5.trans (e6.trans (e7.trans (e8.trans (e9.trans (e10.trans (e11.trans (e12.trans (e13.trans (e14.trans (e15.trans (e16.trans e17))))))))))))),(AU ((e5.trans (e6.trans (e7.trans (e8.trans (e9.trans (e10.trans (e11.trans (e12.trans (e13.trans (e14.trans (e15.trans (e16.trans e17)))))))))))) _ _ k4))⟩ (.cons ⟨((bB (n:=3) k6 (by simp) (.cons (bA _ _ _) (.cons ((bB (n:=2) k5 (by simp) (.nil _ _)).ext e6) (.nil _ _)))).ext (e7.trans (e8.trans (e9.trans (e10.trans (e11.trans (e12.trans (e13.trans (e14.trans (e15.trans (e16.trans e17))))))))))),((dH ((e7.trans (e8.trans (e9.trans (e10.trans (e11.trans (e12.trans (e13.trans (e14.trans (e15.trans (e16.trans e17)))))))))) _ _ k6)).trans (qS (by decide)))⟩ (.cons ⟨((bB (n:=3) k8 (by simp) (.cons (bA _ _ _) (.cons ((bB (n:=2) k7 (by simp) (.nil _ _)).ext e8) (.nil _ _)))).ext (e9.trans (e10.trans (e11.trans (e12.trans (e13.trans (e14.trans (e15.trans (e16.trans e17))))))))),((dH ((e9.trans (e10.trans (e11.trans (e12.trans (e13.trans (e14.trans (e15.trans (e16.trans e17)))))))) _ _ k8)).trans (qS (by decide)))⟩ (.cons ⟨((bB (n:=3) k10 (by simp) (.cons (uD _ _ _) (.cons ((bB (n:=2) k9 (by simp) (.nil _ _)).ext e10) (.nil _ _)))).ext (e11.trans (e12.trans (e13.trans (e14.trans (e15.trans (e16.trans e17))))))),((dH ((e11.trans (e12.trans (e13.trans (e14.trans (e15.trans (e16.trans e17)))))) _ _ k10)).trans rfl)⟩ (.cons ⟨((bB (n:=3) k12 (by simp) (.cons (bA _ _ _) (.cons ((kI (n:=2) k11 (by simp) (.nil _ _)).ext e12) (.nil _ _)))).ext (e13.trans (e14.trans (e15.trans (e16.trans e17))))),((dH ((e13.trans (e14.trans (e15.trans (e16.trans e17)))) _ _ k12)).trans (jL (vH ((e12.trans (e13.trans (e14.trans (e15.trans (e16.trans e17))))) _ _ k11))))⟩ (.cons ⟨((bB (n:=3) k15 (by simp) (.cons (bA _ _ _) (.cons ((bB (n:=2) k13 (by simp) (.nil _ _)).ext (e14.trans e15)) (.cons ((bB (n:=2) k14 (by simp) (.nil _ _)).ext e15) (.nil _ _))))).ext (e16.trans e17)),((dH ((e16.trans e17) _ _ k15)).trans (kr (by simp)))⟩ (.cons ⟨(bB (n:=3) k17 (by simp) (.cons (bA _ _ _) (.cons ((kI (n:=2) k16 (Gh hxl (by decide)) (hts.up.ext (e1.trans (e2.trans (e3.trans (e4.trans (e5.trans (e6.trans (e7.trans (e8.trans (e9.trans (e10.trans (e11.trans (e12.trans (e13.trans (e14.trans (e15.trans e16))))))))))))))))).ext e17) (.nil _ _)))),((dH k17).trans (jL (vH (e17 _ _ k16))))⟩ (.nil _)))))))))))));have x0:Ext G17 (dl p18 G18):=Eg n18 e18;have F2:=F1.ext x0;have bH:Ext H (dl p18 G18):=Ext.trans (e1.trans (e2.trans (e3.trans (e4.trans (e5.trans (e6.trans (e7.trans (e8.trans (e9.trans (e10.trans (e11.trans (e12.trans (e13.trans (e14.trans (e15.trans (e16.trans e17)))))))))))))))) x0;have fn:H p18=none:=E2 (e1.trans (e2.trans (e3.trans (e4.trans (e5.trans (e6.trans (e7.trans (e8.trans (e9.trans (e10.trans (e11.trans (e12.trans (e13.trans (e14.trans (e15.trans (e16.trans e17)))))))))))))))) n18;have hf18:=k18;clear F1 x0 k1 n1 k2 n2 k3 n3 k4 n4 k5 n5 k6 n6 k7 n7 k8 n8 k9 n9 k10 n10 k11 n11 k12 n12 k13 n13 k14 n14 k15 n15 k17 n17 k18 n18 e1 e2 e3 e4 e5 e6 e7 e8 e9 e10 e11 e12 e13 e14 e15 e16 e17 e18;refine aw λp19 G19 e19 k19 n19=>?_;walk_at "ds";have q19:=dQ hf18 n19 k19;have d19:=dm p18 e19;have hf19:=e19 _ _ hf18;clear k19 n19 hf18;refine aw λp20 G20 e20 k20 n20=>?_;walk_at "ds";have q20:=dQ hf19 n20 k20;have d20:=dm p18 e20;have hf20:=e20 _ _ hf19;clear k20 n20 hf19;refine aw λp21 G21 e21 k21 n21=>?_;walk_at "ds";have q21:=dQ hf20 n21 k21;have d21:=dm p18 e21;have hf21:=e21 _ _ hf20;clear k21 n21 hf20;refine aw λp22 G22 e22 k22 n22=>?_;walk_at "ds";have q22:=dQ hf21 n22 k22;have d22:=dm p18 e22;have hf22:=e22 _ _ hf21;clear k22 n22 hf21;refine aw λp23 G23 e23 k23 n23=>?_;walk_at "ds";have q23:=dQ hf22 n23 k23;have d23:=dm p18 e23;have hf23:=e23 _ _ hf22;clear k23 n23 hf22;refine aw λp24 G24 e24 k24 n24=>?_;walk_at"";have kk24:=k24;have q24:=dQ hf23 n24 k24;have d24:=dm p18 e24;have hf24:=e24 _ _ hf23;clear k24 n24 hf23;have W1:=yo (G:=dl p18 G24) (m:=m) kk24 (.cons ⟨((bB (n:=1) q19 (by simp) (.cons (bA _ _ _) (.cons (cb _ _ (by decide +kernel)) (.cons (bA _ _ _) (.cons (cb _ _ (by decide +kernel)) (.nil _ _)))))).ext (d20.trans (d21.trans (d22.trans (d23.trans d24))))),((eB ((d20.trans (d21.trans (d22.trans (d23.trans d24)))) _ _ q19)).trans (gy (.inr (.inl (rW (Int.le_refl _))))))⟩ (.cons ⟨((bB (n:=1) q20 (by simp) (.cons (bA _ _ _) (.cons (cb _ _ (by decide +kernel)) (.cons (bA _ _ _) (.cons (cb _ _ (by decide +kernel)) (.nil _ _)))))).ext (d21.trans (d22.trans (d23.trans d24)))),((eB ((d21.trans (d22.trans (d23.trans d24))) _ _ q20)).trans (gy (.inl (rW (Int.le_refl _)))))⟩ (.cons ⟨((bB (n:=1) q21 (by simp) (.cons (bA _ _ _) (.cons (cb _ _ (by decide +kernel)) (.cons (bA _ _ _) (.cons (cb _ _ (by decide +kernel)) (.nil _ _)))))).ext (d22.trans (d23.trans d24))),((eB ((d22.trans (d23.trans d24)) _ _ q21)).trans (gy (.inr (.inr (.inl (by decide +kernel))))))⟩ (.cons ⟨((bB (n:=1) q22 (by simp) (.cons (bA _ _ _) (.cons (cb _ _ (by decide +kernel)) (.cons (bA _ _ _) (.cons (cb _ _ (by decide +kernel)) (.nil _ _)))))).ext (d23.trans d24)),((eB ((d23.trans d24) _ _ q22)).trans (gy (.inr (.inr (.inr (by decide +kernel))))))⟩ (.cons ⟨((bB (n:=1) q23 (by simp) (.cons (bA _ _ _) (.cons (cb _ _ (by decide +kernel)) (.cons (bA _ _ _) (.cons (cb _ _ (by decide +kernel)) (.nil _ _)))))).ext d24),((eB (d24 _ _ q23)).trans (gy (.inr (.inr (.inr (by decide +kernel))))))⟩ (.nil _ _))))));have F2:=F2.ext (d19.trans (d20.trans (d21.trans (d22.trans (d23.trans d24)))));have bH:=bH.trans (d19.trans (d20.trans (d21.trans (d22.trans (d23.trans d24)))));have nf24:p24≠p18:=λz=>by rw[z,gm]at q24;cases q24
  clear d19 e19 d20 e20 d21 e21 d22 e22 d23 e23 d24 e24 q19 q20 q21 q22 q23;have qL:dl p18 G24 p24=_:=(fC nf24).trans kk24;refine cG (ag.of kk24) ?_;refine forL (xs:=_) (λi σ H'=>Ext (dl p18 G24) H'/\∃k ys,σ=[some (.ref p),some (.int m),some (.ref r),some (.ref p18),k]/\H' p18=some (.lst ys)/\ys.length=12+i/\cn (dl p18 H') ys) ⟨gU p18 G24,_,_,rfl,hf24,rfl,F2⟩ (λi σ H' _ h=>ag.of (h.1 _ _ qL)) ?_ ?_
  ·rintro i x σ H' hx ⟨e',k,ys,rfl,hf',hyl2,hys⟩;have hi:=(FQ.mp hx).1;simp only[Ge,List.length_nil]at hi;have h2':=(bH.trans e') _ _ h2;have eI:Ext (dl p18 G24) (dl p18 H'):=kD e';have nxd:=(W1 x (FR hx)).ext eI;have htd:=hts.ext (bH.trans eI);walk_at"";refine⟨cH (ag.of hf'),?_⟩;walk_at"";refine ni h2' λu0 J0 j0 v0=>?_;walk_at"";refine aw λu1 J1 j1 v1 _=>?_;walk_at"";have cl1:=om (lo:=none) (hi:=some 99) hxl;refine mE (j1 _ _ v0) v1 (gD (by simp only[Ge,List.length_nil];omega)) λu2 J2 j2 v2=>?_;walk_at"";refine aw λu3 J3 j3 v3 _=>?_;walk_at"";have eA:=j0.trans (j1.trans (j2.trans j3));have hfJ:=eA _ _ hf';refine bT hfJ (cK (by omega)) ?_;walk_at"";have w2:=gZ hfJ (j3 _ _ v2);have w3:=gZ hfJ v3;have eD:=dm p18 eA;have t3:bp (dl p18 J3) 3 (.ref u2):=bB w2 (by simp only[F0,Ge,List.length_nil];omega) ((htd.cut.up.ext eD).app (.cons (nxd.ext eD).1 (.nil _ _)));have t4:cY (dl p18 J3) (.ref u3):=⟨bB w3 (by simp) (.cons (bA _ _ _) (.cons t3 (.nil _ _))),(dH w3).trans (jL ((jf w2).trans (rG (Gr _ (FT.mpr rfl)) (nxd.ext eD).2)))⟩;exact⟨mU (e'.trans eA),_,_,rfl,aN,by rw[F0,hyl2];rfl,by rw[qg];exact(hys.ext eD).app (.cons t4 (.nil _))⟩
  rintro σ G25 ⟨ee,kq,ys,rfl,hf25,hyl,F2⟩;simp only[Ge,List.length_nil]at hyl;have bH:Ext H (dl p18 G25):=bH.trans (kD ee);clear ee qL kk24 q24 W1 nf24 hf24;walk_at"";refine aw λp26 G26 e26 k26 n26=>?_;walk_at "ds";have q26:=dQ hf25 n26 k26;have d26:=dm p18 e26;have hf26:=e26 _ _ hf25;clear k26 n26 hf25;refine aw λp27 G27 e27 k27 n27=>?_;walk_at "ds";have q27:=dQ hf26 n27 k27;have d27:=dm p18 e27;have hf27:=e27 _ _ hf26;clear k27 n27 hf26;refine aw λp28 G28 e28 k28 n28=>?_;walk_at "ds";have q28:=dQ hf27 n28 k28;have d28:=dm p18 e28;have hf28:=e28 _ _ hf27;clear k28 n28 hf27;refine aw λp29 G29 e29 k29 n29=>?_;walk_at "ds";have q29:=dQ hf28 n29 k29;have d29:=dm p18 e29;have hf29:=e29 _ _ hf28;clear k29 n29 hf28;refine aw λp30 G30 e30 k30 n30=>?_;walk_at "ds";have q30:=dQ hf29 n30 k30;have d30:=dm p18 e30;have hf30:=e30 _ _ hf29;clear k30 n30 hf29;refine aw λp31 G31 e31 k31 n31=>?_;walk_at"";have kk31:=k31;have q31:=dQ hf30 n31 k31;have d31:=dm p18 e31;have hf31:=e31 _ _ hf30;clear k31 n31 hf30;have W2:=yo (G:=dl p18 G31) (m:=m) kk31 (.cons ⟨((bB (n:=1) q26 (by simp) (.cons (bA _ _ _) (.cons (cb _ _ (by decide +kernel)) (.cons (bA _ _ _) (.nil _ _))))).ext (d27.trans (d28.trans (d29.trans (d30.trans d31))))),((eB ((d27.trans (d28.trans (d29.trans (d30.trans d31)))) _ _ q26)).trans (qz (by simp)))⟩ (.cons ⟨((kI (n:=1) q27 (by simp) (.cons (bA _ _ _) (.cons (cb _ _ (by decide +kernel)) (.cons (bA _ _ _) (.cons (cb _ _ (by decide +kernel)) (.nil _ _)))))).ext (d28.trans (d29.trans (d30.trans d31)))),(ES ((d28.trans (d29.trans (d30.trans d31))) _ _ q27))⟩ (.cons ⟨((bB (n:=1) q28 (by simp) (.cons (bA _ _ _) (.cons (cb _ _ (by decide +kernel)) (.cons (bA _ _ _) (.cons (cb _ _ (by decide +kernel)) (.nil _ _)))))).ext (d29.trans (d30.trans d31))),((eB ((d29.trans (d30.trans d31)) _ _ q28)).trans (gy (.inl (Dk (by decide)))))⟩ (.cons ⟨((bB (n:=1) q29 (by simp) (.cons (bA _ _ _) (.cons (cb _ _ (by decide +kernel)) (.cons (uD _ _ _) (.cons (cb _ _ (by decide +kernel)) (.nil _ _)))))).ext (d30.trans d31)),((eB ((d30.trans d31) _ _ q29)).trans (gy (.inr (.inl rfl))))⟩ (.cons ⟨((bB (n:=1) q30 (by simp) (.cons (bA _ _ _) (.cons (nK _ _) (.cons (bA _ _ _) (.cons (cb _ _ (by decide +kernel)) (.nil _ _)))))).ext d31),((eB (d31 _ _ q30)).trans (gy (.inr (.inr (.inl rfl)))))⟩ (.cons ⟨(nK _ _),rfl⟩ (.nil _ _)))))));have F2:=F2.ext (d26.trans (d27.trans (d28.trans (d29.trans (d30.trans d31)))));have bH:=bH.trans (d26.trans (d27.trans (d28.trans (d29.trans (d30.trans d31)))));have nf31:p31≠p18:=λz=>by rw[z,gm]at q31;cases q31
  clear d26 e26 d27 e27 d28 e28 d29 e29 d30 e30 d31 e31 q26 q27 q28 q29 q30;have qL:dl p18 G31 p31=_:=(fC nf31).trans kk31;refine cG (ag.of kk31) ?_;refine forL (xs:=_) (λi σ H'=>Ext (dl p18 G31) H'/\∃k ys,σ=[some (.ref p),some (.int m),some (.ref r),some (.ref p18),k]/\H' p18=some (.lst ys)/\ys.length=17+i/\cn (dl p18 H') ys) ⟨gU p18 G31,_,_,rfl,hf31,hyl,F2⟩ (λi σ H' _ h=>ag.of (h.1 _ _ qL)) ?_ ?_
  ·rintro i x σ H' hx ⟨e',k,ys,rfl,hf',hyl2,hys⟩;have hi:=(FQ.mp hx).1;simp only[Ge,List.length_nil]at hi;have h2':=(bH.trans e') _ _ h2;have eI:Ext (dl p18 G31) (dl p18 H'):=kD e';have nxd:=(W2 x (FR hx)).ext eI;have htd:=hts.ext (bH.trans eI);walk_at"";refine⟨cH (ag.of hf'),?_⟩;walk_at"";refine ni h2' λu0 J0 j0 v0=>?_;walk_at"";refine aw λu1 J1 j1 v1 _=>?_;walk_at"";have cl1:=om (lo:=none) (hi:=some 99) hxl;refine mE (j1 _ _ v0) v1 (gD (by simp only[Ge,List.length_nil];omega)) λu2 J2 j2 v2=>?_;walk_at"";refine aw λu3 J3 j3 v3 _=>?_;walk_at"";have eA:=j0.trans (j1.trans (j2.trans j3));have hfJ:=eA _ _ hf';refine bT hfJ (cK (by omega)) ?_;walk_at"";have w2:=gZ hfJ (j3 _ _ v2);have w3:=gZ hfJ v3;have eD:=dm p18 eA;have t3:bp (dl p18 J3) 3 (.ref u2):=bB w2 (by simp only[F0,Ge,List.length_nil];omega) ((htd.cut.up.ext eD).app (.cons (nxd.ext eD).1 (.nil _ _)));have t4:cY (dl p18 J3) (.ref u3):=⟨bB w3 (by simp) (.cons (bA _ _ _) (.cons t3 (.nil _ _))),(dH w3).trans (jL ((jf w2).trans (rG (Gr _ (FT.mpr rfl)) (nxd.ext eD).2)))⟩;exact⟨mU (e'.trans eA),_,_,rfl,aN,by rw[F0,hyl2];rfl,by rw[qg];exact(hys.ext eD).app (.cons t4 (.nil _))⟩
  rintro σ G32 ⟨ee,kq,ys,rfl,hf32,hyl,F2⟩;simp only[Ge,List.length_nil]at hyl;have bH:Ext H (dl p18 G32):=bH.trans (kD ee);clear ee qL kk31 q31 W2 nf31 hf31;walk_at"";have h2':=(bH.trans (gU p18 G32)) _ _ h2;refine bt ?_;walk_at"";refine hJ (ao.of h2') ?_;walk_at"";by_cases hb0:0<bs.length
  rotate_left
  ·rw[GD (show ¬(0:Int)<(((bs.map V.ref).length:Nat):Int) by rw[FH];omega)];refine aq ?_;walk_at"";exact q p18 ys G32 (bH.trans (gU _ _)) hf32 (by omega) (F2.ext (gU _ _))
  rw[GF (show(0:Int)<(((bs.map V.ref).length:Nat):Int) by rw[FH];omega)];refine ax ?_;walk_at"";refine⟨cH (ag.of hf32),?_⟩;walk_at"";refine ni h2' λu0 J0 j0 v0=>?_;walk_at"";have cl1:=om (lo:=none) (hi:=some 1) hxl;refine mE (j0 _ _ h2') v0 (gD (by omega)) λu2 J2 j2 v2=>?_;walk_at"";refine aw λu3 J3 j3 v3 _=>?_;walk_at"";have eA:=j0.trans (j2.trans j3);have hfJ:=eA _ _ hf32;refine bT hfJ (cK (by omega)) ?_;walk_at"";have w2:=gZ hfJ (j3 _ _ v2);have w3:=gZ hfJ v3;have eD:=dm p18 eA;have htd:=(hts.ext bH).ext eD;have t3:bp (dl p18 J3) 3 (.ref u2):=bB w2 (by rw[F0];omega) (htd.up.app htd.cut.up);have tw:fm (dl p18 J3) m (bs.map V.ref++bW (bs.map V.ref) none (some 1))=false:=by
   match bs,hb0 with
   | b0::bs',_=>
    rw[show bW (List.map V.ref (b0::bs')) none (some 1)=[V.ref b0]from(y7 (k:=1)).trans rfl];exact BB FO
  have t4:cY (dl p18 J3) (.ref u3):=⟨bB w3 (by simp) (.cons (bA _ _ _) (.cons t3 (.nil _ _))),(dH w3).trans (jL ((jf w2).trans tw))⟩;have F3:cn (dl p18 J3) (ys++[.ref u3]):=(F2.ext eD).app (.cons t4 (.nil _));exact q p18 _ _ (bH.trans (mU ((gU _ _).trans eA))) aN (by rw[F0,hyl];simp) (cn.ext (by rw[←qg];exact gU _ _) F3)
def qD{K:FD}{H:Hp}{a:Addr}{ns:List Int}{k:Int}{Q:VK}{xe:XK}(h1:ag K H a (ns.map V.int))(h2:ns.length<=63)(h3:0<=k)(q:∀z,Q (.int z) H):nW K [.ref a,.int k] H Q xe:=⟨a,ns,k,rfl,h1,h2,h3,q⟩
def gQ{z:Str}{H:Hp}{Q:VK}(h:Q (.bl false) H):j7 (.str z) (.str z) H Q:=yA (by rw[GF rfl];exact h)
def lY{z:Str}{H:Hp}{Q:VK}(h:Q (.bl true) H):jc (.str z) (.str z) H Q:=nI (by rw[GF rfl];exact h)
def xr(n:Nat):(Gu n true).all id=true:=by
 induction n with
 | zero=>rfl
 | succ n ih=>rw[List.replicate_succ,List.all_cons,ih];rfl
def rd(n:Nat)(c:Bool):(Gu n c).map V.bl++[V.bl c]=(Gu (n+1) c).map V.bl:=by rw[List.replicate_succ',FZ];rfl
def Ej{K:FD}{H:Hp}{v:V}{pa:Addr}{way lv:Int}{Q:VK}{E:XK}(w0:0<=way)(w4:way<=4)(hn:cY H v)(q:∀H',Ext H H'->Q (.str (Gp "house")) H'):iA K [.int way,v,.ref pa,.int lv] H Q E:=
 ⟨way,v,pa,lv,_,rfl,w0,w4,.inl ⟨hn,rfl,q⟩⟩
def qv{K:FD}{H:Hp}{v:V}{pa:Addr}{way lv m:Int}{ws:List Way}{x:Bfs.Pl}{Q:VK}{E:XK}(w0:0<=way)(w1:way<=1)(hv:bh H v m ws)(ok:HOuse m ws)(hx:aB H pa x)(hn:¬dv m x)(dis:dC K)(tb:Tbs K H)(q:∀H',Et H H'->Tbs K H'->Q (.str (Gp "place")) H'):iA K [.int way,v,.ref pa,.int lv] H Q E:=
 ⟨way,v,pa,lv,_,rfl,w0,by omega,.inr ⟨⟨m,ws,x,hv,ok,hx,.inl ⟨w1,hn,rfl⟩⟩,dis,tb,q⟩⟩
def nO{K:FD}{H:Hp}{v:V}{pa:Addr}{way lv m:Int}{ws:List Way}{x:Bfs.Pl}{Q:VK}{E:XK}(w0:0<=way)(w1:way<=1)(hv:bh H v m ws)(ok:HOuse m ws)(hx:aB H pa x)(hn:(dv m x/\1000<x.2)\/(way=0/\bR m x/\3000<lv))(dis:dC K)(tb:Tbs K H)(q:∀H',Et H H'->Tbs K H'->Q (.str (Gp "great")) H'):iA K [.int way,v,.ref pa,.int lv] H Q E:=
 ⟨way,v,pa,lv,_,rfl,w0,by omega,.inr ⟨⟨m,ws,x,hv,ok,hx,by
  rcases hn with⟨h1,h2⟩|⟨h1,h2,h3⟩
  ·exact .inr (.inl ⟨w1,h1,h2,rfl⟩)
  ·exact .inr (.inr (.inl ⟨h1,h2,h3,rfl⟩))⟩,dis,tb,q⟩⟩
def qf{K:FD}{H:Hp}{v:V}{pa:Addr}{way lv m:Int}{ws:List Way}{x:Bfs.Pl}{Q:VK}{E:XK}(w0:0<=way)(w4:way<=4)(hv:bh H v m ws)(ok:HOuse m ws)(hx:aB H pa x)(ix:bR m x)(hl:lv<=3000)(dis:dC K)(tb:Tbs K H)(q:∀H',Et H H'->Tbs K H'->Q (.str (Gp "told")) H'):iA K [.int way,v,.ref pa,.int lv] H Q E:=
 ⟨way,v,pa,lv,_,rfl,w0,w4,.inr ⟨⟨m,ws,x,hv,ok,hx,.inr (.inr (.inr ⟨.inr hl,ix,rfl⟩))⟩,dis,tb,q⟩⟩
abbrev ik:List Way:=[⟨0,Gp "up",0,Gp "a"⟩,⟨0,Gp "down",0,Gp "a"⟩]
def Ff:HOuse 1 ik where
 m1:=by decide
 m12:=by decide
 few:=by decide
 ok w hw:=by
  rcases FX.mp hw with rfl|hw
  ·exact⟨by decide,by decide,by decide,by decide,.inl rfl,97,by decide,by decide,by decide +kernel⟩
  ·rw[FT.mp hw];exact⟨by decide,by decide,by decide,by decide,.inr (.inl rfl),97,by decide,by decide,by decide +kernel⟩
 nd:=by unfold List.Nodup;refine List.pairwise_cons.mpr ⟨λw hw=>?_,List.pairwise_singleton _ _⟩;rw[FT.mp hw];intro h;have:=congrArg Way.deed h;exact absurd this (by decide +kernel)
def wo:∀k:Nat,k<=1000->bM ik (0,1000) (0,1000-(k:Int))
 | 0,_=>by show bM ik (0,1000) (0,1000-0);exact .refl
 | k+1,h=>by refine(wo k (by omega)).trans (.one ⟨⟨0,Gp "down",0,Gp "a"⟩,by simp,je rfl (.inr (.inr (.inl ⟨rfl,by show(0:Int)<1000-(k:Int);omega⟩))),?_⟩);show((0:Int),(1000:Int)-((k+1:Nat):Int))=(0,1000-(k:Int)+rz "down");rw[lx];congr 1;omega
def kH(K:FD):Sp:=λvs H Q _=>∃(a:Addr) (ns:List Int),vs=[.ref a]/\ag K H a (ns.map V.int)/\ns.length<=63/\(∀y∈(["fallen","kept","low_levels","risen"]:List Str),∀c T,PySem.W.tabIn K y=some (c,T)->H T=some (.tbl #[]))/\dC K/\∀H',Q (.bl true) H'
abbrev fG:Stmt:=stq 79
def sD:FnScope ["_law_script","_law_house_here","_law_place_here","_law_draws_here","_law_far","_law_high","_law_bad"] ["_law_script"] (aA fG):=⟨rfl,rfl,rfl,by decide +kernel,rfl,by decide +kernel,by decide +kernel⟩
def DK{P:Program}{w:World}{K:FD}{mg:Str->Option Value}{base:Heap}{f:Addr}{fd:FuncData}(F:Fun K "law" "law" fG f fd)(T:Blt mg)(C__law_asked:Cal P w K mg base "_law_asked" 12 ["_law_way","_law_house_here","_law_place_here","_law_l"] (iA K))(C__law_bad_houses:Cal P w K mg base "_law_bad_houses" 1 ["_law_house_here"] (xf K))(C__law_draws:Cal P w K mg base "_law_draws" 2 ["_law_cell_here","_law_widths","_law_prime"] (gn K))(C__law_cell:Cal P w K mg base "_law_cell" 1 ["_law_script","_law_k"] (nW K))(C__law_place:Cal P w K mg base "_law_place" 3 ["_law_house_here","_law_cell_here","_law_prime"] (u7 K))(C__law_house:Cal P w K mg base "_law_house" 4 ["_law_cell_here","_law_prime"] (yh K))(C0_rooms_at:Cal P w K mg base "rooms_at" 11 ["house","place","l"] (λvs H Q _=>kg K vs H Q E0)):FnOk P w K mg base cC 13 f fd ["_law_script"] (kH K):=by
 have nd:=(sD).nd;refine F.ok sD (λvs H Q E h=>?_) (λcdv A outer s H vs Q E hr h=>?_)
 ·obtain⟨a,ns,rfl,_⟩:=h;rfl
 ·obtain⟨a,ns,rfl,ha,hl,hT,dis,q⟩:=h;have tab0:Tbs K H:=⟨λc T e=>.inl (hT _ (by simp) c T e),λc T e=>.inl (hT _ (by simp) c T e),λc T e=>.inl (hT _ (by simp) c T e),λc T e=>.inl (hT _ (by simp) c T e)⟩;clear hT;refine⟨_,(@ai _ _ _ _ _ (@aM _ _ 1 _ _ _ _ nd rfl (Or.inr rfl) (aD C__law_house hr (@aa _ _ _ _ _ (aD C__law_cell hr (@aa _ _ _ _ _ (pv 0) (@aa _ _ _ _ _ af ae rfl) rfl)) (@aa _ _ _ _ _ af ae rfl) rfl)) rfl (Or.inl rfl))
    (@ai _ _ _ _ _ (@aM _ _ 2 _ _ _ _ nd rfl (Or.inr rfl) (aD C__law_place hr (@aa _ _ _ _ _ (pv 1) (@aa _ _ _ _ _ (aD C__law_cell hr (@aa _ _ _ _ _ (pv 0) (@aa _ _ _ _ _ af ae rfl) rfl)) (@aa _ _ _ _ _ af ae rfl) rfl) rfl)) rfl (Or.inl rfl))
    (@ai _ _ _ _ _ (@aM _ _ 3 _ _ _ _ nd rfl (Or.inl rfl) (aD C__law_draws hr (@aa _ _ _ _ _ (aD C__law_cell hr (@aa _ _ _ _ _ (pv 0) (@aa _ _ _ _ _ af ae rfl) rfl)) (@aa _ _ _ _ _ (@bo _ _ _ _ (@aa _ _ _ _ _ (av fQ af af) (@aa _ _ _ _ _ (av fQ af af) (@aa _ _ _ _ _ af ae rfl) rfl) rfl)) (@aa _ _ _ _ _ af ae rfl) rfl) rfl)) rfl (Or.inl rfl))
    (@ai _ _ _ _ _ (@aM _ _ 4 _ _ _ _ nd rfl (Or.inr rfl) (av aY af (@ah _ _ _ _ _ _ _ (aF K) (@bo _ _ _ _ (@aa _ _ _ _ _ (@ah _ _ _ _ _ _ _ (aF K) (pv 3) af (λ_ _=>rfl)) (@aa _ _ _ _ _ (av ef (@ah _ _ _ _ _ _ _ (aF K) (pv 3) af (λ_ _=>rfl)) (av fQ af af)) (@aa _ _ _ _ _ (av cj (@ah _ _ _ _ _ _ _ (aF K) (pv 3) af (λ_ _=>rfl)) af) ae rfl) rfl) rfl)) (@ah _ _ _ _ _ _ _ (aF K) (pv 3) af (λ_ _=>rfl)) (λ_ _=>rfl))) rfl (Or.inl rfl))
    (@ai _ _ _ _ _ (@aM _ _ 5 _ _ _ _ nd rfl (Or.inr rfl) (av aY af (@ah _ _ _ _ _ _ _ (aF K) (@bo _ _ _ _ (@aa _ _ _ _ _ (@ah _ _ _ _ _ _ _ (aF K) (pv 3) af (λ_ _=>rfl)) (@aa _ _ _ _ _ (av ef (@ah _ _ _ _ _ _ _ (aF K) (pv 3) af (λ_ _=>rfl)) (av fQ af af)) (@aa _ _ _ _ _ (av cj (@ah _ _ _ _ _ _ _ (aF K) (pv 3) af (λ_ _=>rfl)) af) ae rfl) rfl) rfl)) (@ah _ _ _ _ _ _ _ (aF K) (pv 3) af (λ_ _=>rfl)) (λ_ _=>rfl))) rfl (Or.inl rfl))
    (@ai _ _ _ _ _ (bV PassesOwn.never rfl (cD K (aD C__law_bad_houses hr (@aa _ _ _ _ _ (pv 1) ae rfl))) (aS (i:=6) nd rfl (Or.inr rfl)) (@aj _ _ _ (@bD _ _ _ _ _ _ _ _ (dh (bE (bq (ph K rfl) rfl T.all_ PyProof.Rows.boot_all (@aa _ _ _ _ _ (dE ["_law_way"] [6,4,5] (cB rfl T.range_ (@aa _ _ _ _ _ af ae rfl)) (λ_=>(aS (i:=0) (show(["_law_way","_law_bad","_law_far","_law_high"]:List Str).Nodup from by decide +kernel) rfl (Or.inl rfl) (Or.inr rfl))) (λ_=>fX) (λ_=>(eG bX (aD C__law_asked hr (@aa _ _ _ _ _ (pv 0) (@aa _ _ _ _ _ (pv 1) (@aa _ _ _ _ _ (@aR _ _ _ _ _ (@aa _ _ _ _ _ (eM eE af) (@aa _ _ _ _ _ (pv 2) ae rfl) rfl)) (@aa _ _ _ _ _ (pv 3) ae rfl) rfl) rfl) rfl)) az (aP _)))) ae rfl)))) (@aj _ _ _ (@aG _ _ _ _ bN)) aU)))
    (@ai _ _ _ _ _ (bV PassesOwn.never rfl (cD K (@bo _ _ _ _ (@aa _ _ _ _ _ (@aR _ _ _ _ _ (@aa _ _ _ _ _ (@ah _ _ _ _ _ _ _ (aH K) (pv 1) af (λ_ _=>rfl)) (@aa _ _ _ _ _ af ae rfl) rfl)) (@aa _ _ _ _ _ (@aR _ _ _ _ _ (@aa _ _ _ _ _ (eM eE af) (@aa _ _ _ _ _ af ae rfl) rfl)) (@aa _ _ _ _ _ (@aR _ _ _ _ _ (@aa _ _ _ _ _ af (@aa _ _ _ _ _ (eM eE af) ae rfl) rfl)) (@aa _ _ _ _ _ (@aR _ _ _ _ _ (@aa _ _ _ _ _ (av aY (@ah _ _ _ _ _ _ _ (aH K) (pv 1) af (λ_ _=>rfl)) (@ah _ _ _ _ _ _ _ (aF K) (pv 3) af (λ_ _=>rfl))) (@aa _ _ _ _ _ (pv 4) ae rfl) rfl)) (@aa _ _ _ _ _ (@aR _ _ _ _ _ (@aa _ _ _ _ _ (av cU (eM eE af) (@ah _ _ _ _ _ _ _ (aF K) (pv 3) af (λ_ _=>rfl))) (@aa _ _ _ _ _ (pv 4) ae rfl) rfl)) (@aa _ _ _ _ _ (@aR _ _ _ _ _ (@aa _ _ _ _ _ af (@aa _ _ _ _ _ (av cU af (pv 4)) ae rfl) rfl)) ae rfl) rfl) rfl) rfl) rfl) rfl))) (aS (i:=6) nd rfl (Or.inr rfl)) (@ai _ _ _ _ _ (@bD _ _ _ _ _ _ _ _ (PW.pt (dn (aT dG (aD C__law_asked hr (@aa _ _ _ _ _ af (@aa _ _ _ _ _ (pv 1) (@aa _ _ _ _ _ (pv 6) (@aa _ _ _ _ _ (pv 5) ae rfl) rfl) rfl) rfl)) az (aP _)) (eo (aT dG (aD C__law_asked hr (@aa _ _ _ _ _ af (@aa _ _ _ _ _ (pv 1) (@aa _ _ _ _ _ (pv 6) (@aa _ _ _ _ _ af ae rfl) rfl) rfl) rfl)) az (aP _))))) (@aj _ _ _ (@aG _ _ _ _ bN)) aU)
    (@aj _ _ _ (@bD _ _ _ _ _ _ _ _ (aT dG (aD C__law_asked hr (@aa _ _ _ _ _ af (@aa _ _ _ _ _ (pv 1) (@aa _ _ _ _ _ (pv 6) (@aa _ _ _ _ _ (eM eE af) ae rfl) rfl) rfl) rfl)) az (aP _)) (@aj _ _ _ (@aG _ _ _ _ bN)) aU))))
    (@ai _ _ _ _ _ (@bD _ _ _ _ _ _ _ _ (PW.pt (dn (aT dG (aD C__law_asked hr (@aa _ _ _ _ _ af (@aa _ _ _ _ _ (pv 1) (@aa _ _ _ _ _ (@aR _ _ _ _ _ (@aa _ _ _ _ _ (@ah _ _ _ _ _ _ _ (aH K) (pv 2) af (λ_ _=>rfl)) (@aa _ _ _ _ _ (pv 4) ae rfl) rfl)) (@aa _ _ _ _ _ (eM eE af) ae rfl) rfl) rfl) rfl)) az (aP _)) (eo (aT dG (aD C__law_asked hr (@aa _ _ _ _ _ af (@aa _ _ _ _ _ (pv 1) (@aa _ _ _ _ _ (@aR _ _ _ _ _ (@aa _ _ _ _ _ (@ah _ _ _ _ _ _ _ (aH K) (pv 2) af (λ_ _=>rfl)) (@aa _ _ _ _ _ (pv 4) ae rfl) rfl)) (@aa _ _ _ _ _ af ae rfl) rfl) rfl) rfl)) az (aP _))))) (@aj _ _ _ (@aG _ _ _ _ bN)) aU)
    (@ai _ _ _ _ _ (@bD _ _ _ _ _ _ _ _ (aT (xE hr) (aD C0_rooms_at hr (@i5 _ _ _ _ _ (.tup (.cons .int (.cons (.tup (.cons (.tup (.cons .int (.cons .str (.cons .int (.cons .str .nil))))) (.cons (.tup (.cons .int (.cons .str (.cons .int (.cons .str .nil))))) .nil))) .nil))) (@aa _ _ _ _ _ (@aR _ _ _ _ _ (@aa _ _ _ _ _ af (@aa _ _ _ _ _ af ae rfl) rfl)) (@aa _ _ _ _ _ af ae rfl) rfl))) (@bo _ _ _ _ (@aa _ _ _ _ _ af ae rfl)) (aP _)) (@aj _ _ _ (@aG _ _ _ _ bN)) aU)
    (@ai _ _ _ _ _ (@bD _ _ _ _ _ _ _ _ (PW.pt (dn (aT dG (aD C__law_asked hr (@aa _ _ _ _ _ af (@aa _ _ _ _ _ (pv 1) (@aa _ _ _ _ _ (pv 2) (@aa _ _ _ _ _ (pv 5) ae rfl) rfl) rfl) rfl)) az (aP _)) (eo (aT dG (aD C__law_asked hr (@aa _ _ _ _ _ af (@aa _ _ _ _ _ (pv 1) (@aa _ _ _ _ _ (pv 2) (@aa _ _ _ _ _ af ae rfl) rfl) rfl) rfl)) az (aP _))))) (@aj _ _ _ (@aG _ _ _ _ bN)) aU)
    (@aj _ _ _ (@aG _ _ _ _ (eQ (eG bX (aD C__law_asked hr (@aa _ _ _ _ _ af (@aa _ _ _ _ _ (pv 1) (@aa _ _ _ _ _ (@aR _ _ _ _ _ (@aa _ _ _ _ _ (@ah _ _ _ _ _ _ _ (aH K) (pv 2) af (λ_ _=>rfl)) (@aa _ _ _ _ _ af ae rfl) rfl)) (@aa _ _ _ _ _ af ae rfl) rfl) rfl) rfl)) az (aP _)) (eY (bq (ph K rfl) rfl T.all_ PyProof.Rows.boot_all (@aa _ _ _ _ _ (dE ["_law_way"] [1,2] (cB rfl T.range_ (@aa _ _ _ _ _ af ae rfl)) (λ_=>(aS (i:=0) (show(["_law_way","_law_house_here","_law_place_here"]:List Str).Nodup from by decide +kernel) rfl (Or.inl rfl) (Or.inr rfl))) (λ_=>fX) (λ_=>(eG bX (aD C__law_asked hr (@aa _ _ _ _ _ (pv 0) (@aa _ _ _ _ _ (pv 1) (@aa _ _ _ _ _ (pv 2) (@aa _ _ _ _ _ af ae rfl) rfl) rfl) rfl)) az (aP _)))) ae rfl)))))))))))))))),?_⟩
  walk_at"";refine qD ha hl (by decide) λz=>?_;walk_at"";refine⟨z,_,rfl,by decide,λv m ws H1 e1 hv ok3=>?_⟩;have ok:=ok3.house;clear ok3;have m1:=ok.m1;have m2:=ok.m12;walk_at"";refine qD (ha.ext e1) hl (by decide) λz2=>?_;walk_at"";refine⟨v,m,ws,z2,_,rfl,hv,ok,by decide,λpa r n H2 e2 hpa r0 r1 n0 n1=>?_⟩;walk_at"";refine qD (ha.ext (e1.trans e2)) hl (by decide) λz3=>?_;walk_at"";refine aw λw0 G1 f1 hw0 _=>?_;walk_at"";refine iG [100000000,100000000,3] hw0 (by decide) (by decide) (by decide) λdq ds H3 e3 hd _ hdl hdb=>?_;have hdl3:ds.length=3:=hdl
  match ds,hdl3 with
  | [d0,d1,d2],_=>
  have b0:=hdb 0 d0 100000000 rfl rfl;have b1:=hdb 1 d1 100000000 rfl rfl;have b2:=hdb 2 d2 3 rfl rfl;have hv3:=hv.ext (e2.trans (f1.trans e3));have hpa3:=(f1.trans e3) _ _ hpa;have tb3:=tab0.ext (e1.trans (e2.trans (f1.trans e3)));clear hdb hdl hw0 f1 e3 hv e1 e2 hpa ha tab0;obtain⟨hh,tt,rfl,k1,k2⟩:=id hv3;obtain⟨f,hf3,f0⟩:∃f:Int,bF [V.int d0,V.int (d0*10 ^ (42:Int).toNat),V.int (d1 % 5)] d2=some (.int f)/\0<=f:=by
   have:d2=0\/d2=1\/d2=2:=by omega
   rcases this with h|h|h<;>rw[h]
   ·exact⟨d0,rfl,b0.1⟩
   ·exact⟨_,rfl,Int.mul_nonneg b0.1 (by decide)⟩
   ·exact⟨_,rfl,Int.emod_nonneg _ (by decide)⟩
  walk_at"";refine aE (ag.of hd) (v:=.int d0) rfl ?_;walk_at"";refine aE (ag.of hd) (v:=.int d0) rfl ?_;walk_at"";refine aE (ag.of hd) (v:=.int d1) rfl ?_;walk_at"";refine aw λl4 H4 e4 hl4 _=>?_;walk_at"";refine aE (ag.of (e4 _ _ hd)) (v:=.int d2) rfl ?_;refine aE (ag.of hl4) hf3 ?_;walk_at"";have hd4:=e4 _ _ hd;refine aE (ag.of hd4) (v:=.int d0) rfl ?_;walk_at"";refine aE (ag.of hd4) (v:=.int d0) rfl ?_;walk_at"";refine aE (ag.of hd4) (v:=.int d1) rfl ?_;walk_at"";refine aw λl5 H5 e5 hl5 _=>?_;walk_at"";refine aE (ag.of (e5 _ _ hd4)) (v:=.int d2) rfl ?_;refine aE (ag.of hl5) hf3 ?_;walk_at"";have F1:(1001:Int)<=1001+f:=by omega
  have F3:(3001:Int)<=3001+f:=by omega
  generalize 1001+f=F at F1 ⊢;generalize 3001+f=G at F3 ⊢;have hv5:=hv3.ext (e4.trans e5);have hpa5:=(e4.trans e5) _ _ hpa3;have hd5:=(e4.trans e5) _ _ hd;have tb5:=tb3.ext (e4.trans e5);clear hf3 hl4 hl5 hv3 hpa3 hd hd4 k1 k2 e4 e5 tb3;refine⟨_,m,ws,rfl,hv5,ok,λlb ys H6 e6 hlb hyl hys=>?_⟩;walk_at"";refine cG (ag.of hlb) ?_;refine forL (xs:=ys) (λi σ H'=>Ext H6 H'/\∃k1,σ=[some (.ref a),some (.ref hh),some (.ref pa),some (.ref dq),some (.int F),some (.int G),k1]) ⟨Ext.rfl' _,none,rfl⟩ (λi σ H' _ h=>ag.of (h.1 _ _ hlb)) ?_ ?_
  ·rintro i x σ H' hx ⟨ex,k1,rfl⟩;have hn:=hys x (FR hx);walk_at"";refine ck (by omega) ?_;refine fg (λj zs J=>Ext H6 J/\zs=(Gu j true).map V.bl) (bI (by decide)) ⟨ex,rfl⟩ (λj zs J _ h=>by rw[h.2,FH,List.length_replicate];exact F5 _) ?_ ?_
   ·rintro j zs J hj ⟨eJ,rfl⟩;walk_at"";refine ax ?_;walk_at"";refine aw λp1 J1 j1 g1 _=>?_;walk_at"";refine Ej (by omega) (by omega) (hn.ext (eJ.trans j1)) λJ3 j3=>?_;walk_at"";refine lY ?_;exact⟨eJ.trans (j1.trans j3),rd j true⟩
   ·rintro zs J p ⟨eJ,rfl⟩ hp;have e7:=eJ.trans (bS (o:=.lst ((Gu (5:Int).toNat true).map V.bl)) hp);walk_at"";refine⟨p,_,rfl,ag.of aN,?_⟩;rw[xr];walk_at"";refine aq ?_;walk_at"";exact⟨e7,_,rfl⟩
  rintro σ H' ⟨ex,kk,rfl⟩;have hv6:=hv5.ext (e6.trans ex);have hp6:=(e6.trans ex) _ _ hpa5;have hd6:=(e6.trans ex) _ _ hd5;have tb6:=tb5.ext (e6.trans ex);obtain⟨_,_,hve,k16,_⟩:=id hv6;cases hve;clear hv5 hpa5 hd5 tb5 e6 ex hys hlb hyl;walk_at"";refine aI (ao.of k16) (v:=.int m) rfl ?_;walk_at"";refine aw λc0 A0 a0 hc0 _=>?_;walk_at"";refine aw λc1 A1 a1 hc1 _=>?_;walk_at"";refine aw λc2 A2 a2 hc2 _=>?_;have x2:=a0.trans (a1.trans a2);walk_at"";refine aI (ao.of (x2 _ _ k16)) (v:=.int m) rfl ?_;walk_at"";refine aE (ag.of (x2 _ _ hd6)) (v:=.int d1) rfl ?_;walk_at"";refine aw λc3 A3 a3 hc3 _=>?_;have x3:=x2.trans a3;walk_at"";refine aE (ag.of (x3 _ _ hd6)) (v:=.int d0) rfl ?_;walk_at"";refine aw λc4 A4 a4 hc4 _=>?_;walk_at"";refine aw λc5 A5 a5 hc5 _=>?_;walk_at"";refine aw λcl A6 a6 hcl _=>?_;have y5:=a5.trans a6;have y4:=a4.trans y5;have y3:=a3.trans y4;have y2:=a2.trans y3;have y1:=a1.trans y2;have y0:=a0.trans y1;obtain⟨ps,xs,hps,hcl',hpp,hbad⟩:∃(ps:List Addr) (xs:List Bfs.Pl),ps.length=6/\A6 cl=some (.lst (ps.map V.ref))/\Paired (aB A6) ps xs/\∀x∈xs,¬dv m x:=by
   refine⟨[c0,c1,c2,c3,c4,c5],[(m,0),(-1,0),(0,-1),(m+d1,F),(-1-d0,F),(0,0-F)],rfl,hcl,.cons (y1 _ _ hc0) (.cons (y2 _ _ hc1) (.cons (y3 _ _ hc2) (.cons (y4 _ _ hc3) (.cons (y5 _ _ hc4) (.cons (a6 _ _ hc5) .nil))))),λx hx=>?_⟩;simp only[FX,Gi,or_false]at hx;unfold dv;rcases hx with rfl|rfl|rfl|rfl|rfl|rfl
   ·intro h;have:=h.2.1;simp only at this;omega
   ·intro h;have:=h.1;simp only at this;omega
   ·intro h;have:=h.2.2;simp only at this;omega
   ·intro h;have:=h.2.1;simp only at this;omega
   ·intro h;have:=h.1;simp only at this;omega
   ·intro h;have:=h.2.2;simp only at this;omega
  have hv7:=hv6.ext y0;have hp7:=y0 _ _ hp6;have tb7:=tb6.ext y0;clear y0 y1 y2 y3 y4 y5 a0 a1 a2 a3 a4 a5 a6 x2 x3 hc0 hc1 hc2 hc3 hc4 hc5 hcl hv6 hp6 hd6 tb6 k16;walk_at"";refine cG (ag.of hcl') ?_;refine forL (xs:=ps.map V.ref) (λi σ H'=>(Et A6 H'/\Tbs K H')/\∃k1,σ=[some (.ref a),some (.ref hh),some (.ref pa),some (.ref dq),some (.int F),some (.int G),k1]) ⟨⟨(Ext.rfl' _).et,tb7⟩,_,rfl⟩ (λi σ H' _ h=>ag.of (h.1.1 _ _ hcl' (λ_ z=>by cases z))) ?_ ?_
  ·rintro i u σ J hu ⟨⟨eJ,tJ⟩,k1,rfl⟩;rw[FJ]at hu;obtain⟨p,hp,rfl⟩:=FU.mp hu;obtain⟨x,hx,hpx⟩:=gr hpp hp;have hbx:=hbad x (FR hx);walk_at"";refine qv (by decide) (by decide) (hv7.et eJ) ok (aB.et eJ hpx) hbx dis tJ λJ1 e1 t1=>?_;walk_at"";refine gQ ?_;refine rd_exb (aq ?_);walk_at"";refine qv (by decide) (by decide) (hv7.et (eJ.trans e1)) ok (aB.et (eJ.trans e1) hpx) hbx dis t1 λJ2 e2 t2=>?_;walk_at"";refine gQ ?_;refine rd_exb (aq ?_);walk_at"";refine qv (by decide) (by decide) (hv7.et (eJ.trans (e1.trans e2))) ok (aB.et (eJ.trans (e1.trans e2)) hpx) hbx dis t2 λJ3 e3 t3=>?_;walk_at"";refine gQ ?_;refine rd_exb (aq ?_);walk_at"";exact⟨⟨eJ.trans (e1.trans (e2.trans e3)),t3⟩,_,rfl⟩
  rintro σ H8 ⟨⟨e8,tb8⟩,kk2,rfl⟩;have hv8:=hv7.et e8;have hp8:aB H8 pa (r,n):=aB.et e8 hp7;have ixp:bR m (r,n):=⟨r0,r1,n0,by show n<=1000;omega⟩;clear hv7 hp7 tb7 e8 hpp hbad hcl' hps;walk_at"";refine aI (ao.of hp8) (v:=.int r) rfl ?_;walk_at"";refine aw λq1 J1 j1 g1 _=>?_;walk_at"";refine nO (x:=(r,F)) (by decide) (by decide) (hv8.ext j1) ok g1 (.inl ⟨⟨r0,r1,by show(0:Int)<=F;omega⟩,by show 1000<F;omega⟩) dis (tb8.ext j1) λJ2 j2 t2=>?_;walk_at"";refine gQ ?_;refine rd_exb (aq ?_);have f2:=j1.et.trans j2;walk_at"";refine aI (ao.of (aB.et f2 hp8)) (v:=.int r) rfl ?_;walk_at"";refine aw λq2 J3 j3 g2 _=>?_;walk_at"";refine nO (x:=(r,F)) (by decide) (by decide) ((hv8.et f2).ext j3) ok g2 (.inl ⟨⟨r0,r1,by show(0:Int)<=F;omega⟩,by show 1000<F;omega⟩) dis (t2.ext j3) λJ4 j4 t4=>?_;walk_at"";refine gQ ?_;refine rd_exb (aq ?_);have f4:=f2.trans (j3.et.trans j4);have hv9:=hv8.et f4;have hp9:aB J4 pa (r,n):=aB.et f4 hp8;clear f4 f2 j1 j2 j3 j4 g1 g2 t2 tb8 hv8 hp8;walk_at"";refine aw λq1 J1 j1 g1 _=>?_;walk_at"";refine aw λq2 J2 j2 g2 _=>?_;walk_at"";refine aw λq3 J3 j3 g3 _=>?_;walk_at"";refine aw λq5 J5 j5 g5 _=>?_;walk_at"";refine aw λq6 J6 j6 g6 _=>?_;have y6:=j1.trans (j2.trans (j3.trans (j5.trans j6)));have al:aJ J2 [q1,q2] ik:=((aJ.nil J2).snoc (w:=⟨0,Gp "up",0,Gp "a"⟩) (j2 _ _ g1)).snoc (w:=⟨0,Gp "down",0,Gp "a"⟩) g2;have hone:bh J6 (.ref q5) 1 ik:=(bh.mk g5 (((al.ext j3).ways g3).ext j5)).ext j6;walk_at"";refine⟨_,q6,3,rfl,.inr ⟨1,ik,(0,1000),hone,Ff,g6,.inr (.inr ⟨⟨by decide,by decide,by decide,by decide⟩,dis,t4.ext y6,.inr ⟨by decide,λl G2 J7 e7 t7 hl7 hG=>?_⟩⟩)⟩⟩;have hG0:G2 0=true:=(hG 0 (by decide)).mpr ⟨by decide,by have:=wo 997 (by decide);exact this⟩;have hrow:(row G2 0 (1:Int).toNat).map V.int=[V.int 0]:=by show(row G2 0 (0+1)).map V.int=_;rw[oY,Nat.zero_add,hG0];rfl
  rw[hrow]at hl7;walk_at"";refine aw λq8 J8 j8 g8 _=>?_;have hrp:∀{p:Addr},J8 p=some (.lst [V.int 0])->aW J8 1 (.ref p) (.list [PyData.int 0]):=λh=>.inr ⟨_,_,_,rfl,.inr ⟨h,rfl⟩,.cons rfl .nil⟩;walk_at"";refine⟨1,1,_,_,hrp (j8 _ _ hl7),hrp g8,by decide,?_⟩;rw[SeqAt.eqv_refl _ (aW.lay 1 (hrp g8)).1];refine rd_exb (aq ?_);have f8:=y6.et.trans (e7.trans j8.et);have hvA:=hv9.et f8;have hpA:aB J8 pa (r,n):=aB.et f8 hp9;have tbA:=t7.ext j8;clear f8 y6 j1 j2 j3 j5 j6 g1 g2 g3 g5 g6 g8 al hone hl7 hv9 hp9 t4 e7 t7 hrp hG hG0 hrow;walk_at"";refine nO (by decide) (by decide) hvA ok hpA (.inr ⟨rfl,ixp,by omega⟩) dis tbA λJ1 j1 t1=>?_;walk_at"";refine gQ ?_;refine rd_exb (aq ?_);walk_at"";refine qf (by decide) (by decide) (hvA.et j1) ok (aB.et j1 hpA) ixp (by decide) dis t1 λJ2 j2 t2=>?_;walk_at"";refine gQ ?_;refine rd_exb (aq ?_);have f2:=j1.trans j2;walk_at"";refine aI (ao.of (aB.et f2 hpA)) (v:=.int r) rfl ?_;walk_at"";refine aw λq2 J3 j3 g2 _=>?_;walk_at"";refine qf (x:=(r,1000)) (by decide) (by decide) ((hvA.et f2).ext j3) ok g2 ⟨r0,r1,by show(0:Int)<=1000;decide,by show(1000:Int)<=1000;decide⟩ (by decide) dis (t2.ext j3) λJ4 j4 t4=>?_;have f4:=f2.trans (j3.et.trans j4);walk_at"";refine lY ?_;refine rd_exb (ax ?_);walk_at"";refine ck (by omega) ?_;refine fg (λj zs J=>(Et J4 J/\Tbs K J)/\zs=(Gu j true).map V.bl) (bI (by decide)) ⟨⟨(Ext.rfl' _).et,t4⟩,rfl⟩ (λj zs J _ h=>by rw[h.2,FH,List.length_replicate];exact F5 _) ?_ ?_
  ·rintro j zs J hj ⟨⟨eJ,tJ⟩,rfl⟩;have fJ:=f4.trans eJ;walk_at"";refine ax ?_;walk_at"";refine qf (by omega) (by omega) (hvA.et fJ) ok (aB.et fJ hpA) ixp (by decide) dis tJ λJ5 j5 t5=>?_;walk_at"";refine lY ?_;exact⟨⟨eJ.trans j5,t5⟩,rd j true⟩
  ·rintro zs J p ⟨⟨eJ,tJ⟩,rfl⟩ hp;walk_at"";refine⟨p,_,rfl,ag.of aN,?_⟩;rw[xr];exact q _
abbrev Dq(K:FD)(mg:Str->Option Value)(x:Str)(st:Stmt):Prop:=∃(f:Addr) (fd:FuncData),mg x=some (.ref f)/\Fun K x x st f fd
def dq{K:FD}{h:Heap}{mg:Str->Option Value}(X:K.In h)(G:h.Ns mainGlobals mg){x:Str}{st:Stmt}{f:Addr}{od an:Option Addr}{sl:Array (Option Value)}{oc kV dc pm cd ct:Value}(a:PySem.W.nsIn K mainGlobals x=some (some (.ref f)))(l:K.lookup f=some ⟨oc,od,.func (PySem.W.fnOf x x (gq st) (dy st) (aA st) .none kV dc pm an cd ct),sl⟩)(c:PySem.W.codeIn K cd x=true)(k:PySem.W.keepIn K (.ref f)=true):Dq K mg x st:=⟨f,_,PySem.W.mg_of X G a,vW (st:=st) l c k⟩
abbrev bd(x:Str)(st:Stmt)(us:List Value)(r:List (Str×Value)):Prop:=∀(kV doc pm:Value) (an:Option Addr) (cdv ct:Value),bindArgs (PySem.W.fnOf x x (gq st) (dy st) (aA st) .none kV doc pm an cdv ct) ⟨us,[]⟩=pure r
def b9{K:FD}{mg:Str->Option Value}{x:Str}{st:Stmt}(p0:Str)(d:Dq K mg x st)(h:∀u0,bd x st [u0] [(p0,u0)]):Dfn K mg x st [p0]:=let ⟨f,fd,a,F⟩:=d;⟨f,fd,a,F,F.binds (ps:=[p0]) λ_ _ _ _ _ _ us hl=>match us,hl with|[_],_=>h _ _ _ _ _ _ _⟩
def b8{K:FD}{mg:Str->Option Value}{x:Str}{st:Stmt}(p0 p1:Str)(d:Dq K mg x st)(h:∀u0 u1,bd x st [u0,u1] [(p0,u0),(p1,u1)]):Dfn K mg x st [p0,p1]:=let ⟨f,fd,a,F⟩:=d;⟨f,fd,a,F,F.binds (ps:=[p0,p1]) λ_ _ _ _ _ _ us hl=>match us,hl with|[_,_],_=>h _ _ _ _ _ _ _ _⟩
def gR{K:FD}{mg:Str->Option Value}{x:Str}{st:Stmt}(p0 p1 p2:Str)(d:Dq K mg x st)(h:∀u0 u1 u2,bd x st [u0,u1,u2] [(p0,u0),(p1,u1),(p2,u2)]):Dfn K mg x st [p0,p1,p2]:=let ⟨f,fd,a,F⟩:=d;⟨f,fd,a,F,F.binds (ps:=[p0,p1,p2]) λ_ _ _ _ _ _ us hl=>match us,hl with|[_,_,_],_=>h _ _ _ _ _ _ _ _ _⟩
def nh{K:FD}{mg:Str->Option Value}{x:Str}{st:Stmt}(p0 p1 p2 p3:Str)(d:Dq K mg x st)(h:∀u0 u1 u2 u3,bd x st [u0,u1,u2,u3] [(p0,u0),(p1,u1),(p2,u2),(p3,u3)]):Dfn K mg x st [p0,p1,p2,p3]:=let ⟨f,fd,a,F⟩:=d;⟨f,fd,a,F,F.binds (ps:=[p0,p1,p2,p3]) λ_ _ _ _ _ _ us hl=>match us,hl with|[_,_,_,_],_=>h _ _ _ _ _ _ _ _ _ _⟩
def all_mk{l:PySem.W.OpenLaw}{w:World}{K:FD}{h:Heap}{mg:Str->Option Value}{fa:Addr}(X:K.In h)(G:h.Ns mainGlobals mg)(hfa:mg "law" = some (.ref fa))
  (d0:Dq K mg "refuse_great_stair" oZ)
  (d1:Dq K mg "is_whole" pH)
  (d2:Dq K mg "is_rising_row" qG)
  (d3:Dq K mg "are_stair_places" qr)
  (d4:Dq K mg "is_stair" oF)
  (d5:Dq K mg "refuse_no_stair" oN)
  (d6:Dq K mg "refuse_bad_stair" qo)
  (d7:Dq K mg "holds" qh)
  (d8:Dq K mg "least_step" oA)
  (d9:Dq K mg "stair_of_marks" mx)
  (d10:Dq K mg "stair_of_room" oR)
  (d11:Dq K mg "next_level" lZ)
  (d12:Dq K mg "reached" mT)
  (d13:Dq K mg "told_pairs" pU)
  (d14:Dq K mg "add_arches" mO)
  (d15:Dq K mg "join_walks" m3)
  (d16:Dq K mg "ways_of_deed" nV)
  (d17:Dq K mg "beginning_table" m8)
  (d18:Dq K mg "kept_table" oB)
  (d19:Dq K mg "is_sign" oX)
  (d20:Dq K mg "is_deed" pQ)
  (d21:Dq K mg "is_room" mQ)
  (d22:Dq K mg "is_way" pO)
  (d23:Dq K mg "are_ways" mw)
  (d24:Dq K mg "is_house" nU)
  (d25:Dq K mg "refuse_no_house" mh)
  (d26:Dq K mg "kept" pL)
  (d27:Dq K mg "ways_by_room" qE)
  (d28:Dq K mg "is_open" pE)
  (d29:Dq K mg "raised_by" pG)
  (d30:Dq K mg "led_to" pT)
  (d31:Dq K mg "led_to_from" mn)
  (d32:Dq K mg "low_beside" mL)
  (d33:Dq K mg "low_levels" nF)
  (d34:Dq K mg "risen" qB)
  (d35:Dq K mg "all_levels" nG)
  (d36:Dq K mg "refuse_bad_places" qe)
  (d37:Dq K mg "forward" nR)
  (d38:Dq K mg "rooms_at" mf)
  (d39:Dq K mg "fallen" mP)
  (d40:Dq K mg "_law_kind" nM)
  (d41:Dq K mg "_law_asked" mi)
  (d42:Dq K mg "_law_bad_houses" pj)
  (d43:Dq K mg "_law_mixed" mV)
  (d44:Dq K mg "_law_draws" mD)
  (d45:Dq K mg "_law_cell" qw)
  (d46:Dq K mg "_law_place" nN)
  (d47:Dq K mg "_law_unlike" oI)
  (d48:Dq K mg "_law_drawn_house" oD)
  (d49:Dq K mg "_law_gate_house" qk)
  (d50:Dq K mg "_law_ring_house" pq)
  (d51:Dq K mg "_law_spare" pM)
  (d52:Dq K mg "_law_house" nj)
  {f53:Addr} {od53 an53:Option Addr} {sl53:Array (Option Value)} {oc53 kV53 dc53 pm53 cd53 ct53:Value} (a53:PySem.W.nsIn K mainGlobals "law" = some (some (.ref f53))) (l53:K.lookup f53=some ⟨oc53,od53,.func (PySem.W.fnOf "law" "law" (gq fG) (dy fG) (aA fG) .none kV53 dc53 pm53 an53 cd53 ct53),sl53⟩) (c53:PySem.W.codeIn K cd53 "law" = true) (k53:PySem.W.keepIn K (.ref f53)=true)
  (z0:PySem.W.nsIn K mainGlobals "len" = some none)
  (z1:PySem.W.nsIn K mainGlobals "isinstance" = some none)
  (z2:PySem.W.nsIn K mainGlobals "tuple" = some none)
  (z3:PySem.W.nsIn K mainGlobals "list" = some none)
  (z4:PySem.W.nsIn K mainGlobals "int" = some none)
  (z5:PySem.W.nsIn K mainGlobals "bool" = some none)
  (z6:PySem.W.nsIn K mainGlobals "range" = some none)
  (z7:PySem.W.nsIn K mainGlobals "zip" = some none)
  (z8:PySem.W.nsIn K mainGlobals "max" = some none)
  (z9:PySem.W.nsIn K mainGlobals "min" = some none)
  (z10:PySem.W.nsIn K mainGlobals "abs" = some none)
  (z11:PySem.W.nsIn K mainGlobals "all" = some none)
  (z12:PySem.W.nsIn K mainGlobals "ValueError" = some none)
  (z13:PySem.W.nsIn K mainGlobals "enumerate" = some none)
  (z14:PySem.W.nsIn K mainGlobals "set" = some none)
  (z15:PySem.W.nsIn K mainGlobals "str" = some none)
  (z16:PySem.W.nsIn K mainGlobals "any" = some none)
  {t0:Tok} (v0:PySem.W.nsIn K mainGlobals "GREATEST_STEP" = some (some (.int 840 t0)))
  {t1:Tok} (v1:PySem.W.nsIn K mainGlobals "GREATEST_BASE" = some (some (.int 3000 t1)))
  {t2:Tok} (v2:PySem.W.nsIn K mainGlobals "GREATEST_WAYS" = some (some (.int 100 t2)))
  {t3:Tok} (v3:PySem.W.nsIn K mainGlobals "GREATEST_MANY" = some (some (.int 12 t3)))
  {t4:Tok} (v4:PySem.W.nsIn K mainGlobals "GREATEST_NUMBER" = some (some (.int 1000 t4)))
  {t5:Tok} (v5:PySem.W.nsIn K mainGlobals "GREATEST_LEVEL" = some (some (.int 3000 t5)))
  {e0:Addr} {q0_0 u0_0 q0_1 u0_1 q0_2 u0_2 q0_3 u0_3:Tok} {ep0:Nat} (x0:PySem.W.nsIn K mainGlobals "TURNED" = some (some (.ref e0))) (y0:K.lookup e0=some (iL w [("up",q0_0,.str "down" u0_0),("down",q0_1,.str "up" u0_1),("stay",q0_2,.str "stay" u0_2),("zero",q0_3,.str "zero" u0_3)] ep0)) (w0:(e0 == sysModules)=false)
  {e1:Addr} {q1_0 u1_0 q1_1 u1_1 q1_2 u1_2 q1_3 u1_3:Tok} {ep1:Nat} (x1:PySem.W.nsIn K mainGlobals "RAISED" = some (some (.ref e1))) (y1:K.lookup e1=some (iL w [("up",q1_0,.int (1) u1_0),("down",q1_1,.int (-1) u1_1),("stay",q1_2,.int (0) u1_2),("zero",q1_3,.int (0) u1_3)] ep1)) (w1:(e1 == sysModules)=false)
  (hxf:mJ K fz gx=true)
  : ∃fd:FuncData,(∀(s:Shared) (v:Value),BindsTo s fd ⟨[v],[]⟩ [("_law_script",v)])/\∀base:Heap,K.In base->base.Ns mainGlobals mg->(∀y∈(["fallen","kept","low_levels","risen"]:List Str),∃c T,Tab K mg base y c T)->FnOk l.prog w K mg base cC 13 fa fd ["_law_script"] (kH K):=by
 have e:=hfa.symm.trans (PySem.W.mg_of X G a53);cases e;have T:Blt mg:=⟨PySem.W.mg_none_of X G z0,PySem.W.mg_none_of X G z1,PySem.W.mg_none_of X G z2,PySem.W.mg_none_of X G z3,PySem.W.mg_none_of X G z4,PySem.W.mg_none_of X G z5,PySem.W.mg_none_of X G z6,PySem.W.mg_none_of X G z7,PySem.W.mg_none_of X G z8,PySem.W.mg_none_of X G z9,PySem.W.mg_none_of X G z10,PySem.W.mg_none_of X G z11,PySem.W.mg_none_of X G z12,PySem.W.mg_none_of X G z13,PySem.W.mg_none_of X G z14,PySem.W.mg_none_of X G z15,PySem.W.mg_none_of X G z16⟩;have D0:=b9 "stair" d0 λ_ _ _ _ _ _ _=>rfl;have D1:=b9 "thing" d1 λ_ _ _ _ _ _ _=>rfl;have D2:=gR "thing" "low" "end" d2 λ_ _ _ _ _ _ _ _ _=>rfl;have D3:=nh "base" "step" "once" "again" d3 λ_ _ _ _ _ _ _ _ _ _=>rfl;have D4:=b9 "thing" d4 λ_ _ _ _ _ _ _=>rfl;have D5:=b9 "thing" d5 λ_ _ _ _ _ _ _=>rfl;have D6:=b9 "thing" d6 λ_ _ _ _ _ _ _=>rfl;have D7:=b8 "stair" "x" d7 λ_ _ _ _ _ _ _ _=>rfl;have D8:=b9 "turn" d8 λ_ _ _ _ _ _ _=>rfl;have D9:=b8 "marks" "base" d9 λ_ _ _ _ _ _ _ _=>rfl;have D10:=gR "levels" "base" "room" d10 λ_ _ _ _ _ _ _ _ _=>rfl;have D11:=b8 "rises" "level" d11 λ_ _ _ _ _ _ _ _=>rfl;have D12:=b8 "place" "beside" d12 λ_ _ _ _ _ _ _ _=>rfl;have D13:=b8 "house" "choice" d13 λ_ _ _ _ _ _ _ _=>rfl;have D14:=gR "table" "ups" "downs" d14 λ_ _ _ _ _ _ _ _ _=>rfl;have D15:=b9 "table" d15 λ_ _ _ _ _ _ _=>rfl;have D16:=b8 "house" "deed" d16 λ_ _ _ _ _ _ _ _=>rfl;have D17:=b9 "house" d17 λ_ _ _ _ _ _ _=>rfl;have D18:=b9 "house" d18 λ_ _ _ _ _ _ _=>rfl;have D19:=b9 "thing" d19 λ_ _ _ _ _ _ _=>rfl;have D20:=b9 "thing" d20 λ_ _ _ _ _ _ _=>rfl;have D21:=b8 "thing" "many" d21 λ_ _ _ _ _ _ _ _=>rfl;have D22:=b8 "thing" "many" d22 λ_ _ _ _ _ _ _ _=>rfl;have D23:=b8 "thing" "many" d23 λ_ _ _ _ _ _ _ _=>rfl;have D24:=b9 "thing" d24 λ_ _ _ _ _ _ _=>rfl;have D25:=b9 "thing" d25 λ_ _ _ _ _ _ _=>rfl;have D26:=b9 "house" d26 λ_ _ _ _ _ _ _=>rfl;have D27:=b9 "house" d27 λ_ _ _ _ _ _ _=>rfl;have D28:=b8 "way" "place" d28 λ_ _ _ _ _ _ _ _=>rfl;have D29:=b9 "way" d29 λ_ _ _ _ _ _ _=>rfl;have D30:=b8 "way" "place" d30 λ_ _ _ _ _ _ _ _=>rfl;have D31:=b8 "ways" "place" d31 λ_ _ _ _ _ _ _ _=>rfl;have D32:=nh "ways" "keeps" "top" "here" d32 λ_ _ _ _ _ _ _ _ _ _=>rfl;have D33:=b8 "house" "place" d33 λ_ _ _ _ _ _ _ _=>rfl;have D34:=b9 "house" d34 λ_ _ _ _ _ _ _=>rfl;have D35:=b8 "house" "place" d35 λ_ _ _ _ _ _ _ _=>rfl;have D36:=b8 "house" "places" d36 λ_ _ _ _ _ _ _ _=>rfl;have D37:=b8 "house" "place" d37 λ_ _ _ _ _ _ _ _=>rfl;have D38:=gR "house" "place" "l" d38 λ_ _ _ _ _ _ _ _ _=>rfl;have D39:=b9 "house" d39 λ_ _ _ _ _ _ _=>rfl;have D40:=b9 "_law_e" d40 λ_ _ _ _ _ _ _=>rfl;have D41:=nh "_law_way" "_law_house_here" "_law_place_here" "_law_l" d41 λ_ _ _ _ _ _ _ _ _ _=>rfl;have D42:=b9 "_law_house_here" d42 λ_ _ _ _ _ _ _=>rfl;have D43:=gR "_law_cell_here" "_law_k" "_law_prime" d43 λ_ _ _ _ _ _ _ _ _=>rfl;have D44:=gR "_law_cell_here" "_law_widths" "_law_prime" d44 λ_ _ _ _ _ _ _ _ _=>rfl;have D45:=b8 "_law_script" "_law_k" d45 λ_ _ _ _ _ _ _ _=>rfl;have D46:=gR "_law_house_here" "_law_cell_here" "_law_prime" d46 λ_ _ _ _ _ _ _ _ _=>rfl;have D47:=b9 "_law_ways" d47 λ_ _ _ _ _ _ _=>rfl;have D48:=b8 "_law_cell_here" "_law_prime" d48 λ_ _ _ _ _ _ _ _=>rfl;have D49:=b8 "_law_cell_here" "_law_prime" d49 λ_ _ _ _ _ _ _ _=>rfl;have D50:=b8 "_law_cell_here" "_law_prime" d50 λ_ _ _ _ _ _ _ _=>rfl;have D51:=b8 "_law_cell_here" "_law_width" d51 λ_ _ _ _ _ _ _ _=>rfl;have D52:=b8 "_law_cell_here" "_law_prime" d52 λ_ _ _ _ _ _ _ _=>rfl;refine⟨PySem.W.fnOf "law" "law" (gq fG) (dy fG) (aA fG) .none kV53 dc53 pm53 an53 cd53 ct53,λs v=>.of_eq rfl,λbase KB GB HB=>?_⟩;have XF:Xf K mg base fz gx:=yP KB GB hxf;have C0:=@yX l.prog w K mg base D0 T ⟨_,PySem.W.mg_of X G v0⟩ ⟨_,PySem.W.mg_of X G v1⟩;have C1:=@CA l.prog w K mg base D1 T;have C2:=@CM l.prog w K mg base D2 T C1;have C3:=@AF l.prog w K mg base D3 T C2 C1;have C4:=@Dd l.prog w K mg base D4 T C3;have C5:=@Ak l.prog w K mg base D5 T C4;have C6:=@EI l.prog w K mg base D6 T C0 C5;have C7:=@zj l.prog w K mg base D7 T C6;have C8:=@Dc l.prog w K mg base D8 T;have C9:=@DG l.prog w K mg base D9 T C8;have C10:=@zB l.prog w K mg base D10 T C9;have C11:=@Dy l.prog w K mg base D11 T;have C12:=@Cm l.prog w K mg base D12 T;have C13:=@Fu l.prog w K mg base D13 T;have C14:=@B1 l.prog w K mg base D14 T;have C15:=@DU l.prog w K mg base D15 T;have C16:=@Ft l.prog w K mg base D16 T;have C17:=@EN l.prog w K mg base D17 T C16;have C18:=@Df l.prog w K mg base D18 T C14 C15 C16 C17;have C19:=@AB l.prog w K mg base D19 T;have C20:=@Ey l.prog w K mg base D20 T ⟨_,PySem.W.mg_of X G x0,Fv y0 w0⟩;have C21:=@BJ l.prog w K mg base D21 T C1;have C22:=@Bo l.prog w K mg base D22 T C19 C20 C21;have C23:=@Bn l.prog w K mg base D23 T ⟨_,PySem.W.mg_of X G v2⟩ C22;have C24:=@AA l.prog w K mg base D24 T ⟨_,PySem.W.mg_of X G v3⟩ C23 C1;have C25:CalX l.prog w K mg base "refuse_no_house" 6 ["thing"] (gv K):=yU D25 T XF C24;obtain⟨c269,T269,B26⟩:=HB "kept" (by simp);have C26:CalX l.prog w K mg base "kept" 7 ["house"] (lK K):=zN D26 T B26 C13 C18 C25;have C27:=@yO l.prog w K mg base D27 T;have C28:=@zd l.prog w K mg base D28 T;have C29:=@Fp l.prog w K mg base D29 T ⟨_,PySem.W.mg_of X G x1,EX y1 w1⟩;have C30:=@B0 l.prog w K mg base D30 T C29;have C31:=@Ba l.prog w K mg base D31 T C28 C30;have C32:=@zg l.prog w K mg base D32 T C31;obtain⟨c339,T339,B33⟩:=HB "low_levels" (by simp);have C33:Cal l.prog w K mg base "low_levels" 8 ["house","place"] (oP K):=EM D33 T B33 C12 C27 C32 C26.cal;obtain⟨c349,T349,B34⟩:=HB "risen" (by simp);have C34:CalX l.prog w K mg base "risen" 7 ["house"] (kQ K):=yI D34 T B34 C13 C16 C18 C25;have C35:=@Af l.prog w K mg base D35 T C11 C33 C34.cal;have C36:CalX l.prog w K mg base "refuse_bad_places" 3 ["house","places"] (mW K):=EA D36 T ⟨_,PySem.W.mg_of X G v4⟩ XF C21;have C37:CalX l.prog w K mg base "forward" 10 ["house","place"] (lQ K):=CH D37 T C10 C35 C36 C25;have C38:CalX l.prog w K mg base "rooms_at" 11 ["house","place","l"] (kg K):=zO D38 T ⟨_,PySem.W.mg_of X G v5⟩ XF C7 C37;obtain⟨c399,T399,B39⟩:=HB "fallen" (by simp);have C39:CalX l.prog w K mg base "fallen" 7 ["house"] (nB K):=Cq D39 T B39 C13 C16 C18 C25;have C40:∀(x:Addr) (oe:Obj) (Dx:Addr),ExcK K Dx->oe.cls=.ref Dx->(∃vs,oe.data=.fields vs/\vs[2]?=some .none)->CalH l.prog w K mg base "_law_kind" 1 ["_law_e"] x oe (mB K x Dx):=λx oe Dx hK hc hal=>DI D40 T XF hK hc hal;have C41:=@Br l.prog w K mg base D41 T XF C38 C37 C26 C34 C39 C40;have C42:=@Bc l.prog w K mg base D42 T;have C43:=@DX l.prog w K mg base D43 T;have C44:=@Aa l.prog w K mg base D44 T C43;have C45:=@AZ l.prog w K mg base D45 T;have C46:=@Fg l.prog w K mg base D46 T C44;have C47:=@CS l.prog w K mg base D47 T;have C48:=@yK l.prog w K mg base D48 T C47 C44;have C49:=@Av l.prog w K mg base D49 T C47 C44;have C50:=@CK l.prog w K mg base D50 T C44;have C51:=@Bl l.prog w K mg base D51 T;have C52:=@Ex l.prog w K mg base D52 T C48 C49 C50 C51 C44;exact DK (vW (st:=fG) l53 c53 k53) T C41 C42 C44 C45 C46 C52 C38.cal
def walk{l:PySem.W.OpenLaw}{q:Program}{loose:List Str}{XP:(Str->Option Value)->Heap->Prop}{YP:World->Heap->Prop}{d:DefRec}{K:Params->FD}(hn:l.most=some 63)(hdf:d.params.defaults=[])
  (hY:∀(w:World) (h:Heap),YP w h->(K w.params).In h) (hK:∀w:World,PySem.W.noTabs (K w.params)=true) (hrec:∀y∈(["fallen","kept","low_levels","risen"]:List Str),((PyProof.Rows.recsOf q).find? (λe=>e.name == y)).isSome=true) (htab:∀(w:World),∀y∈(["fallen","kept","low_levels","risen"]:List Str),(PySem.W.tabIn (K w.params) y).isSome=true) (hdis:∀w:World,dC (K w.params))
  (F:∀(w:World) (mg:Str->Option Value) (fa:Addr) (h:Heap),(K w.params).In h->h.Ns mainGlobals mg->mg d.name=some (.ref fa) →
   ∃fd:FuncData,(∀(s:Shared) (u:Value),BindsTo s fd ⟨[u],[]⟩ [("_law_script",u)])/\∀base:Heap,(K w.params).In base->base.Ns mainGlobals mg->(∀y∈(["fallen","kept","low_levels","risen"]:List Str),∃c T,Tab (K w.params) mg base y c T)->FnOk l.prog w (K w.params) mg base cC 13 fa fd ["_law_script"] (kH (K w.params))) :
  PySem.W.WalkO q loose XP YP l.row.toRowW d [] (λf vs=>PySem.call f vs):=
 L2.zl (n:=63) (k:=13) (x:="_law_script") (sp:=λw=>kH (K w.params)) ["fallen","kept","low_levels","risen"] hn (by decide) hdf ⟨rfl,by decide,by decide⟩ hY hK hrec htab F λw H a ns hl hT hS=>⟨a,ns,rfl,hS,hl,hT,hdis w,λ_=>rfl⟩
end My
end
open PySem PySem.W PyProof.Rows
set_option maxRecDepth 100000 in
set_option maxHeartbeats 0 in
theorem PySem.Challenge.cw_stairrooms_k32_levels_refused_holds : PySem.Challenge.rw_stairrooms_k32_levels_refused.Holds := by
 refine My.top ?_
 k_fill
 refine My.walk (l := PySem.Challenge.rw_stairrooms_k32_levels_refused) rfl rfl (λw h Y => PySem.W.km_in_of Y) (λw => by kernel_rfl) ?R (λw => ?Tb) (λw => My.zD (by kernel_rfl)) ?F
 case R => intro y hy; simp only [List.mem_cons, List.not_mem_nil, or_false] at hy; rcases hy with rfl|rfl|rfl|rfl <;> kernel_rfl
 case Tb => intro y hy; simp only [List.mem_cons, List.not_mem_nil, or_false] at hy; rcases hy with rfl|rfl|rfl|rfl <;> kernel_rfl
 case F =>
  intro w mg fa h KX G hmg;have q := @My.dq _ _ _ KX G
  refine' My.all_mk KX G hmg (q ?a0 ?l0 ?c0 ?k0) (q ?a1 ?l1 ?c1 ?k1) (q ?a2 ?l2 ?c2 ?k2) (q ?a3 ?l3 ?c3 ?k3) (q ?a4 ?l4 ?c4 ?k4) (q ?a5 ?l5 ?c5 ?k5) (q ?a6 ?l6 ?c6 ?k6) (q ?a7 ?l7 ?c7 ?k7) (q ?a8 ?l8 ?c8 ?k8) (q ?a9 ?l9 ?c9 ?k9) (q ?a10 ?l10 ?c10 ?k10) (q ?a11 ?l11 ?c11 ?k11) (q ?a12 ?l12 ?c12 ?k12) (q ?a13 ?l13 ?c13 ?k13) (q ?a14 ?l14 ?c14 ?k14) (q ?a15 ?l15 ?c15 ?k15) (q ?a16 ?l16 ?c16 ?k16) (q ?a17 ?l17 ?c17 ?k17) (q ?a18 ?l18 ?c18 ?k18) (q ?a19 ?l19 ?c19 ?k19) (q ?a20 ?l20 ?c20 ?k20) (q ?a21 ?l21 ?c21 ?k21) (q ?a22 ?l22 ?c22 ?k22) (q ?a23 ?l23 ?c23 ?k23) (q ?a24 ?l24 ?c24 ?k24) (q ?a25 ?l25 ?c25 ?k25) (q ?a26 ?l26 ?c26 ?k26) (q ?a27 ?l27 ?c27 ?k27) (q ?a28 ?l28 ?c28 ?k28) (q ?a29 ?l29 ?c29 ?k29) (q ?a30 ?l30 ?c30 ?k30) (q ?a31 ?l31 ?c31 ?k31) (q ?a32 ?l32 ?c32 ?k32) (q ?a33 ?l33 ?c33 ?k33) (q ?a34 ?l34 ?c34 ?k34) (q ?a35 ?l35 ?c35 ?k35) (q ?a36 ?l36 ?c36 ?k36) (q ?a37 ?l37 ?c37 ?k37) (q ?a38 ?l38 ?c38 ?k38) (q ?a39 ?l39 ?c39 ?k39) (q ?a40 ?l40 ?c40 ?k40) (q ?a41 ?l41 ?c41 ?k41) (q ?a42 ?l42 ?c42 ?k42) (q ?a43 ?l43 ?c43 ?k43) (q ?a44 ?l44 ?c44 ?k44) (q ?a45 ?l45 ?c45 ?k45) (q ?a46 ?l46 ?c46 ?k46) (q ?a47 ?l47 ?c47 ?k47) (q ?a48 ?l48 ?c48 ?k48) (q ?a49 ?l49 ?c49 ?k49) (q ?a50 ?l50 ?c50 ?k50) (q ?a51 ?l51 ?c51 ?k51) (q ?a52 ?l52 ?c52 ?k52) ?a53 ?l53 ?c53 ?k53 ?z0 ?z1 ?z2 ?z3 ?z4 ?z5 ?z6 ?z7 ?z8 ?z9 ?z10 ?z11 ?z12 ?z13 ?z14 ?z15 ?z16 ?v0 ?v1 ?v2 ?v3 ?v4 ?v5 ?x0 ?y0 ?w0 ?x1 ?y1 ?w1 ?hxf
  case a0|l0|c0|k0|a1|l1|c1|k1|a2|l2|c2|k2|a3|l3|c3|k3|a4|l4|c4|k4|a5|l5|c5|k5|a6|l6|c6|k6|a7|l7|c7|k7|a8|l8|c8|k8|a9|l9|c9|k9|a10|l10|c10|k10|a11|l11|c11|k11|a12|l12|c12|k12|a13|l13|c13|k13|a14|l14|c14|k14|a15|l15|c15|k15|a16|l16|c16|k16|a17|l17|c17|k17|a18|l18|c18|k18|a19|l19|c19|k19|a20|l20|c20|k20|a21|l21|c21|k21|a22|l22|c22|k22|a23|l23|c23|k23|a24|l24|c24|k24|a25|l25|c25|k25|a26|l26|c26|k26|a27|l27|c27|k27|a28|l28|c28|k28|a29|l29|c29|k29|a30|l30|c30|k30|a31|l31|c31|k31|a32|l32|c32|k32|a33|l33|c33|k33|a34|l34|c34|k34|a35|l35|c35|k35|a36|l36|c36|k36|a37|l37|c37|k37|a38|l38|c38|k38|a39|l39|c39|k39|a40|l40|c40|k40|a41|l41|c41|k41|a42|l42|c42|k42|a43|l43|c43|k43|a44|l44|c44|k44|a45|l45|c45|k45|a46|l46|c46|k46|a47|l47|c47|k47|a48|l48|c48|k48|a49|l49|c49|k49|a50|l50|c50|k50|a51|l51|c51|k51|a52|l52|c52|k52|a53|l53|c53|k53|z0|z1|z2|z3|z4|z5|z6|z7|z8|z9|z10|z11|z12|z13|z14|z15|z16|v0|v1|v2|v3|v4|v5=>k_is
  (case x0 => k_is); (case y0 => k_is); (case w0 => first|rfl|k_is)
  (case x1 => k_is); (case y1 => k_is); (case w1 => first|rfl|k_is)
  (case hxf => first|kernel_rfl|k_is)
