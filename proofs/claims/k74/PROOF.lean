import PyProof.Rows.All
import Wide.All
import OpenK.AllK
import Wide.FinOn
import Lean
import PyProof.EqAt
import PyProof.EqKinds
import PyProof.TupleCall
import KE.KLam
import PySem.Challenge.RW_stairrooms_k74_whole_stairs_of_ways
set_option Elab.async false
namespace PySem.W.Fast
def tw1926447546662848585:=0
def tw10913721690363017293:=0
def tw10399705325005431556:=0
def tw9775477576787505727:=0
def tw15747669703505343820:=0
def tw9478813727029378433:=0
def tw2055251135968290429:=0
def tw11258306804293243132:=0
def tw9779238343796657555:=0
def tw16566188169435491692:=0
def tw3855638733940352994:=0
def tw3093781508513788219:=0
def tw14038127731967396478:=0
def tw1754243070517289278:=0
def tw4801039527111802282:=0
def tw10082048670035128645:=0
def tw6906642673584712280:=0
def tw8643515505478632761:=0
def tw7984271234534137273:=0
def tw18438895364323578133:=0
def tw10166892954511498249:=0
def tw4918694162171632466:=0
def tw15003257448840769609:=0
def tw2651210568008831048:=0
def tw11336821961719113926:=0
def tw13569708112425687227:=0
def tw11083616581157620123:=0
def tw3501889831259424984:=0
def tw13921919005729749812:=0
def tw12390782021942118942:=0
def tw15159215201983465910:=0
def tw4992925186480290751:=0
def tw8938549127931359579:=0
def tw8385567426930851361:=0
def tw11469663846147530161:=0
def tw17652695096001567504:=0
def tw1382559312744143635:=0
def tw11364142691922409913:=0
def tw18334927389422029420:=0
def tw14876317631354250296:=0
def tw11655376856063916228:=0
def tw447717403241242290:=0
def tw2313535712752964479:=0
def tw12664327836493813462:=0
def tw4869967250276580588:=0
def tw3415376743198261602:=0
def tw17644514534155135092:=0
def tw17571631200592639834:=0
def tw15963830579283735448:=0
def tw1057306937073154610:=0
def tw5533809914848052129:=0
def tw4532786408525356839:=0
def tw2904058922640873309:=0
def tw14882510809304047780:=0
def tw14429984225472846677:=0
def tw8604979696160575008:=0
def tw8377945894465552080:=0
def tw6704578965310311189:=0
def tw3015604971527890583:=0
def tw17405974757215459542:=0
def tw13580389790971816817:=0
def tw10044013261082468525:=0
def tw6787905781562076304:=0
def tw4256779784062091372:=0
def tw1901317781093569649:=0
def tw18133197322224867361:=0
def tw17928405464846012575:=0
def tw17584191335013195612:=0
def tw15641575440650329080:=0
def tw11985937269989024962:=0
def tw11892039915525360660:=0
def tw9802983821206752271:=0
def tw8388858425438247444:=0
def tw5920227957080817638:=0
def tw3220723017206680370:=0
def tw17690871460500525271:=0
def tw16826725409987885975:=0
def tw12996499756298277263:=0
def tw9749810874003056045:=0
def tw6121026886529796221:=0
def tw3096949930750721708:=0
def tw17405045028177135956:=0
def tw1637453852661378490:=0
def tw14324394720252608761:=0
def tw12650994420537281789:=0
def tw12150866365501820893:=0
def tw10035081181641441020:=0
def tw7574902415414485744:=0
def tw6714801024506940561:=0
def tw6393150591798677637:=0
def tw5950158449063615346:=0
def tw3760063030202703356:=0
def tw2800321189394573348:=0
def tw17843169823834903998:=0
def tw16964212798373946863:=0
def tw15641155157065175805:=0
def tw15414259988211055499:=0
def tw12679859039530741841:=0
def tw11701492411309977178:=0
def tw11040902395418374828:=0
def tw10769681086646498438:=0
def tw8338600121835276020:=0
def tw450187942056410602:=0
def tw3299272117925849540:=0
def tw3121732170634265723:=0
def tw17423125552162021742:=0
def tw17238752558760652402:=0
def tw17104333970416622323:=0
def tw15729792075999087868:=0
def tw14585778381282314952:=0
def tw13679643304169797691:=0
def tw11788803944947964044:=0
def tw10150324261921262226:=0
def tw9254883793231693245:=0
def tw7341270039093922885:=0
def tw7134983793405793177:=0
def tw7115244209674446852:=0
def tw6130821448147606368:=0
def tw5819105399919881484:=0
def tw5140171473248983199:=0
def tw4997450903056089975:=0
def tw4672492687276399408:=0
def tw4090099033456441411:=0
def tw3866599564448483793:=0
def tw343839832772155065:=0
def tw3268437569422444630:=0
def tw3008007984704827758:=0
def tw18032779900021213040:=0
def tw17990003072128590093:=0
def tw17868647176945168147:=0
def tw17729564300890611173:=0
def tw17716863462265859512:=0
def tw17065142239566038489:=0
def tw16835956152608702361:=0
def tw16743919102785911483:=0
def tw16283258727396688951:=0
def tw16245695487900975421:=0
def tw15831574140416324556:=0
def tw14800109303040266240:=0
def tw14775263502782431712:=0
def tw14670137783204244808:=0
def tw14221475358252599964:=0
def tw12357872333080808881:=0
def tw12296552071639831032:=0
def tw12170451868844119946:=0
def tw11787554532782738252:=0
def tw11339562753883754242:=0
def tw1069010634818593453:=0
def tw10548826715568245312:=0
def tw9930359092145622687:=0
def tw974001917477778970:=0
def tw902582806634263858:=0
def tw7848866751621661257:=0
def tw762384175361060421:=0
def tw6878535200312667207:=0
def tw6744984778823417519:=0
def tw5425565988235752197:=0
def tw193794278739742225:=0
def tw18127141830633905074:=0
def tw18066811921283522515:=0
def tw17843839365795533554:=0
def tw17438179399263098937:=0
def tw17076493798685594974:=0
def tw16618134895088991800:=0
def tw16180315334032665911:=0
def tw13501672401922333513:=0
def tw13385619842731796546:=0
def tw1304240117979556626:=0
def tw1059446635175154315:=0
def tw10095913671755900038:=0
def tw9002392303285804385:=0
def tw7904445426397662059:=0
def tw6350474685870504171:=0
def tw4769826392853288355:=0
def tw3566807236516140644:=0
def tw2780415966309772251:=0
def tw17949153669898374660:=0
def tw17915051066750267265:=0
def tw17415715754555401154:=0
def tw16164986634524919498:=0
def tw15565656631415577005:=0
def tw14836224472968703893:=0
def tw13786455662358949411:=0
def tw13611136168108132581:=0
def tw13135487405686255751:=0
def tw11971130579796114034:=0
def tw1073818698688927204:=0
def tw10698238366409207256:=0
def tw10602856759635532317:=0
def tw9248597171148506525:=0
def tw8722415481117505015:=0
def tw8708482821940700748:=0
def tw7175792842613744815:=0
def tw6658185936689682968:=0
def tw5051596291613938045:=0
def tw3797301031838899788:=0
def tw17628590533929976792:=0
def tw16477329177891185698:=0
def tw16080655234471338842:=0
def tw12261729195969336472:=0
def tw1004593339420490729:=0
def tw9936902662144560194:=0
def tw976709547398631384:=0
def tw931510637493425866:=0
def tw9281662355237421915:=0
def tw8783073200307453229:=0
def tw8770029601138628478:=0
def tw8755266905418455375:=0
def tw8612541938085228305:=0
def tw8562296191053873827:=0
def tw8229460734390689525:=0
def tw8184033042858750843:=0
def tw8147721191793257292:=0
def tw8143298780573084396:=0
def tw800831887125934919:=0
def tw7956301941440062040:=0
def tw7863108119856694670:=0
def tw7693350481814642131:=0
def tw7539763571100840771:=0
def tw7240639191980452486:=0
def tw720755081136891062:=0
def tw6181847661251503008:=0
def tw6178244272827954729:=0
def tw6093179522131556990:=0
def tw6008010531490865865:=0
def tw590611807225418770:=0
def tw512557566824241540:=0
def tw4933930183700603765:=0
def tw4202673366249849491:=0
def tw4169430970946328830:=0
def tw3941131271490555836:=0
def tw3711776433476670718:=0
def tw3465091326942903629:=0
def tw3017139974649574989:=0
def tw2937762061896530096:=0
def tw2648121624305032702:=0
def tw2567624805475646970:=0
def tw2342838551658309370:=0
def tw1980078614172103820:=0
def tw18027755133952139252:=0
def tw17994301212061070119:=0
def tw17939888687896264705:=0
def tw17925923492730016652:=0
def tw17831088686795452451:=0
def tw17357414001117552268:=0
def tw1735571389945239771:=0
def tw1703860651114587486:=0
def tw17002439396945247550:=0
def tw16980547499210933930:=0
def tw16840622159041910090:=0
def tw16821967185522334815:=0
def tw1677638050960967886:=0
def tw16761591470956491853:=0
def tw16661212229125270991:=0
def tw16632375998614247822:=0
def tw16575673167688372683:=0
def tw16408023001231065620:=0
def tw16291882091215157828:=0
def tw15924826414491783191:=0
def tw15660991250957307376:=0
def tw1536147683505774889:=0
def tw15291515778787918541:=0
def tw14905269560852764671:=0
def tw14849095896601040367:=0
def tw14832175709080873599:=0
def tw14793259975867257014:=0
def tw1465564398378206461:=0
def tw14322595565739780087:=0
def tw14318957944991924802:=0
def tw14109453767193502313:=0
def tw13956058649364723422:=0
def tw13817142068744991791:=0
def tw13814131451427507189:=0
def tw13769731409856085057:=0
def tw13587432420489492189:=0
def tw12878273097781070547:=0
def tw12678953225602555564:=0
def tw12632963454795662708:=0
def tw12441502783428931068:=0
def tw12340981958623863397:=0
def tw12249993202121903794:=0
def tw11860059332995364445:=0
def tw11846370373574997029:=0
def tw11644868132232139897:=0
def tw11560677996495128784:=0
def tw11506949944486722818:=0
def tw11296645311156999791:=0
def tw11282886037220131173:=0
def tw11137535781475439334:=0
def tw11030641428109492703:=0
def tw10785498421680218836:=0
def tw10500720501580190231:=0
def tw10121643642846045468:=0
def tw10118012357411222232:=0
def tw9602979466950630956:=0
def tw912290570786946579:=0
def tw8777541643666118068:=0
def tw8572175281459272771:=0
def tw8568187914498332850:=0
def tw8444893750286939596:=0
def tw8125407811402774585:=0
def tw7552210041123771490:=0
def tw684210181549580303:=0
def tw6340304130596135008:=0
def tw6169767553621521813:=0
def tw6158425238486604569:=0
def tw5096499008420852698:=0
def tw3725507860900426652:=0
def tw3612554134655720397:=0
def tw2093290091728733057:=0
def tw17795394019121955329:=0
def tw16219145617115034907:=0
def tw14931363111589739018:=0
def tw1492062709326496596:=0
def tw1488503510874697304:=0
def tw1488474676173749703:=0
def tw14415884991196681418:=0
def tw14292392306617517729:=0
def tw13746588304753895505:=0
def tw119775208399524090:=0
def tw11551815002882820457:=0
def tw10846541316933110243:=0
def tw10053539800044614232:=0
def tw9591621326534694922:=0
def tw9590536906216307355:=0
def tw9578026534446552097:=0
def tw9456409991113330330:=0
def tw9119751986894142981:=0
def tw8340926499216404060:=0
def tw8186763794367992775:=0
def tw8089249423132065445:=0
def tw8047032804361144261:=0
def tw8037652997034423971:=0
def tw7627118995241731642:=0
def tw7387496920539170626:=0
def tw7259079589770855615:=0
def tw7176572640101177836:=0
def tw6942357351460751399:=0
def tw684117499851941213:=0
def tw6429728187070590260:=0
def tw6329672369177362234:=0
def tw621812022307901172:=0
def tw5994711959094706394:=0
def tw5861546300858528307:=0
def tw5821001088122574322:=0
def tw5717963241065829162:=0
def tw5442971307982108685:=0
def tw5430882940802126740:=0
def tw5350998768358884751:=0
def tw5295854211047901153:=0
def tw5019332986140449700:=0
def tw4977895861229493542:=0
def tw4855646995411632120:=0
def tw4817981600543833687:=0
def tw4797132809794432123:=0
def tw4566636315000093172:=0
def tw456031100195234908:=0
def tw4355615645706949100:=0
def tw4337561567144917162:=0
def tw4307926830116509514:=0
def tw4138905410403352593:=0
def tw404968458719316295:=0
def tw397431815971221653:=0
def tw3855077825024126993:=0
def tw3830783680494933951:=0
def tw3823650005643028596:=0
def tw3427924564325372817:=0
def tw3258786278723069861:=0
def tw3182821167057557991:=0
def tw3104486758596841148:=0
def tw2696157109874119690:=0
def tw2520694231678862498:=0
def tw2448602276733661166:=0
def tw2355404199824840798:=0
def tw2308842233520690658:=0
def tw2248526150547823735:=0
def tw2217001567337907910:=0
def tw2045930578084102194:=0
def tw2020109458520273824:=0
def tw1921160878016633958:=0
def tw1856151083423349262:=0
def tw18406689318668271181:=0
def tw18324572440802094995:=0
def tw1818218476948158209:=0
def tw18159918767601648018:=0
def tw18038851775406917655:=0
def tw179189376934874584:=0
def tw17908656721387608039:=0
def tw17744632191838401134:=0
def tw17645572048654386869:=0
def tw1751447207448873119:=0
def tw17389396115470475288:=0
def tw17375602352810135561:=0
def tw17259577006381911698:=0
def tw17218974888202052536:=0
def tw16988158499489311127:=0
def tw16924412733494049589:=0
def tw1691102865124860179:=0
def tw16843462989757039891:=0
def tw1682181479755940848:=0
def tw16669810761675009345:=0
def tw16507177298177948937:=0
def tw16306601271817509428:=0
def tw16176690743668362219:=0
def tw15968237232650601322:=0
def tw15945904282836308387:=0
def tw1584613233581267300:=0
def tw15829181571673270705:=0
def tw15786528573266890262:=0
def tw15732654264858244716:=0
def tw15699315692412800413:=0
def tw156604256827902990:=0
def tw15529604674929473973:=0
def tw15438610589593914328:=0
def tw15415030129712708594:=0
def tw15319796435752655959:=0
def tw15269425654929456476:=0
def tw15104015179872336855:=0
def tw14977234088687162302:=0
def tw14867130098325134529:=0
def tw14650229311272632197:=0
def tw14635225500592789833:=0
def tw1460478622569836974:=0
def tw14550693921475344484:=0
def tw14397947794671477899:=0
def tw14025392896863203041:=0
def tw13841191037290658594:=0
def tw13820470126673855253:=0
def tw13788262537284159298:=0
def tw13732165248360646341:=0
def tw13647187277582396961:=0
def tw13573848267779960677:=0
def tw13140385074510843379:=0
def tw13021086612755893400:=0
def tw12993445975515111361:=0
def tw12661369023874259431:=0
def tw12585790354688115527:=0
def tw119674054762100072:=0
def tw11687504721054253588:=0
def tw11665305186481523908:=0
def tw11646202046503260017:=0
def tw11612187849094769778:=0
def tw11605670760853518920:=0
def tw11383850339681254435:=0
def tw11365700717142005424:=0
def tw11362101791794971524:=0
def tw11198388801270196117:=0
def tw11029396596865941829:=0
def tw10760031201136348398:=0
def tw10276969695076772373:=0
def tw10263077061500514125:=0
def tw10017577030591726147:=0
end PySem.W.Fast
section
open PySem PySem.W PyProof.Rows
set_option maxRecDepth 100000 in
set_option maxHeartbeats 0 in
open_top My.top for PySem.Challenge.rw_stairrooms_k74_whole_stairs_of_ways
end
set_option linter.all false
set_option maxRecDepth 100000
set_option maxHeartbeats 4000000
open PySem renaming wpAny_bind→Dh,wpAny_pure→Di,wpAny_setState_of→Ei,wpAny_callSpecial?_slot→Ej
open PySem.W renaming Frag→Dj
open PySem.Heap renaming get?_push_of_some→Dk,get?_push_size→Dl,lt_size→Dm
open List renaming length_map→Dn,getElem?_eq_getElem→Dp,getElem?_map→Dr,mem_cons_of_mem→Ds,size_toArray→Du,mem_cons_self→Dv,getElem?_eq_some_iff→Dx,mem_of_getElem?→Dy,mem_singleton→Dz,mem_cons→DD,map_append→DF,length_append→DG,mem_append→DL,getElem?_append_right→DM,getElem?_append_left→DN,getElem_mem→DO,length_cons→DP,take_length→DQ,not_mem_nil→DT,all_eq_true→DU,any_eq_true→DV,mem_append_right→Ea,mem_append_left→Eb,replicate→Ec,getElem?_of_mem→Ef,lookup_cons→Eg,length_take→Eh,range→Ek
open Array renaming length_toList→Dt
open PySem.F renaming plainAttrs_list→Dw,slot_list_append→DJ,type_list_append→DK
open Option renaming map_eq_some_iff→DA
open Int renaming toNat_natCast→DB,toNat_of_nonneg→DC
open Bool renaming false_ne_true→DE,eq_iff_iff→DW,and_eq_true→DX,false_eq_true→Ed
open Nat renaming ne_of_lt→DH,le_refl→DI,lt_of_lt_of_le→DR,le_trans→DS,lt_or_ge→Ee
open PySem.Str renaming ofString→DY
open Option.some renaming inj→DZ
abbrev El:=@decide_eq_false
abbrev Em:=@decide_eq_true
abbrev En:=@if_neg
abbrev Eo:=@if_pos
noncomputable section
namespace L2
open PySem PySem.Spec PyProof.Rows
abbrev Key:=Sum Int Str
def gy:Key->Value->Bool
 | .inl k,v=>Value.isInt k v
 | .inr x,v=>Value.isStrOf x v
def CW(w:World):Key->Int
 | .inl k=>hashInt k
 | .inr x=>hashStr w x
def eG:∀{k:Key} {v:Value},gy k v=true->(∃i t,k=Sum.inl i/\v=Value.int i t)\/(∃x t,k=Sum.inr x/\v=Value.str x t)
 | .inl i,v,h=>by obtain⟨t,e⟩:=Value.isInt_shape (k:=i) (v:=v) h;exact .inl ⟨i,t,rfl,e⟩
 | .inr x,v,h=>by obtain⟨t,e⟩:=Value.isStrOf_shape (x:=x) (v:=v) h;exact .inr ⟨x,t,rfl,e⟩
def Ba(i:Int)(t:Tok):gy (.inl i) (.int i t)=true:=by simp[gy,Value.isInt]
def AG(x:Str)(t:Tok):gy (.inr x) (.str x t)=true:=by simp[gy,Value.isStrOf]
def B0(a b:Int):decide ((Sum.inl a:Key)=Sum.inl b)=(a == b):=by
 by_cases e:a=b
 ·subst e;simp
 ·have h:¬(Sum.inl a:Key)=Sum.inl b:=λq=>e (Sum.inl.inj q);rw[El h];exact(beq_eq_false_iff_ne.mpr e).symm
def BS(a b:Str):decide ((Sum.inr a:Key)=Sum.inr b)=decide (a=b):=by
 by_cases e:a=b
 ·subst e;simp
 ·have h:¬(Sum.inr a:Key)=Sum.inr b:=λq=>e (Sum.inr.inj q);rw[El h,El e]
def zA(a:Int)(b:Str):decide ((Sum.inl a:Key)=Sum.inr b)=false:=El (λq=>nomatch q)
def A5(a:Str)(b:Int):decide ((Sum.inr a:Key)=Sum.inl b)=false:=El (λq=>nomatch q)
def bV(prog:Program)(w:World):PySem.KeyKind prog w Key where
 is:=gy
 hash:=CW w
 inj:=λv a b ha hb=>by
  rcases eG ha with⟨i,t,rfl,rfl⟩|⟨x,t,rfl,rfl⟩
  ·rcases eG hb with⟨j,u,rfl,e⟩|⟨y,u,rfl,e⟩
   ·injection e with e1 _;rw[e1]
   ·exact nomatch e
  ·rcases eG hb with⟨j,u,rfl,e⟩|⟨y,u,rfl,e⟩
   ·exact nomatch e
   ·injection e with e1 _;rw[e1]
 byValue:=λk v h=>by rcases eG h with⟨i,t,rfl,rfl⟩|⟨x,t,rfl,rfl⟩<;>rfl
 pyHash:=λhv h=>by
  rcases eG hv with⟨i,t,rfl,rfl⟩|⟨x,t,rfl,rfl⟩
  ·exact wpAny_pyHash_int h
  ·exact wpAny_pyHash_str h
 eqBool:=λhu hv h=>by
  rcases eG hu with⟨i,t,rfl,rfl⟩|⟨x,t,rfl,rfl⟩
  ·rcases eG hv with⟨j,u,rfl,rfl⟩|⟨y,u,rfl,rfl⟩
   ·rw[B0]at h;exact wpAny_eqBool_int h
   ·rw[zA]at h;exact SeqAt.EqAt.int_str i t y u _ _ _ _ h
  ·rcases eG hv with⟨j,u,rfl,rfl⟩|⟨y,u,rfl,rfl⟩
   ·rw[A5]at h;exact SeqAt.EqAt.str_int x t j u _ _ _ _ h
   ·rw[BS]at h;exact wpAny_eqBool_str h
 «strs»:=λk x t v h=>by
  rcases eG h with⟨i,u,rfl,e⟩|⟨y,u,rfl,e⟩
  ·exact nomatch e
  ·injection e with e1 _
   subst e1;cases v<;>rfl
def zk(prog:Program)(w:World)(i:Int)(t:Tok):(bV prog w).is (.inl i) (.int i t)=true:=Ba i t
def lY(prog:Program)(w:World)(x:Str)(t:Tok):(bV prog w).is (.inr x) (.str x t)=true:=AG x t
inductive V where
 | non|bl (b:Bool)|int (i:Int)|str (x:Str)|byt (b:Array UInt8)|flt (b:UInt64)|ref (a:Addr)|ty (n:String)
 deriving DecidableEq
def RelV:V->Value->Prop
 | .non,u=>u=Value.none
 | .bl b,u=>u=Value.bool b
 | .int i,u=>∃t,u=Value.int i t
 | .str x,u=>∃t,u=Value.str x t
 | .byt b,u=>∃t,u=Value.bytes b t
 | .flt b,u=>∃t,u=Value.float b t
 | .ref a,u=>u=Value.ref a
 | .ty n,u=>u=Value.type n
abbrev Vals:List V->List Value->Prop:=Paired RelV
def Vals.length{xs:List V}{us:List Value}(r:Vals xs us):xs.length=us.length:=Paired.length r
def Vals.get:∀{xs:List V} {us:List Value} {i:Nat} {x:V},Vals xs us->xs[i]?=some x->∃u,us[i]?=some u/\RelV x u
 | _,_,_,_,.nil,e=>by simp at e
 | _,_,0,_,.cons r _,e=>by simp at e;subst e;exact⟨_,rfl,r⟩
 | _,_,i+1,x,.cons _ t,e=>by obtain⟨u,h1,h2⟩:=Vals.get (i:=i) (x:=x) t (by simpa using e);exact⟨u,by simpa using h1,h2⟩
def Vals.set{x:V}{u:Value}(r:RelV x u):∀{xs:List V} {us:List Value} (i:Nat),Vals xs us->Vals (xs.set i x) (us.set i u)
 | _,_,_,.nil=>.nil
 | _,_,0,.cons _ t=>.cons r t
 | _,_,i+1,.cons q t=>.cons q (Vals.set r i t)
def Vals.append:∀{xs ys:List V} {us ws:List Value},Vals xs us->Vals ys ws->Vals (xs++ys) (us++ws)
 | _,_,_,_,.nil,s=>s
 | _,_,_,_,.cons r t,s=>.cons r (Vals.append t s)
def Vals.take:∀{xs:List V} {us:List Value} (n:Nat),Vals xs us->Vals (xs.take n) (us.take n)
 | _,_,0,_=>.nil
 | _,_,_+1,.nil=>.nil
 | _,_,n+1,.cons r t=>.cons r (Vals.take n t)
def Vals.drop:∀{xs:List V} {us:List Value} (n:Nat),Vals xs us->Vals (xs.drop n) (us.drop n)
 | _,_,0,r=>r
 | _,_,_+1,.nil=>.nil
 | _,_,n+1,.cons _ t=>Vals.drop n t
def eD:Option V->Option Value->Prop
 | some v,some u=>RelV v u
 | none,none=>True
 | _,_=>False
def KV{κ:Type}:List (κ×V)->List (κ×Value)->Prop:=Paired λ(p:κ×V) (q:κ×Value)=>p.1=q.1/\RelV p.2 q.2
def kV:Key->V
 | .inl i=>.int i
 | .inr x=>.str x
inductive HO where
 | lst (xs:List V)
 | tup (xs:List V)
 | dK (kvs:List (Key×V))|dT (kvs:List (List Key×V))
 | set (S:Int->Bool) (n:Nat)
 | ins (C dx:Addr) (fs:List (Str×V))
 | own (x:Addr)
 | xd (fs:List (Str×V))
 | met (f x:Addr)
 | rng (lo hi:Int)
 | frz (o:Obj) (u:HO)
 | tbl (ps:Array Value)
 | ext (φ:Heap->Prop)
abbrev Hp:=Addr->Option HO
def upd(H:Hp)(a:Addr)(o:HO):Hp:=λb=>if b=a then some o else H b
def aJ{H:Hp}{a:Addr}{o:HO}:upd H a o a=some o:=by unfold upd;rw[Eo rfl]
def ax{H:Hp}{a b:Addr}{o:HO}(h:b≠a):upd H a o b=H b:=by unfold upd;rw[En h]
def eC{H:Hp}{a b:Addr}{o u:HO}(h:H a=some o)(h':H b=some u)(d:o≠u):a≠b:=by intro e;subst e;rw[h]at h';exact d (DZ h')
def bO{H:Hp}{a b:Addr}{o:HO}(h:H a=some o)(h':H b=none):a≠b:=by intro e;subst e;rw[h]at h';cases h'
section
variable (P:Program) (w:World)
def bj(H:Hp)(h:Heap)(a:Addr):HO->Prop
 | .lst xs=>xs.length<=sizeLine/\∃(its:List Value) (n:Nat),Vals xs its/\h.get? a=some { cls:=.type "list",data:=.seq its.toArray n }
 | .tup xs=>xs.length<=sizeLine/\∃its:List Value,Vals xs its/\IsTup h a its.toArray
 | .dK kvs=>kvs.length<=sizeLine/\(a == sysModules)=false/\∃vs,KV kvs vs/\h.DictOf (bV P w) a vs
 | .dT kvs=>kvs.length<=sizeLine/\(a == sysModules)=false/\∃xs:List (List Key×Addr×Value),
   Paired (λ(p:List Key×V) (q:List Key×Addr×Value)=>p.1=q.1/\H q.2.1=some (.tup (p.1.map kV))/\RelV p.2 q.2.2) kvs xs ∧
   ∃o es ep,h.get? a=some o/\o.ExactDict/\o.data=.dict es ep/\es.toList=xs.map (entryOfKey (tupleKind (bV P w)))/\(xs.map (·.1)).Nodup
 | .set S n=>h.SetOf (intKind P w) a S n
 | .ins C dx fs=>H dx=some (.own a)/\fs.length<=1000/\dx≠a/\h.get? a=some (PySem.W.instObj C dx) ∧
   ∃mA,h.Ns1 dx mA/\(∀f,eD (fs.lookup f) (mA f))/\PySem.Within mA (fs.map (·.1))
 | .own _=>∃o,h.get? a=some o
 | .xd fs=>∃mA,h.Ns1 a mA/\∀f,eD (fs.lookup f) (mA f)
 | .rng lo hi=>∃t u v,h.get? a=some { cls:=.type "range",data:=.fields #[.int lo t,.int hi u,.int 1 v] }
 | .frz o u=>h.get? a=some o/\bj H h a u
 | .tbl ps=>h.get? a=some { cls:=.none,data:=.fields ps }
 | .met f x=>h.get? a=some (PySem.W.methodObj (.ref f) (.ref x))
 | .ext φ=>φ h/\(∃o,h.get? a=some o)/\∀h1 h2:Heap,φ h1->(∀o,h1.get? a=some o->h2.get? a=some o)->φ h2
def aW(H:Hp)(h:Heap):Prop:=∀a o,H a=some o->bj P w H h a o
end
section
variable {P:Program} {w:World} {H H':Hp} {h h':Heap} {a:Addr} {o:HO}
def bj.lt(x:bj P w H h a o):a<h.objs.size:=by
 cases o with
 | lst xs=>obtain⟨_,_,_,_,e⟩:=x;exact Dm e
 | tup xs=>obtain⟨_,_,_,p⟩:=x;exact p.lt
 | dK kvs=>obtain⟨_,_,_,_,o,_,_,e,_⟩:=x;exact Dm e
 | dT kvs=>obtain⟨_,_,_,_,o,_,_,e,_⟩:=x;exact Dm e
 | set S n=>obtain⟨o,_,_,_,e,_⟩:=x;exact Dm e
 | ins C dx fs=>obtain⟨_,_,_,e,_⟩:=x;exact Dm e
 | own y=>obtain⟨_,e⟩:=x;exact Dm e
 | xd fs=>obtain⟨_,⟨_,_,_,e,_⟩,_⟩:=x;exact Dm e
 | rng lo hi=>obtain⟨_,_,_,e⟩:=x;exact Dm e
 | frz ob u=>obtain⟨e,_⟩:=x;exact Dm e
 | tbl ps=>exact Dm (show h.get? a=some _ from x)
 | met f y=>exact Dm (show h.get? a=some _ from x)
 | ext φ=>obtain⟨_,⟨_,e⟩,_⟩:=x;exact Dm e
def Paired.mapP{α β:Type}{F G:α->β->Prop}:∀{l₁:List α} {l₂:List β},Paired F l₁ l₂->(∀a b,F a b->G a b)->Paired G l₁ l₂
 | _,_,.nil,_=>.nil
 | _,_,.cons r t,f=>.cons (f _ _ r) (Paired.mapP t f)
def bj.stay(x:bj P w H h a o)(k:∀b u,(b=a\/H b=some (.own a))->h.get? b=some u->h'.get? b=some u)
  (ho:∀b,H b=some (.own a)->H' b=some (.own a)) (ht:∀b xs,H b=some (.tup xs)->H' b=some (.tup xs)):bj P w H' h' a o:=by
 induction o with
 | lst xs=>obtain⟨z,its,n,r,e⟩:=x;exact⟨z,its,n,r,k _ _ (.inl rfl) e⟩
 | tup xs=>obtain⟨z,its,r,ob,e,c⟩:=x;exact⟨z,its,r,ob,k _ _ (.inl rfl) e,c⟩
 | dK kvs=>obtain⟨z,y,vs,r,ob,es,ep,e,c⟩:=x;exact⟨z,y,vs,r,ob,es,ep,k _ _ (.inl rfl) e,c⟩
 | dT kvs=>
  obtain⟨z,y,xs,r,ob,es,ep,e,c⟩:=x;exact⟨z,y,xs,Paired.mapP r λp q z=>⟨z.1,ht _ _ z.2.1,z.2.2⟩,ob,es,ep,k _ _ (.inl rfl) e,c⟩
 | set S n=>obtain⟨ob,es,ep,t,e,c⟩:=x;exact⟨ob,es,ep,t,k _ _ (.inl rfl) e,c⟩
 | ins C dx fs=>
  obtain⟨d,z,ne,e,mA,⟨od,es,ep,e2,c⟩,r⟩:=x;exact⟨ho _ d,z,ne,k _ _ (.inl rfl) e,mA,⟨od,es,ep,k _ _ (.inr d) e2,c⟩,r⟩
 | own y=>obtain⟨ob,e⟩:=x;exact⟨ob,k _ _ (.inl rfl) e⟩
 | xd fs=>obtain⟨mA,⟨od,es,ep,e,c⟩,r⟩:=x;exact⟨mA,⟨od,es,ep,k _ _ (.inl rfl) e,c⟩,r⟩
 | rng lo hi=>obtain⟨t,u,v,e⟩:=x;exact⟨t,u,v,k _ _ (.inl rfl) e⟩
 | frz ob u ih=>obtain⟨e,q⟩:=x;exact⟨k _ _ (.inl rfl) e,ih q⟩
 | tbl ps=>
  have e:h.get? a=some { cls:=.none,data:=.fields ps }:=x;show h'.get? a=some { cls:=.none,data:=.fields ps };exact k a _ (.inl rfl) e
 | met f y=>
  have e:h.get? a=some (PySem.W.methodObj (.ref f) (.ref y)):=x;show h'.get? a=some (PySem.W.methodObj (.ref f) (.ref y));exact k a _ (.inl rfl) e
 | ext φ=>obtain⟨p,⟨o,e⟩,st⟩:=x;exact⟨st _ _ p λo q=>k _ _ (.inl rfl) q,⟨o,k _ _ (.inl rfl) e⟩,st⟩
def aW.lt(x:aW P w H h)(e:H a=some o):a<h.objs.size:=(x a o e).lt
def aW.fresh(x:aW P w H h)(e:h.objs.size<=a):H a=none:=by
 cases q:H a with
 | none=>rfl
 | some u=>exact absurd (DR (x.lt q) e) (Nat.lt_irrefl _)
def aW.kept(x:aW P w H h)(k:∀b u,h.get? b=some u->h'.get? b=some u):aW P w H h':=λa o e=>
 (x a o e).stay (λb u _ q=>k b u q) (λ_ q=>q) λ_ _ q=>q
def aW.laid(x:aW P w H h)(k:∀b u,h.get? b=some u->h'.get? b=some u)(hp:h.objs.size<=a)(new:bj P w (upd H a o) h' a o):aW P w (upd H a o) h':=λb u e=>by
 have hn:=x.fresh hp;by_cases hb:b=a
 ·subst hb;rw[aJ]at e;cases e;exact new
 ·rw[ax hb]at e;exact(x b u e).stay (λc v _ q=>k c v q) (λc q=>by rw[ax (bO q hn)];exact q) λc xs q=>by rw[ax (bO q hn)];exact q
end
def Rd(H:Hp)(a:Addr)(u:HO):Prop:=H a=some u\/∃o,H a=some (.frz o u)
def Rd.ok{P:Program}{w:World}{H:Hp}{h:Heap}{a:Addr}{u:HO}(r:Rd H a u)(x:aW P w H h):bj P w H h a u:=by
 rcases r with r|⟨o,r⟩
 ·exact x a u r
 ·obtain⟨_,q⟩:=x a _ r;exact q
def i9:Option HO->Prop
 | some (.lst _)=>True
 | some (.dK _)=>True
 | some (.dT _)=>True
 | some (.set _ _)=>True
 | some (.ins _ _ _)=>True
 | some (.ext _)=>True
 | _=>False
section
variable {P:Program} {w:World} {H:Hp} {h h':Heap} {x e:Addr} {o':HO}
def aW.write(ok:aW P w H h)(mu:i9 (H x))(he:e=x\/H e=some (.own x))(k:∀b u,b≠e->h.get? b=some u->h'.get? b=some u)(heo:∃u,h'.get? e=some u)
  (new:bj P w (upd H x o') h' x o'):aW P w (upd H x o') h':=λb u q=>by
 have nown:∀c y,H c=some (.own y)->c≠x:=λc y r z=>by subst z;rw[r]at mu;exact mu
 have ntup:∀c xs,H c=some (.tup xs)->c≠x:=λc xs r z=>by subst z;rw[r]at mu;exact mu
 by_cases hb:b=x
 ·subst hb;rw[aJ]at q;cases q;exact new
 ·rw[ax hb]at q;by_cases hbe:b=e
  ·have q':H b=some (.own x):=by
    rcases he with z|z
    ·exact absurd (hbe.trans z) hb
    ·rw[hbe];exact z
   rw[q]at q';cases q';obtain⟨v,hv⟩:=heo;exact⟨v,by rw[hbe];exact hv⟩
  ·refine(ok b u q).stay (λc v hc r=>k c v ?_ r) (λc r=>by rw[ax (nown c b r)];exact r) λc xs r=>by rw[ax (ntup c xs r)];exact r
   rcases hc with rfl|hc
   ·exact hbe
   ·rintro rfl;rcases he with z|z
    ·exact nown c b hc z
    ·rw[hc]at z;cases z;exact hb rfl
end
structure Un(fs ex:List Addr)(H H':Hp)(h h':Heap):Prop where
 keep:∀b o,h.get? b=some o->H b=none->b∉fs->b∉ex->h'.get? b=some o
 slot:∀b o,h.get? b=some o->H b=none->b∈fs->b∉ex->∃sl,h'.get? b=some { o with slots:=sl }
 free:∀b o,h.get? b=some o->H b=none->b∉ex->H' b=none
 there:∀b o,h.get? b=some o->b∉ex->∃o',h'.get? b=some o'
 tups:∀b xs,H b=some (.tup xs)->H' b=some (.tup xs)
 frzs:∀b o u,H b=some (.frz o u)->H' b=some (.frz o u)
 tbls:∀b ps,H b=some (.tbl ps)->∃more,H' b=some (.tbl (ps++more))
section
variable {fs fs' ex ex':List Addr} {H H1 H2:Hp} {h h1 h2 h':Heap} {a x e:Addr} {o:HO}
def Un.any(u:Un fs ex H H1 h h1){b:Addr}{ob:Obj}(q:h.get? b=some ob)(n:H b=none)(hx:b∉ex):∃sl,h1.get? b=some { ob with slots:=sl }:=by
 by_cases hb:b∈fs
 ·exact u.slot b ob q n hb hx
 ·exact⟨ob.slots,u.keep b ob q n hb hx⟩
def Un.kept(k:∀b u,h.get? b=some u->h'.get? b=some u):Un fs ex H H h h':=
 ⟨λb ob q _ _ _=>k b ob q,λb ob q _ _ _=>⟨ob.slots,k b ob q⟩,λ_ _ _ n _=>n,λb ob q _=>⟨ob,k b ob q⟩,λ_ _ q=>q,λ_ _ _ q=>q,λ_ ps q=>⟨#[],by rw[q];simp⟩⟩
def Un.refl:Un fs ex H H h h:=Un.kept λ_ _ q=>q
def Un.laid(k:∀b u,h.get? b=some u->h'.get? b=some u)(hp:h.objs.size<=a)(hn:H a=none):Un fs ex H (upd H a o) h h' where
 keep:=λb u q _ _ _=>k b u q
 slot:=λb u q _ _ _=>⟨u.slots,k b u q⟩
 free:=λb u q n _=>by rw[ax (DH (DR (Dm q) hp))];exact n
 there:=λb u q _=>⟨u,k b u q⟩
 tups:=λb xs q=>by rw[ax (bO q hn)];exact q
 frzs:=λb u xs q=>by rw[ax (bO q hn)];exact q
 tbls:=λb ps q=>⟨#[],by rw[ax (bO q hn),q];simp⟩
def Un.write(mu:i9 (H x))(he:e=x\/H e=some (.own x))(k:∀b u,b≠e->h.get? b=some u->h'.get? b=some u)(heo:∃u,h'.get? e=some u):Un fs ex H (upd H x o) h h':=by
 have hx:∀b,H b=none->b≠x:=λb n z=>by subst z;rw[n]at mu;exact mu
 have hb:∀b,H b=none->b≠e:=λb n z=>by
  subst z;rcases he with r|r
  ·exact hx b n r
  ·rw[n]at r;cases r
 have hm:∀b u,H b=some u->¬i9 (some u)->b≠x:=λb u q nm z=>by subst z;rw[q]at mu;exact nm mu
 refine⟨λb u q n _ _=>k b u (hb b n) q,λb u q n _ _=>⟨u.slots,k b u (hb b n) q⟩,λb u q n _=>by rw[ax (hx b n)];exact n,λb u q _=>?_,
  λb xs q=>by rw[ax (hm b _ q λz=>z)];exact q,λb u xs q=>by rw[ax (hm b _ q λz=>z)];exact q,λb ps q=>⟨#[],by rw[ax (hm b _ q λz=>z),q];simp⟩⟩
 by_cases hbe:b=e
 ·subst hbe;exact heo
 ·exact⟨u,k b u hbe q⟩
end
def kr(h:Heap)(H:Hp):List Addr:=(Ek h.objs.size).filter λa=>(H a).isSome
def dW(h:Heap)(H:Hp):Heap:=PySem.W.hideAll h (kr h H)
def zB(h:Heap)(H:Hp):(dW h H).objs.size=h.objs.size:=PySem.W.hideAll_size _ _
def jN{h:Heap}{H:Hp}{b:Addr}{o:Obj}(e:h.get? b=some o)(n:H b=none):(dW h H).get? b=some o:=
 PySem.W.hideAll_get _ e λhm=>by have q:(H b).isSome=true:=(List.mem_filter.mp hm).2;rw[n]at q;simp at q
def CP{h:Heap}{H:Hp}{b:Addr}{o:Obj}(e:(dW h H).get? b=some o):h.get? b=some o/\H b=none:=by
 have e':h.get? b=some o:=PySem.W.of_hideAll (kr h H) e;refine⟨e',?_⟩;cases q:H b with
 | none=>rfl
 | some x=>
  have hm:b∈kr h H:=List.mem_filter.mpr ⟨List.mem_range.mpr (Dm e'),by simp[q]⟩;have z:(dW h H).get? b=none:=PySem.W.hideAll_none (kr h H) hm;rw[z]at e;cases e
structure Mod(K:Dj)(mg:Str->Option Value)(base:Heap):Prop where
 kin:K.In base
 glob:base.Ns mainGlobals mg
 blt:∃mb,base.Ns builtinsNs mb/\∀x:Str,x≠"__name__"->mb x=bootBuiltins x
 nolimit:base.NoLimit
structure Cx where
 prog:Program
 w:World
 K:Dj
 mg:Str->Option Value
 base:Heap
 A:Around
 N:List Str
 s₀:Shared
 H₀:Hp
 env:Env
 outer:List Env
 stack:List Env
 ex:List Addr
 fn:Str->Bool
 calm:Bool
 pn:List (Addr×Obj)
 xe:Value->Shared->Prop
def cB(l:List Env):List Addr:=l.filterMap (·.frame)
abbrev Cx.fs(X:Cx):List Addr:=cB X.outer
def jM(sc:Scope)(x:Str):Prop:=sc.names.lookup x=some .local\/sc.names.lookup x=some .cell\/sc.names.lookup x=some .free
def Loc(sc:Scope)(x:Str):Prop:=sc.names.lookup x=some .local\/sc.names.lookup x=some .cell
def Look(env:Env)(h:Heap)(m:Str->Option Value)(x:Str)(u:Value):Prop:=
 (env.kindOf x=some .local/\m x=some u)\/((env.kindOf x=some .cell\/env.kindOf x=some .free)/\∃c,env.cells.lookup x=some c/\h.IsCell c (some u))
structure Cx.Ok(X:Cx):Prop where
 mod:Mod X.K X.mg X.base
 kind:X.env.scope.kind=.function
 glob:X.env.globals=mainGlobals
 blt:X.env.builtins=builtinsNs
 above:X.s₀.heap.objs.size<=X.env.locals
 inj:∀x y c,X.env.cells.lookup x=some c->X.env.cells.lookup y=some c->x=y
 has:∀x,(X.env.kindOf x=some .cell\/X.env.kindOf x=some .free)->∃c,X.env.cells.lookup x=some c
 cab:∀x c,X.fn x=true->X.env.cells.lookup x=some c->X.s₀.heap.objs.size<=c
 hd:X.calm=true->X.A.handled=none
 frames:X.A.frames=some X.stack
 stk:X.stack=X.outer\/(X.stack=X.env::X.outer/\X.env.frame=some X.env.locals)
 exf:∀b∈X.ex,b≠X.env.locals/\∀x c,X.env.cells.lookup x=some c->c≠b
 bs:∀b o,X.base.get? b=some o->X.s₀.heap.get? b=some o/\X.H₀ b=none
 bsz:X.base.objs.size<=X.s₀.heap.objs.size
 noex:∀b o,X.base.get? b=some o->b∉X.ex
 exfs:∀b∈X.ex,b∉X.fs
 funs:X.s₀.heap.FunFrames X.base X.outer
 frf:∀b∈X.fs,X.H₀ b=none
structure Inv(X:Cx)(pins:List (Addr×Obj))(σ:List (Option V))(H:Hp)(s:Shared):Prop where
 ok:X.Ok
 os:s.os=X.s₀.os
 bare:AllBare s.gens
 base:Un X.fs X.ex X.H₀ H X.s₀.heap s.heap
 loc:∃m,s.heap.Ns X.env.locals m/\∀(i:Nat) (x:Str) (v:V),X.N[i]?=some x->σ[i]?=some (some v)->jM X.env.scope x->∃u,RelV v u/\Look X.env s.heap m x u
 cell:∀x c,X.env.cells.lookup x=some c->∃v,s.heap.IsCell c v
 free:H X.env.locals=none
 freeC:∀x c,X.env.cells.lookup x=some c->H c=none
 pin:∀p∈X.pn++pins,s.heap.get? p.1=some p.2/\H p.1=none/\p.1≠X.env.locals/\p.1∉X.fs/\∀v,p.2.data≠.cell v
 hok:aW X.prog X.w H s.heap
 len:σ.length=X.N.length
section
variable {X:Cx} {pins:List (Addr×Obj)} {σ:List (Option V)} {H H':Hp} {s:Shared} {h':Heap}
def Cx.Ok.nofr(ok:X.Ok){b:Addr}{o:Obj}(e:X.base.get? b=some o):b∉X.fs:=λhb=>by have:=(ok.funs.mem hb).1;rw[e]at this;cases this
def Inv.bs(I:Inv X pins σ H s):∀b o,X.base.get? b=some o->s.heap.get? b=some o/\H b=none:=λb o e=>
 ⟨I.base.keep b o (I.ok.bs b o e).1 (I.ok.bs b o e).2 (I.ok.nofr e) (I.ok.noex b o e),I.base.free b o (I.ok.bs b o e).1 (I.ok.bs b o e).2 (I.ok.noex b o e)⟩
def Inv.bk(I:Inv X pins σ H s):∀b o,X.base.get? b=some o->s.heap.get? b=some o:=λb o e=>(I.bs b o e).1
def Inv.mod(I:Inv X pins σ H s):Mod X.K X.mg X.base:=I.ok.mod
def Inv.kIn(I:Inv X pins σ H s):X.K.In s.heap:=I.ok.mod.kin.keeps I.bk
def Inv.lt(I:Inv X pins σ H s):X.env.locals<s.heap.objs.size:=let ⟨_,hn,_⟩:=I.loc;hn.lt
def Inv.sz(I:Inv X pins σ H s):X.s₀.heap.objs.size<=s.heap.objs.size:=DS I.ok.above (Nat.le_of_lt I.lt)
def Inv.nofs(I:Inv X pins σ H s){a:Addr}(h:s.heap.objs.size<=a):a∉X.fs:=λhb=>by obtain⟨_,o,ho,_⟩:=I.ok.funs.mem hb;exact absurd (DR (Dm ho) (DS I.sz h)) (Nat.lt_irrefl _)
def Inv.cne(I:Inv X pins σ H s):∀x c,X.env.cells.lookup x=some c->c≠X.env.locals:=λx c e z=>by obtain⟨v,o,ho,hd⟩:=I.cell x c e;obtain⟨m,⟨o',es,ep,ho',hd',_⟩,_⟩:=I.loc;rw[z,ho']at ho;cases ho;rw[hd']at hd;cases hd
def Inv.funs(I:Inv X pins σ H s):s.heap.FunFrames X.base X.outer:=by
 have all:∀(l:List Env),(∀b∈cB l,b∈X.fs)->X.s₀.heap.FunFrames X.base l->s.heap.FunFrames X.base l:=by
  intro l;induction l with
  | nil=>intro _ _;trivial
  | cons env r ih=>
   intro hs hl;obtain⟨hk,⟨L,o,hf,hn,ho,hd⟩,hr⟩:=hl;have hL:L∈X.fs:=hs L (by unfold cB;rw[List.filterMap_cons,hf];exact Dv);obtain⟨sl,e⟩:=I.base.slot L o ho (I.ok.frf L hL) hL λz=>I.ok.exfs L z hL;exact⟨hk,⟨L,_,hf,hn,e,hd⟩,ih (λb hb=>hs b (by unfold cB;rw[List.filterMap_cons,hf];exact Ds _ hb)) hr⟩
 exact all X.outer (λ_ hb=>hb) I.ok.funs
def Inv.stack(I:Inv X pins σ H s):s.heap.FunFrames X.base X.stack:=by
 rcases I.ok.stk with e|⟨e,hf⟩
 ·rw[e];exact I.funs
 ·rw[e];obtain⟨m,hn,_⟩:=I.loc;refine .cons (by rw[I.ok.kind];decide) hf hn ?_ I.funs;exact Heap.get?_none_of_le (DS I.ok.bsz I.ok.above)
def Inv.stkSub(I:Inv X pins σ H s):∀b∈cB X.stack,b∈X.env.locals::X.fs:=λb hb=>by
 rcases I.ok.stk with e|⟨e,hf⟩
 ·rw[e]at hb;exact Ds _ hb
 ·rw[e]at hb;unfold cB at hb;rw[List.filterMap_cons,hf]at hb;exact hb
def Inv.stkFree(I:Inv X pins σ H s):∀b∈cB X.stack,H b=none:=λb hb=>by
 rcases DD.mp (I.stkSub b hb)with e|hb
 ·rw[e];exact I.free
 ·obtain⟨_,o,ho,_⟩:=I.ok.funs.mem hb;exact I.base.free b o ho (I.ok.frf b hb) λz=>I.ok.exfs b z hb
def Inv.step{g':Array GenState}{t':Nat}{d':Drawn}{ch:List Addr}(I:Inv X pins σ H s)
  (hch:∀b∈ch,(b∈X.ex\/X.s₀.heap.objs.size<=b)/\b≠X.env.locals/\(∀x c,X.env.cells.lookup x=some c->c≠b)/\∀p∈X.pn++pins,p.1≠b)
  (keep:∀b o,b≠X.env.locals->b∉X.fs->b∉ch->s.heap.get? b=some o->H b=none->h'.get? b=some o)
  (slot:∀b o,b≠X.env.locals->b∈X.fs->b∉ch->s.heap.get? b=some o->H b=none->∃sl,h'.get? b=some { o with slots:=sl }) (free:∀b o,b∉ch->s.heap.get? b=some o->H b=none->H' b=none)
  (there:∀b o,b∉ch->s.heap.get? b=some o->∃o',h'.get? b=some o')
  (tups:∀b xs,H b=some (.tup xs)->H' b=some (.tup xs)) (frzs:∀b o u,H b=some (.frz o u)->H' b=some (.frz o u)) (tbls:∀b ps,H b=some (.tbl ps)->∃more,H' b=some (.tbl (ps++more)))
  (ns:∀m,s.heap.Ns X.env.locals m->h'.Ns X.env.locals m) (hok:aW X.prog X.w H' h') (hg:AllBare g') :
  Inv X pins σ H' { s with heap:=h',gens:=g',drawn:=d',toks:=t' }:=by
 have neL:∀b o,X.s₀.heap.get? b=some o->b≠X.env.locals:=λb o e=>DH (DR (Dm e) I.ok.above);have neC:∀b o,X.s₀.heap.get? b=some o->b∉X.ex->b∉ch:=λb o e hx hb=>by
  rcases(hch b hb).1 with z|z
  ·exact hx z
  ·exact absurd (DR (Dm e) z) (Nat.lt_irrefl _)
 have cellK:∀x c,X.env.cells.lookup x=some c->∀v,s.heap.IsCell c v->h'.IsCell c v:=λx c e v ⟨o,ho,hd⟩=>by
  have nch:c∉ch:=λz=>(hch c z).2.2.1 x c e rfl;by_cases hc:c∈X.fs
  ·obtain⟨sl,q⟩:=slot c o (I.cne x c e) hc nch ho (I.freeC x c e);exact⟨_,q,hd⟩
  ·exact⟨o,keep c o (I.cne x c e) hc nch ho (I.freeC x c e),hd⟩
 refine⟨I.ok,I.os,hg,⟨λb o e n hb hx=>?_,λb o e n hb hx=>?_,λb o e n hx=>?_,λb o e hx=>?_,λb xs e=>tups b xs (I.base.tups b xs e),λb o xs e=>frzs b o xs (I.base.frzs b o xs e),λb ps e=>?_⟩,?_,λx c e=>?_,?_,λx c e=>?_,λp hp=>?_,hok,I.len⟩
 ·exact keep b o (neL b o e) hb (neC b o e hx) (I.base.keep b o e n hb hx) (I.base.free b o e n hx)
 ·obtain⟨sl,e1⟩:=I.base.slot b o e n hb hx;obtain⟨sl',e2⟩:=slot b _ (neL b o e) hb (neC b o e hx) e1 (I.base.free b o e n hx);exact⟨sl',e2⟩
 ·obtain⟨o',e1⟩:=I.base.there b o e hx;exact free b o' (neC b o e hx) e1 (I.base.free b o e n hx)
 ·obtain⟨o',e1⟩:=I.base.there b o e hx;exact there b o' (neC b o e hx) e1
 ·obtain⟨m1,e1⟩:=I.base.tbls b ps e;obtain⟨m2,e2⟩:=tbls b _ e1;exact⟨m1++m2,by rw[e2,Array.append_assoc]⟩
 ·obtain⟨m,hn,hl⟩:=I.loc;refine⟨m,ns m hn,λi x v e1 e2 e3=>?_⟩;obtain⟨u,r,l⟩:=hl i x v e1 e2 e3;refine⟨u,r,?_⟩;rcases l with l|⟨k,c,e,z⟩
  ·exact .inl l
  ·exact .inr ⟨k,c,e,cellK x c e _ z⟩
 ·obtain⟨v,z⟩:=I.cell x c e;exact⟨v,cellK x c e v z⟩
 ·obtain⟨m,⟨o,_,_,ho,_⟩,_⟩:=I.loc;exact free _ o (λz=>(hch _ z).2.1 rfl) ho I.free
 ·obtain⟨v,o,ho,hd⟩:=I.cell x c e;exact free c o (λz=>(hch c z).2.2.1 x c e rfl) ho (I.freeC x c e)
 ·obtain⟨e,n,ne,nf,d⟩:=I.pin p hp;have nch:p.1∉ch:=λz=>(hch p.1 z).2.2.2 p hp rfl;exact⟨keep p.1 p.2 ne nf nch e n,free p.1 p.2 nch e n,ne,nf,d⟩
def Inv.un{t':Nat}(I:Inv X pins σ H s)(u:Un X.fs [] H H' s.heap h')(hok:aW X.prog X.w H' h'):Inv X pins σ H' { s with heap:=h',toks:=t' }:=by
 obtain⟨m,⟨o,es,ep,ho,r⟩,_⟩:=id I.loc;obtain⟨sl,hL⟩:=u.any ho I.free (by simp);exact I.step (g':=s.gens) (d':=s.drawn) (ch:=[]) (λ_ z=>nomatch z) (λb o _ hb _ e n=>u.keep b o e n hb (by simp)) (λb o _ hb _ e n=>u.slot b o e n hb (by simp)) (λb o _ e n=>u.free b o e n (by simp)) (λb o _ e=>u.there b o e (by simp)) u.tups u.frzs u.tbls (λm' hm=>by obtain⟨o',es',ep',ho',r'⟩:=hm;rw[ho]at ho';cases ho';exact⟨_,es',ep',hL,r'⟩) hok I.bare
def Inv.call{g':Array GenState}{t':Nat}{d':Drawn}{ch:List Addr}(I:Inv X pins σ H s)(u:Un (cB X.stack) ch H H' s.heap h')(hok:aW X.prog X.w H' h')(hg:AllBare g')
  (hch:∀b∈ch,(b∈X.ex\/X.s₀.heap.objs.size<=b)/\b≠X.env.locals/\(∀x c,X.env.cells.lookup x=some c->c≠b)/\∀p∈X.pn++pins,p.1≠b) :
  Inv X pins σ H' { s with heap:=h',gens:=g',drawn:=d',toks:=t' }:=by
 obtain⟨m,⟨o,es,ep,ho,r⟩,_⟩:=id I.loc;obtain⟨sl,hL⟩:=u.any ho I.free λz=>(hch _ z).2.1 rfl;exact I.step (ch:=ch) hch (λb o hL hb hc e n=>u.keep b o e n (λz=>(DD.mp (I.stkSub b z)).elim hL hb) hc) (λb o _ _ hc e n=>u.any e n hc) (λb o hc e n=>u.free b o e n hc) (λb o hc e=>u.there b o e hc) u.tups u.frzs u.tbls (λm' hm=>by obtain⟨o',es',ep',ho',r'⟩:=hm;rw[ho]at ho';cases ho';exact⟨_,es',ep',hL,r'⟩) hok hg
def Inv.turned{t':Nat}{it:Addr}(I:Inv X pins σ H s)(k:∀b o,b≠it->s.heap.get? b=some o->h'.get? b=some o)(hn:H it=none)(hL:it≠X.env.locals)
  (h1:it∈X.ex\/X.s₀.heap.objs.size<=it) (h2:∀x c,X.env.cells.lookup x=some c->c≠it) (h3:∀p∈X.pn++pins,p.1≠it):Inv X pins σ H { s with heap:=h',toks:=t' }:=by
 have nit:∀b u,H b=some u->b≠it:=λb u e z=>by rw[z,hn]at e;cases e
 refine I.step (g':=s.gens) (d':=s.drawn) (ch:=[it]) (λb hb=>?_) (λb o _ _ hc e _=>k b o (λz=>hc (by simp[z])) e) (λb o _ _ hc e _=>⟨o.slots,k b o (λz=>hc (by simp[z])) e⟩) (λ_ _ _ _ n=>n)
  (λb o hc e=>⟨o,k b o (λz=>hc (by simp[z])) e⟩) (λ_ _ e=>e) (λ_ _ _ e=>e) (λb ps e=>⟨#[],by rw[e];simp⟩) (λm hm=>?_) (λb u e=>?_) I.bare
 ·have e:b=it:=by simpa using hb
  subst e;exact⟨h1,hL,h2,h3⟩
 ·obtain⟨o,es,ep,ho,r⟩:=hm;exact⟨o,es,ep,k _ o (Ne.symm hL) ho,r⟩
 ·refine(I.hok b u e).stay (λc v hc q=>k c v ?_ q) (λ_ q=>q) λ_ _ q=>q;rcases hc with z|z
  ·rw[z];exact nit b u e
  ·exact nit c _ z
def Inv.tok(I:Inv X pins σ H s)(t:Nat):Inv X pins σ H { s with toks:=t }:=I.un (h':=s.heap) (t':=t) Un.refl I.hok
def Inv.kept{t':Nat}(I:Inv X pins σ H s)(k:∀b u,s.heap.get? b=some u->h'.get? b=some u):Inv X pins σ H { s with heap:=h',toks:=t' }:=I.un (Un.kept k) (I.hok.kept k)
def Inv.laid{a:Addr}{o:HO}{t':Nat}(I:Inv X pins σ H s)(k:∀b u,s.heap.get? b=some u->h'.get? b=some u)(hp:s.heap.objs.size<=a)(new:bj X.prog X.w (upd H a o) h' a o):
  Inv X pins σ (upd H a o) { s with heap:=h',toks:=t' }:=I.un (Un.laid k hp (I.hok.fresh hp)) (I.hok.laid k hp new)
def Inv.write{x e:Addr}{o:HO}{t':Nat}(I:Inv X pins σ H s)(mu:i9 (H x))(he:e=x\/H e=some (.own x))(k:∀b u,b≠e->s.heap.get? b=some u->h'.get? b=some u)(heo:∃u,h'.get? e=some u)
  (new:bj X.prog X.w (upd H x o) h' x o):Inv X pins σ (upd H x o) { s with heap:=h',toks:=t' }:=I.un (Un.write mu he k heo) (I.hok.write mu he k heo new)
def Inv.pins_of{pins':List (Addr×Obj)}(I:Inv X pins σ H s)(h:∀p∈pins',s.heap.get? p.1=some p.2/\H p.1=none/\p.1≠X.env.locals/\p.1∉X.fs/\∀v,p.2.data≠.cell v):Inv X pins' σ H s:=
 ⟨I.ok,I.os,I.bare,I.base,I.loc,I.cell,I.free,I.freeC,λp hp=>(DL.mp hp).elim (λz=>I.pin p (Eb _ z)) (h p),I.hok,I.len⟩
def vo{N:List Str}(hN:N.Nodup){i j:Nat}{x:Str}(a:N[i]?=some x)(b:N[j]?=some x):i=j:=by obtain⟨h1,e1⟩:=Dx.mp a;obtain⟨h2,e2⟩:=Dx.mp b;exact(List.getElem_inj hN).mp (e1.trans e2.symm)
def qR{M:Model}{A:Around}{E:Value->Shared->Prop}{i:Nat}{x:Str}{v:V}{u:Value}{Q:Unit->Shared->Prop}(I:Inv X pins σ H s)(hN:X.N.Nodup)(hi:X.N[i]?=some x)(hx:Loc X.env.scope x)(r:RelV v u)
  (h:∀s',Inv X pins (σ.set i (some v)) H s'->(∃a,Heap.SameBut a s.heap s'.heap/\(a=X.env.locals\/X.env.cells.lookup x=some a))->Q () s') (hf:X.fn x=true\/X.env.scope.names.lookup x=some .local:=by first|exact .inl rfl|exact .inr rfl|assumption):wpAny M A (storeName X.env x u) Q E s:=by
 obtain⟨m,hn,hl⟩:=id I.loc;have hcls:(X.env.scope.kind == .class || (X.env.scope.kind == .module && X.env.locals != X.env.globals))=false:=by rw[I.ok.kind];rfl
 have hiσ:i<σ.length:=by rw[I.len];exact(Dx.mp hi).1
 have cne:=I.cne;have tracked:∀{a:Addr} {h':Heap},(∃o,s.heap.get? a=some o/\H a=none)->Heap.SameBut a s.heap h'->aW X.prog X.w H h':=λ{a h'} ha hs b ob e=>by
  obtain⟨_,_,hfree⟩:=ha;refine(I.hok b ob e).stay (λc w' hc q=>(hs.2 c ?_).trans q) (λ_ q=>q) λ_ _ q=>q;rintro rfl;rcases hc with rfl|hc
  ·rw[hfree]at e;cases e
  ·rw[hfree]at hc;cases hc
 rcases hx with hk|hk
 ·refine wpAny_storeName_local hk hn (λh' hn' hs=>?_) hcls;obtain⟨oL,_,_,hoL,_⟩:=id hn;refine h _ ⟨I.ok,I.os,I.bare,⟨λb o e n hb hx=>?_,λb o e n hb hx=>?_,I.base.free,λb o e hx=>?_,I.base.tups,I.base.frzs,I.base.tbls⟩,⟨_,hn',λj y v' e1 e2 e3=>?_⟩,λy c e=>?_,I.free,I.freeC,λp hp=>?_,tracked ⟨oL,hoL,I.free⟩ hs,by simpa using I.len⟩ ⟨_,hs,.inl rfl⟩
  ·exact(hs.2 b (DH (DR (Dm e) I.ok.above))).trans (I.base.keep b o e n hb hx)
  ·obtain⟨sl,e1⟩:=I.base.slot b o e n hb hx;exact⟨sl,(hs.2 b (DH (DR (Dm e) I.ok.above))).trans e1⟩
  ·obtain⟨o',e1⟩:=I.base.there b o e hx;exact⟨o',(hs.2 b (DH (DR (Dm e) I.ok.above))).trans e1⟩
  ·by_cases hj:j=i
   ·subst hj;rw[hi]at e1;cases e1;rw[List.getElem?_set_self hiσ]at e2;cases e2;exact⟨u,r,.inl ⟨hk,by simp⟩⟩
   ·rw[List.getElem?_set_ne (Ne.symm hj)]at e2;obtain⟨u',r',q⟩:=hl j y v' e1 e2 e3;refine⟨u',r',?_⟩;rcases q with⟨k,e⟩|⟨k,c,e,z⟩
    ·refine .inl ⟨k,?_⟩;have:y≠x:=λe=>hj (vo hN e1 (e ▸ hi));simp[this,e]
    ·exact .inr ⟨k,c,e,z.sameBut hs (cne y c e)⟩
  ·obtain⟨w',z⟩:=I.cell y c e;exact⟨w',z.sameBut hs (cne y c e)⟩
  ·obtain⟨e,n,ne,nf,d⟩:=I.pin p hp;exact⟨(hs.2 p.1 ne).trans e,n,ne,nf,d⟩
 ·have hfn:X.fn x=true:=by
   rcases hf with z|z
   ·exact z
   ·rw[z]at hk;cases hk
  obtain⟨c,hc⟩:=I.ok.has x (.inl hk);obtain⟨w',z⟩:=I.cell x c hc;refine wpAny_storeName_cell I.ok.kind hk hc z (λh' hc' hs=>?_);obtain⟨oc,hoc,hocd⟩:=id z;refine h { s with heap:=h' } ⟨I.ok,I.os,I.bare,⟨λb o e n hb hx=>?_,λb o e n hb hx=>?_,I.base.free,λb o e hx=>?_,I.base.tups,I.base.frzs,I.base.tbls⟩,⟨m,hn.sameBut hs (Ne.symm (cne x c hc)),λj y v' e1 e2 e3=>?_⟩,λy c' e=>?_,I.free,I.freeC,λp hp=>?_,tracked ⟨oc,hoc,I.freeC x c hc⟩ hs,by simpa using I.len⟩ ⟨c,hs,.inr hc⟩
  ·exact(hs.2 b (DH (DR (Dm e) (I.ok.cab x c hfn hc)))).trans (I.base.keep b o e n hb hx)
  ·obtain⟨sl,e1⟩:=I.base.slot b o e n hb hx;exact⟨sl,(hs.2 b (DH (DR (Dm e) (I.ok.cab x c hfn hc)))).trans e1⟩
  ·obtain⟨o',e1⟩:=I.base.there b o e hx;exact⟨o',(hs.2 b (DH (DR (Dm e) (I.ok.cab x c hfn hc)))).trans e1⟩
  ·by_cases hj:j=i
   ·subst hj;rw[hi]at e1;cases e1;rw[List.getElem?_set_self hiσ]at e2;cases e2;exact⟨u,r,.inr ⟨.inl hk,c,hc,hc'⟩⟩
   ·rw[List.getElem?_set_ne (Ne.symm hj)]at e2;obtain⟨u',r',q⟩:=hl j y v' e1 e2 e3;refine⟨u',r',?_⟩;rcases q with q|⟨k,c',e,z'⟩
    ·exact .inl q
    ·refine .inr ⟨k,c',e,z'.sameBut hs ?_⟩;rintro rfl;exact hj (vo hN e1 (I.ok.inj _ _ _ e hc ▸ hi))
  ·by_cases hcc:c'=c
   ·subst hcc;exact⟨_,hc'⟩
   ·obtain⟨w2,z2⟩:=I.cell y c' e;exact⟨w2,z2.sameBut hs hcc⟩
  ·obtain⟨e,n,ne,nf,d⟩:=I.pin p hp;refine⟨(hs.2 p.1 ?_).trans e,n,ne,nf,d⟩;intro q;rw[q,hoc]at e;have q':oc=p.2:=DZ e;exact d w' (by rw[←q'];exact hocd)
def iJ{M:Model}{A:Around}{E:Value->Shared->Prop}{i:Nat}{x:Str}{v:V}{u:Value}{Q:Unit->Shared->Prop}(I:Inv X pins σ H s)(hN:X.N.Nodup)(hi:X.N[i]?=some x)(hx:Loc X.env.scope x)(r:RelV v u)
  (h:∀s',Inv X pins (σ.set i (some v)) H s'->Q () s') (hf:X.fn x=true\/X.env.scope.names.lookup x=some .local:=by first|exact .inl rfl|exact .inr rfl|assumption):wpAny M A (storeName X.env x u) Q E s:=
 qR I hN hi hx r (λs' I' _=>h s' I') hf
def Inv.call'{s':Shared}{ch:List Addr}(I:Inv X pins σ H s)(ho:s'.os=s.os)(u:Un (cB X.stack) ch H H' s.heap s'.heap)(hok:aW X.prog X.w H' s'.heap)(hg:AllBare s'.gens)
  (hch:∀b∈ch,(b∈X.ex\/X.s₀.heap.objs.size<=b)/\b≠X.env.locals/\(∀x c,X.env.cells.lookup x=some c->c≠b)/\∀p∈X.pn++pins,p.1≠b):Inv X pins σ H' s':=by
 obtain⟨h',g',d',t',o'⟩:=s';have e:o'=s.os:=ho;subst e;exact I.call (g':=g') (t':=t') (d':=d') u hok hg hch
end
abbrev XK:=Value->Option Addr->Hp->Prop
abbrev St:=List (Option V)
abbrev VK:=V->Hp->Prop
abbrev TE:=St->Hp->VK->Prop
abbrev TT:=St->Hp->(Bool->Hp->Prop)->Prop
abbrev TA:=St->Hp->(List V->Hp->Prop)->Prop
structure Ends where
 nx:St->Hp->Prop
 rt:VK
 bk:St->Hp->Prop:=λ_ _=>False
 ct:St->Hp->Prop:=λ_ _=>False
abbrev TS:=Ends->St->Hp->Prop
def EP(X:Cx)(pins:List (Addr×Obj))(σ:St)(Q:VK)(u:Value)(s':Shared):Prop:=∃v H',Inv X pins σ H' s'/\RelV v u/\Q v H'
def TP(X:Cx)(pins:List (Addr×Obj))(σ:St)(Q:Bool->Hp->Prop)(b:Bool)(s':Shared):Prop:=∃H',Inv X pins σ H' s'/\Q b H'
def AP(X:Cx)(pins:List (Addr×Obj))(σ:St)(Q:List V->Hp->Prop)(us:List Value)(s':Shared):Prop:=∃vs H',Inv X pins σ H' s'/\Vals vs us/\Q vs H'
def SP(X:Cx)(pins:List (Addr×Obj))(D:Ends)(f:Flow)(s':Shared):Prop:=
 match f with
 | .next=>∃σ' H',Inv X pins σ' H' s'/\D.nx σ' H'
 | .brk=>∃σ' H',Inv X pins σ' H' s'/\D.bk σ' H'
 | .cont=>∃σ' H',Inv X pins σ' H' s'/\D.ct σ' H'
 | .ret u=>∃v σ' H',Inv X pins σ' H' s'/\RelV v u/\D.rt v H'
def PE(X:Cx)(e:Expr)(t:TE):Prop:=
 ∀(pins:List (Addr×Obj)) (s:Shared) (σ:St) (H:Hp) (Q:VK),Inv X pins σ H s->t σ H Q->wpAny (model X.prog X.w) X.A (eval e X.env) (EP X pins σ Q) X.xe s
def PT(X:Cx)(e:Expr)(t:TT):Prop:=
 ∀(pins:List (Addr×Obj)) (s:Shared) (σ:St) (H:Hp) (Q:Bool->Hp->Prop),Inv X pins σ H s->t σ H Q->wpAny (model X.prog X.w) X.A (isTrue e X.env (eval e X.env)) (TP X pins σ Q) X.xe s
def PW(X:Cx)(e:Expr)(t:TT):Prop:=
 ∀(whole:Sem Value) (pins:List (Addr×Obj)) (s:Shared) (σ:St) (H:Hp) (Q:Bool->Hp->Prop),Inv X pins σ H s->t σ H Q->wpAny (model X.prog X.w) X.A (isTrue e X.env whole) (TP X pins σ Q) X.xe s
def PW.pt{X:Cx}{e:Expr}{t:TT}(h:PW X e t):PT X e t:=h _
def PA(X:Cx)(es:List Expr)(t:TA):Prop:=
 ∀(pos:Pos) (pins:List (Addr×Obj)) (s:Shared) (σ:St) (H:Hp) (Q:List V->Hp->Prop),Inv X pins σ H s->t σ H Q->wpAny (model X.prog X.w) X.A (spliced (backTo pos (starEach es X.env))) (AP X pins σ Q) X.xe s
def PS(X:Cx)(st:Stmt)(t:TS):Prop:=
 ∀(pins:List (Addr×Obj)) (s:Shared) (σ:St) (H:Hp) (D:Ends),Inv X pins σ H s->t D σ H->wpAny (model X.prog X.w) X.A (exec st X.env) (SP X pins D) X.xe s
def cj(X:Cx)(st:List Stmt)(t:TS):Prop:=
 ∀(pins:List (Addr×Obj)) (s:Shared) (σ:St) (H:Hp) (D:Ends),Inv X pins σ H s->t D σ H->wpAny (model X.prog X.w) X.A (execs st X.env) (SP X pins D) X.xe s
def aw{α:Type}{t:Sem α}{Q Q':α->Shared->Prop}{M:Model}{A:Around}{E:Value->Shared->Prop}{s:Shared}(h:wpAny M A t Q E s)(hQ:∀a s,Q a s->Q' a s):wpAny M A t Q' E s:=wpAny_mono h hQ λ_ _ x=>x
section
variable {X:Cx}
def bin{a b:Expr}{ta tb:TE}(ha:PE X a ta)(hb:PE X b tb){pins:List (Addr×Obj)}{s:Shared}{σ:St}{H:Hp}{R:V->V->Hp->Prop}(I:Inv X pins σ H s)(h:ta σ H λx H1=>tb σ H1 λy H2=>R x y H2)
  {α:Type} {Q:α->Shared->Prop} {f:Value->Value->Sem α}
  (hf:∀v u s2 x y H2,Inv X pins σ H2 s2->RelV x v->RelV y u->R x y H2->wpAny (model X.prog X.w) X.A (f v u) Q X.xe s2) :
  wpAny (model X.prog X.w) X.A (eval a X.env) (λv s₁=>wpAny (model X.prog X.w) X.A (eval b X.env) (λu s₂=>wpAny (model X.prog X.w) X.A (f v u) Q X.xe s₂) X.xe s₁) X.xe s:=by
 refine aw (ha pins s σ H _ I h) λv s1 ⟨x,H1,I1,r1,q1⟩=>?_;refine aw (hb pins s1 σ H1 _ I1 q1) λu s2 ⟨y,H2,I2,r2,q2⟩=>?_;exact hf v u s2 x y H2 I2 r1 r2 q2
def iO(i:Nat):TE:=λσ H Q=>∃v,σ[i]?=some (some v)/\Q v H
def tC(v:V):TE:=λ_ H Q=>Q v H
def m9{i:Nat}{x:Str}{pos:Pos}(hN:X.N[i]?=some x)(hv:jM X.env.scope x)(hd:(x == ("__debug__":Str))=false:=by decide)(hcd:(x == ("__classdict__":Str))=false:=by decide):PE X (.Name x pos) (iO i):=by
 intro pins s σ H Q I h;obtain⟨v,e,h⟩:=h;obtain⟨m,hn,hl⟩:=I.loc;obtain⟨u,r,l⟩:=hl i x v hN e hv;have fin:EP X pins σ Q u s:=⟨v,H,I,r,h⟩;rcases l with⟨hk,hm⟩|⟨hk,c,hc,hcell⟩
 ·exact wpAny_Name (wpAny_loadName_local I.ok.kind hk hn hm fin) hd
 ·rcases hk with hk|hk
  ·exact wpAny_Name (wpAny_loadName_cell I.ok.kind hk hc hcell fin) hd
  ·exact wpAny_Name (wpAny_loadName_free I.ok.kind hk hc hcell fin hcd) hd
def af{i j pos}:PE X (.Constant (.int i) j pos) (tC (.int i)):=λ_ _ _ H _ I h=>wpAny_Constant_int ⟨.int i,H,I.tok _,⟨_,rfl⟩,h⟩
def bA{b j pos}:PE X (.Constant (.bool b) j pos) (tC (.bl b)):=λ_ _ _ H _ I h=>Constant_bool ⟨.bl b,H,I,rfl,h⟩
def i6{j pos}:PE X (.Constant .none j pos) (tC .non):=λ_ _ _ H _ I h=>Constant_none ⟨.non,H,I,rfl,h⟩
def aO{x j pos}:PE X (.Constant (.str x) j pos) (tC (.str x)):=λ_ _ _ H _ I h=>Calls.Constant_str ⟨.str x,H,I.tok _,⟨_,rfl⟩,h⟩
def Gl(X:Cx)(x:Str):Prop:=X.env.kindOf x=some .globalImplicit
def iK{E:Value->Shared->Prop}{pins:List (Addr×Obj)}{s:Shared}{σ:St}{H:Hp}{x:Str}{u:Value}{pos:Pos}{Q:Value->Shared->Prop}(I:Inv X pins σ H s)(hg:Gl X x)(hm:X.mg x=some u)(h:Q u s)
  (hd:(x == ("__debug__":Str))=false:=by decide):wpAny (model X.prog X.w) X.A (eval (.Name x pos) X.env) Q E s:=
 Calls.Name_function_global I.ok.kind hg (Calls.loadGlobal_global (by rw[I.ok.glob];exact I.mod.glob.keeps I.bk) hm h) hd
def f9{E:Value->Shared->Prop}{pins:List (Addr×Obj)}{s:Shared}{σ:St}{H:Hp}{x:Str}{u:Value}{pos:Pos}{Q:Value->Shared->Prop}(I:Inv X pins σ H s)(hg:Gl X x)(hm:X.mg x=none)(hv:bootBuiltins x=some u)(h:Q u s)
  (hn:x≠"__name__":=by decide) (hd:(x == ("__debug__":Str))=false:=by decide):wpAny (model X.prog X.w) X.A (eval (.Name x pos) X.env) Q E s:=by
 obtain⟨mb,h1,h2⟩:=I.mod.blt;exact Calls.Name_function_global I.ok.kind hg (Calls.loadGlobal_builtin (by rw[I.ok.glob];exact I.mod.glob.keeps I.bk) hm (by rw[I.ok.blt];exact h1.keeps I.bk) ((h2 x hn).trans hv) h) hd
def gn{x:Str}{v:V}{u:Value}{pos:Pos}(hg:Gl X x)(hm:X.mg x=some u)(r:RelV v u)(hd:(x == ("__debug__":Str))=false:=by decide):PE X (.Name x pos) (tC v):=
 λ_ _ _ H _ I h=>iK I hg hm ⟨v,H,I,r,h⟩ hd
def eI{x:Str}{v:V}{u:Value}{pos:Pos}(hg:Gl X x)(hm:X.mg x=none)(hv:bootBuiltins x=some u)(r:RelV v u)(hn:x≠"__name__":=by decide)(hd:(x == ("__debug__":Str))=false:=by decide):PE X (.Name x pos) (tC v):=
 λ_ _ _ H _ I h=>f9 I hg hm hv ⟨v,H,I,r,h⟩ hn hd
variable {a b:Expr} {ta tb:TE} {pos:Pos}
def PC(X:Cx)(op:CmpOp)(a b:Expr)(t:TE):Prop:=
 ∀(pins:List (Addr×Obj)) (s:Shared) (σ:St) (H:Hp) (Q:VK),Inv X pins σ H s->t σ H Q →
  wpAny (model X.prog X.w) X.A (eval a X.env) (λv s₁=>wpAny (model X.prog X.w) X.A (eval b X.env) (λu s₂=>wpAny (model X.prog X.w) X.A (compareOp op v u) (EP X pins σ Q) X.xe s₂) X.xe s₁) X.xe s
def tB(t:TE):TT:=λσ H Q=>t σ H λx H1=>∃c,x=.bl c/\Q c H1
def Ai{op:CmpOp}{t:TE}(h:PC X op a b t)(h1:behindInMarks op b=false:=by first|exact nobehind _ (by decide) (by decide)|rfl):PE X (.Compare a [op] [b] pos) t:=λpins s σ H Q I hw=>wpAny_Compare1 (h pins s σ H Q I hw) h1
def Au{op:CmpOp}{t:TE}(h:PC X op a b t)(h1:behindInMarks op b=false:=by first|exact nobehind _ (by decide) (by decide)|rfl):PT X (.Compare a [op] [b] pos) (tB t):=by intro pins s σ H Q I hw;refine wpAny_isTrue_Compare1 (aw (h pins s σ H _ I hw) λv s1 h1=>aw h1 λu s2 h2=>aw h2 λc s3 ⟨x,H1,I1,r1,q1⟩=>?_) h1;obtain⟨d,rfl,q⟩:=q1;cases r1;exact wpAny_truthy_bool ⟨H1,I1,q⟩
def bH{e:Expr}{t:TE}(h:PE X e t)(he:∀whole,isTrue e X.env whole=(do let v ←whole;standAt e.pos;holding [v] (truthy v)):=by intro _;rfl):PT X e (tB t):=by intro pins s σ H Q I hw;refine isTrue_plain (aw (h pins s σ H _ I hw) λv s1 ⟨x,H1,I1,r1,q1⟩=>?_) (he _);obtain⟨d,rfl,q⟩:=q1;cases r1;exact wpAny_truthy_bool ⟨H1,I1,q⟩
variable {tA tB':TT} {rest:List Expr}
def vC(t u:TT):TT:=λσ H Q=>t σ H λc H1=>if c=true then u σ H1 Q else Q false H1
def vO(t u:TT):TT:=λσ H Q=>t σ H λc H1=>if c=true then Q true H1 else u σ H1 Q
def vg(t:TT):TT:=λσ H Q=>t σ H λc H1=>Q (!c) H1
def oN(ha:PT X a tA):PW X (.BoolOp .And [a] pos) tA:=by
 intro wh pins s σ H Q I h;refine isTrue_and (aw (ha pins s σ H Q I h) λc s1 e=>?_);cases c with
 | true=>exact isTrue_and_nil e
 | false=>exact e
def eW(ha:PT X a tA):PW X (.BoolOp .Or [a] pos) tA:=by
 intro wh pins s σ H Q I h;refine isTrue_or (aw (ha pins s σ H Q I h) λc s1 e=>?_);cases c with
 | false=>exact isTrue_or_nil e
 | true=>exact e
def mn(ha:PT X a tA)(hb:PW X (.BoolOp .And (b::rest) pos) tB'):PW X (.BoolOp .And (a::b::rest) pos) (vC tA tB'):=by
 intro wh pins s σ H Q I h;refine isTrue_and (aw (ha pins s σ H _ I h) λc s1 ⟨H1,I1,q1⟩=>?_);cases c with
 | true=>exact hb wh pins s1 σ H1 Q I1 q1
 | false=>exact⟨H1,I1,q1⟩
def dh(ha:PT X a tA)(hb:PW X (.BoolOp .Or (b::rest) pos) tB'):PW X (.BoolOp .Or (a::b::rest) pos) (vO tA tB'):=by
 intro wh pins s σ H Q I h;refine isTrue_or (aw (ha pins s σ H _ I h) λc s1 ⟨H1,I1,q1⟩=>?_);cases c with
 | true=>exact⟨H1,I1,q1⟩
 | false=>exact hb wh pins s1 σ H1 Q I1 q1
def cK(ha:PT X a tA):PT X (.UnaryOp .Not a pos) (vg tA):=by intro pins s σ H Q I h;exact isTrue_not (ha pins s σ H (λc H1=>Q (!c) H1) I h)
def tD(ta tb:TE):TE:=λσ H Q=>ta σ H λx H1=>∃c,x=.bl c/\if c=true then tb σ H1 Q else Q (.bl false) H1
def vD(ta tb:TE):TE:=λσ H Q=>ta σ H λx H1=>∃c,x=.bl c/\if c=true then Q (.bl true) H1 else tb σ H1 Q
def uL(ta:TE):TE:=λσ H Q=>ta σ H λx H1=>∃c,x=.bl c/\Q (.bl (!c)) H1
def cM{op}{t:TE}(h:PE X a t):PE X (.BoolOp op [a] pos) t:=λpins s σ H Q I hw=>BoolOp_one (h pins s σ H Q I hw)
def cW(ha:PE X a ta)(hb:PE X (.BoolOp .And (b::rest) pos) tb):PE X (.BoolOp .And (a::b::rest) pos) (tD ta tb):=by
 intro pins s σ H Q I h;refine BoolOp_and (aw (ha pins s σ H _ I h) λv s1 ⟨x,H1,I1,r1,q1⟩=>?_);obtain⟨c,rfl,q1⟩:=q1;cases r1;refine wpAny_truthy_bool ?_;cases c with
 | true=>exact hb pins s1 σ H1 Q I1 q1
 | false=>exact⟨.bl false,H1,I1,rfl,q1⟩
def kY(ha:PE X a ta)(hb:PE X (.BoolOp .Or (b::rest) pos) tb):PE X (.BoolOp .Or (a::b::rest) pos) (vD ta tb):=by
 intro pins s σ H Q I h;refine BoolOp_or (aw (ha pins s σ H _ I h) λv s1 ⟨x,H1,I1,r1,q1⟩=>?_);obtain⟨c,rfl,q1⟩:=q1;cases r1;refine wpAny_truthy_bool ?_;cases c with
 | false=>exact hb pins s1 σ H1 Q I1 q1
 | true=>exact⟨.bl true,H1,I1,rfl,q1⟩
def uH(ha:PE X a ta):PE X (.UnaryOp .Not a pos) (uL ta):=by intro pins s σ H Q I h;refine UnaryOp_ (aw (ha pins s σ H _ I h) λv s1 ⟨x,H1,I1,r1,q1⟩=>?_);obtain⟨c,rfl,q1⟩:=q1;cases r1;exact not_of (wpAny_truthy_bool ⟨.bl (!c),H1,I1,rfl,q1⟩)
def rF(t:TT)(ta tb:TE):TE:=λσ H Q=>t σ H λc H1=>if c=true then ta σ H1 Q else tb σ H1 Q
def zH{c:Expr}(hc:PT X c tA)(ha:PE X a ta)(hb:PE X b tb):PE X (.IfExp c a b pos) (rF tA ta tb):=by
 intro pins s σ H Q I h;refine wpAny_IfExp (aw (hc pins s σ H _ I h) λd s1 ⟨H1,I1,q1⟩=>?_);cases d with
 | true=>exact ha pins s1 σ H1 Q I1 q1
 | false=>exact hb pins s1 σ H1 Q I1 q1
end
def ag(K:Dj)(H:Hp)(a:Addr)(xs:List V):Prop:=
 Rd H a (.lst xs) ∨
  ∃(o:Obj) (its:Array Value) (n:Nat),K.lookup a=some o/\o.cls=.type "list"/\o.dict=none/\o.data=.seq its n/\its.size<=sizeLine/\Vals xs its.toList
def aj(K:Dj)(H:Hp)(a:Addr)(xs:List V):Prop:=
 Rd H a (.tup xs) ∨
  ∃(o:Obj) (its:Array Value) (n:Nat),K.lookup a=some o/\o.cls=.type "tuple"/\o.data=.seq its n/\its.size<=sizeLine/\Vals xs its.toList
def zV:Value->Option V
 | .none=>some .non
 | .bool b=>some (.bl b)
 | .int i _=>some (.int i)
 | .str x _=>some (.str x)
 | .bytes b _=>some (.byt b)
 | .float b _=>some (.flt b)
 | .ref a=>some (.ref a)
 | .type n=>some (.ty n)
 | _=>none
def RelV.abs{x:V}{u:Value}(r:RelV x u):zV u=some x:=by
 cases x with
 | non=>cases r;rfl
 | bl _=>cases r;rfl
 | int _=>obtain⟨t,rfl⟩:=r;rfl
 | str _=>obtain⟨t,rfl⟩:=r;rfl
 | byt _=>obtain⟨t,rfl⟩:=r;rfl
 | flt _=>obtain⟨t,rfl⟩:=r;rfl
 | ref _=>cases r;rfl
 | ty _=>cases r;rfl
def RelV.inj{x y:V}{u:Value}(r:RelV x u)(q:RelV y u):x=y:=DZ (r.abs.symm.trans q.abs)
def Vals.inj:∀{xs ys:List V} {us:List Value},Vals xs us->Vals ys us->xs=ys
 | _,_,_,.nil,.nil=>rfl
 | _,_,_,.cons r t,.cons r' t'=>by rw[r.inj r',Vals.inj t t']
section
variable {X:Cx} {pins:List (Addr×Obj)} {σ:St} {H:Hp} {s:Shared} {a:Addr} {xs ys:List V}
def ag.of{K:Dj}(h:H a=some (.lst xs)):ag K H a xs:=.inl (.inl h)
def aj.of{K:Dj}(h:H a=some (.tup xs)):aj K H a xs:=.inl (.inl h)
def Inv.list(I:Inv X pins σ H s)(h:ag X.K H a xs):∃its:List Value,Vals xs its/\PlainL s.heap a its.toArray/\xs.length<=sizeLine:=by
 rcases h with h|⟨o,its,n,hk,hc,hd,hs,hz,r⟩
 ·obtain⟨z,its,n,r,e⟩:=h.ok I.hok;exact⟨its,r,⟨_,n,e,rfl,rfl,rfl⟩,z⟩
 ·refine⟨its.toList,r,⟨o,n,I.kIn a o hk,hc,hd,by simpa using hs⟩,?_⟩;have e:=r.length;simp only[Dt]at e;omega
def Inv.tuple(I:Inv X pins σ H s)(h:aj X.K H a xs):∃its:List Value,Vals xs its/\IsTup s.heap a its.toArray/\xs.length<=sizeLine:=by
 rcases h with h|⟨o,its,n,hk,hc,hs,hz,r⟩
 ·obtain⟨z,its,r,p⟩:=h.ok I.hok;exact⟨its,r,p,z⟩
 ·refine⟨its.toList,r,⟨o,I.kIn a o hk,hc,n,by simpa using hs⟩,?_⟩;have e:=r.length;simp only[Dt]at e;omega
def Inv.list_inj(I:Inv X pins σ H s)(h:ag X.K H a xs)(h':ag X.K H a ys):xs=ys:=by
 obtain⟨its,r,⟨o,n,e,_,_,d⟩,_⟩:=I.list h;obtain⟨its',r',⟨o',n',e',_,_,d'⟩,_⟩:=I.list h';rw[e]at e';cases e';rw[d]at d';injection d' with d1 _;have:its=its':=by simpa using congrArg Array.toList d1
 subst this;exact r.inj r'
def Inv.tuple_inj(I:Inv X pins σ H s)(h:aj X.K H a xs)(h':aj X.K H a ys):xs=ys:=by
 obtain⟨its,r,⟨o,e,_,n,d⟩,_⟩:=I.tuple h;obtain⟨its',r',⟨o',e',_,n',d'⟩,_⟩:=I.tuple h';rw[e]at e';cases e';rw[d]at d';injection d' with d1 _;have:its=its':=by simpa using congrArg Array.toList d1
 subst this;exact r.inj r'
end
abbrev Cx.wish(X:Cx)(E:Value->Shared->Prop):Cx:={ X with xe:=E }
abbrev Cx.nox(X:Cx):Cx:=X.wish λ_ _=>False
def Cx.Ok.wish{X:Cx}(ok:X.Ok)(E:Value->Shared->Prop):(X.wish E).Ok:=
 ⟨ok.mod,ok.kind,ok.glob,ok.blt,ok.above,ok.inj,ok.has,ok.cab,ok.hd,ok.frames,ok.stk,ok.exf,ok.bs,ok.bsz,ok.noex,ok.exfs,ok.funs,ok.frf⟩
def Cx.Ok.unwish{X:Cx}{E:Value->Shared->Prop}(ok:(X.wish E).Ok):X.Ok:=
 ⟨ok.mod,ok.kind,ok.glob,ok.blt,ok.above,ok.inj,ok.has,ok.cab,ok.hd,ok.frames,ok.stk,ok.exf,ok.bs,ok.bsz,ok.noex,ok.exfs,ok.funs,ok.frf⟩
section
variable {X:Cx} {pins:List (Addr×Obj)} {σ:St} {H:Hp} {s:Shared} {E:Value->Shared->Prop}
def Inv.wish(I:Inv X pins σ H s)(E:Value->Shared->Prop):Inv (X.wish E) pins σ H s:=⟨I.ok.wish E,I.os,I.bare,I.base,I.loc,I.cell,I.free,I.freeC,I.pin,I.hok,I.len⟩
def Inv.unwish(I:Inv (X.wish E) pins σ H s):Inv X pins σ H s:=⟨I.ok.unwish,I.os,I.bare,I.base,I.loc,I.cell,I.free,I.freeC,I.pin,I.hok,I.len⟩
def SP.unwish{D:Ends}{f:Flow}{s':Shared}(h:SP (X.wish E) pins D f s'):SP X pins D f s':=by
 cases f with
 | next=>obtain⟨σ',H',I,q⟩:=h;exact⟨σ',H',I.unwish,q⟩
 | brk=>obtain⟨σ',H',I,q⟩:=h;exact⟨σ',H',I.unwish,q⟩
 | cont=>obtain⟨σ',H',I,q⟩:=h;exact⟨σ',H',I.unwish,q⟩
 | ret u=>obtain⟨v,σ',H',I,r,q⟩:=h;exact⟨v,σ',H',I.unwish,r,q⟩
def cj.nox{st:List Stmt}{t:TS}(h:cj X.nox st t):cj X st t:=λpins s σ H D I hw=>
 wpAny_mono (h pins s σ H D (I.wish _) hw) (λ_ _ q=>q.unwish) λ_ _ z=>False.elim z
end
section
variable {X:Cx} {st:Stmt} {rest:List Stmt} {t u:TS} {e:Expr} {te:TE} {pos:Pos}
def uR:TS:=λD σ H=>D.nx σ H
def wK(t u:TS):TS:=λD σ H=>t { D with nx:=u D } σ H
def aT:cj X [] uR:=λ_ _ σ H _ I h=>wpAny_execs_nil ⟨σ,H,I,h⟩
def ah(h1:PS X st t)(h2:cj X rest u):cj X (st::rest) (wK t u):=by
 intro pins s σ H D I h;refine wpAny_execs_cons (aw (h1 pins s σ H { D with nx:=u D } I h) λf s1 q=>?_);cases f with
 | next=>
  obtain⟨σ',H',I',q⟩:=q;exact h2 pins s1 σ' H' D I' q
 | ret v=>exact q
 | brk=>exact q
 | cont=>exact q
def ao(h1:PS X st t):cj X [st] t:=by
 intro pins s σ H D I h;refine wpAny_execs_cons (aw (h1 pins s σ H D I h) λf s1 q=>?_);cases f with
 | next=>exact wpAny_execs_nil q
 | ret v=>exact q
 | brk=>exact q
 | cont=>exact q
def Inv.quiet{pins:List (Addr×Obj)}{σ:St}{H:Hp}{s:Shared}(I:Inv X pins σ H s):interactive X.env=false:=by simp[interactive,I.ok.kind]
def pf(te:TE):TS:=λD σ H=>te σ H λ_ H1=>D.nx σ H1
def aX(he:PE X e te)(hs:swapsWith e none pos.line X.env=pure false:=by rfl):PS X (.Expr e pos) (pf te):=by intro pins s σ H D I h;exact wpAny_Expr_any (aw (he pins s σ H _ I h) λv s1 ⟨x,H1,I1,r1,q1⟩=>⟨σ,H1,I1,q1⟩) I.quiet hs
def pz(te:TE):TS:=λD σ H=>te σ H D.rt
def aB(he:PE X e te):PS X (.Return (some e) pos) (pz te):=by intro pins s σ H D I h;exact wpAny_Return_some (aw (he pins s σ H _ I h) λv s1 ⟨x,H1,I1,r1,q1⟩=>⟨x,σ,H1,I1,r1,q1⟩)
def sF(c:TT)(t u:TS):TS:=λD σ H=>c σ H λb H1=>if b=true then t D σ H1 else u D σ H1
def bq{c:Expr}{a b:List Stmt}{tc:TT}(hc:PT X c tc)(ha:cj X a t)(hb:cj X b u):PS X (.If c a b pos) (sF tc t u):=by
 intro pins s σ H D I h;refine wpAny_If (aw (hc pins s σ H _ I h) λd s1 ⟨H1,I1,q1⟩=>?_);cases d with
 | true=>exact ha pins s1 σ H1 D I1 q1
 | false=>exact hb pins s1 σ H1 D I1 q1
def xx:TS:=λ_ _ _=>False
def fh:PS X st xx:=λ_ _ _ _ _ _ h=>h.elim
end
abbrev TG:=V->St->Hp->(St->Hp->Prop)->Prop
abbrev df:=List V->St->Hp->(St->Hp->Prop)->Prop
def PG(X:Cx)(target:Expr)(t:TG):Prop:=
 ∀(pins:List (Addr×Obj)) (s:Shared) (σ:St) (H:Hp) (v:V) (u:Value) (Q:St->Hp->Prop),Inv X pins σ H s->RelV v u->t v σ H Q →
  wpAny (model X.prog X.w) X.A (assign target X.env u) (λ_ s'=>∃σ' H',Inv X pins σ' H' s'/\Q σ' H') X.xe s
def hJ(X:Cx)(ts:List Expr)(t:df):Prop:=
 ∀(pins:List (Addr×Obj)) (s:Shared) (σ:St) (H:Hp) (vs:List V) (us:List Value) (Q:St->Hp->Prop),Inv X pins σ H s->Vals vs us->t vs σ H Q →
  wpAny (model X.prog X.w) X.A (assignInOrder ((assignEach ts X.env).map (·.2)) us) (λ_ s'=>∃σ' H',Inv X pins σ' H' s'/\Q σ' H') X.xe s
abbrev jj:=V->V->V->Hp->(Hp->Prop)->Prop
def tM(X:Cx)(t:jj):Prop:=
 ∀(pins:List (Addr×Obj)) (s:Shared) (σ:St) (H:Hp) (o i v:V) (ov iv u:Value) (Q:Hp->Prop),Inv X pins σ H s->RelV o ov->RelV i iv->RelV v u->t o i v H Q →
  wpAny (model X.prog X.w) X.A (setItem ov iv u) (λ_ s'=>∃H',Inv X pins σ H' s'/\Q H') X.xe s
abbrev iI:=V->V->Hp->VK->Prop
def kH(X:Cx)(op:Operator)(t:iI):Prop:=
 ∀(pins:List (Addr×Obj)) (s:Shared) (σ:St) (H:Hp) (x y:V) (v u:Value) (Q:VK),Inv X pins σ H s->RelV x v->RelV y u->t x y H Q →
  wpAny (model X.prog X.w) X.A (inplaceOp op v u) (EP X pins σ Q) X.xe s
section
variable {X:Cx} {pos:Pos}
def iY(i:Nat):TG:=λv σ H Q=>Q (σ.set i (some v)) H
def aN{i:Nat}{x:Str}(hN:X.N.Nodup)(hi:X.N[i]?=some x)(hx:Loc X.env.scope x)(hf:X.fn x=true\/X.env.scope.names.lookup x=some .local:=by first|exact .inl rfl|exact .inr rfl|assumption):PG X (.Name x pos) (iY i):=by intro pins s σ H v u Q I r h;exact wpAny_assign_Name (iJ I hN hi hx r (λs' I'=>⟨_,H,I',h⟩) hf)
def qk:df:=λvs σ H Q=>vs=[]/\Q σ H
def vL(t:TG)(u:df):df:=λvs σ H Q=>∃v r,vs=v::r/\t v σ H λσ' H'=>u r σ' H' Q
def fS:hJ X [] qk:=by intro pins s σ H vs us Q I r h;obtain⟨e,h⟩:=h;subst e;cases r;exact assignInOrder_nil ⟨σ,H,I,h⟩
def bX{e:Expr}{es:List Expr}{t:TG}{u:df}(h1:PG X e t)(h2:hJ X es u)
  (hs:(assignEach (e::es) X.env).map (·.2)=assign e X.env::(assignEach es X.env).map (·.2):=by rfl):hJ X (e::es) (vL t u):=by
 intro pins s σ H vs us Q I r h;obtain⟨v,vr,e1,h⟩:=h;subst e1;cases r with
 | cons r rr=>
  rw[hs];refine assignInOrder_cons (aw (h1 pins s σ H _ _ _ I r h) λ_ s1 ⟨σ1,H1,I1,q1⟩=>?_);exact h2 pins s1 σ1 H1 _ _ Q I1 rr q1
def oa(K:Dj)(n:Nat)(t:df):TG:=λv σ H Q=>∃a xs,v=.ref a/\aj K H a xs/\xs.length=n/\t xs σ H Q
def Bn{es:List Expr}{k:Nat}{t:df}{n:Nat}(hc:X.calm=true)(h:hJ X es t)
  (hn:(assignEach es X.env).length=n:=by rfl) (hst:(assignEach es X.env).findIdx? (·.1)=none:=by rfl):PG X (.Tuple es k pos) (oa X.K n t):=by
 intro pins s σ H v u Q I r hw;obtain⟨a,xs,e1,hq,hl,hw⟩:=hw;subst e1;cases r;obtain⟨its,rv,ht,hz⟩:=I.tuple hq;refine assign_Tuple_tuple (I.ok.hd hc) ht (by simp[hn,←hl,rv.length]) hst λh' hx=>?_;have I1:Inv X pins σ H { s with heap:=h' }:=I.kept (t':=s.toks) λb o e=>hx b o (DH (Dm e)) e;exact h pins _ σ H xs _ Q I1 (by simpa using rv) hw
def sX(to ti:TE)(t:jj):TG:=λv σ H Q=>to σ H λo H1=>ti σ H1 λi H2=>t o i v H2 λH3=>Q σ H3
def fV{o i:Expr}{to ti:TE}{t:jj}(ho:PE X o to)(hi:PE X i ti)(hs:tM X t)
  (ha:∀v,assign (.Subscript o i pos) X.env v=(do
   let ov ←holding [v] (eval o X.env);let iv ←holding [v,ov] (eval i X.env)
   standAt pos
   holding [v,ov,iv] (setItem ov iv v)
   release [v,ov,iv] []):=by intro _;rfl):PG X (.Subscript o i pos) (sX to ti t):=by
 intro pins s σ H v u Q I r h;rw[ha];refine Dh (wpAny_holding (aw (ho pins s σ H _ I h) λov s1 ⟨x,H1,I1,r1,q1⟩=>?_));refine Dh (wpAny_holding (aw (hi pins s1 σ H1 _ I1 q1) λiv s2 ⟨y,H2,I2,r2,q2⟩=>?_));refine Dh (wpAny_standAt (Dh (wpAny_holding (aw (hs pins s2 σ H2 x y v ov iv u _ I2 r1 r2 r q2) λ_ s3 ⟨H3,I3,q3⟩=>?_))));exact wpAny_release ⟨σ,H3,I3,q3⟩
def jQ(te:TE)(g:TG):TS:=λD σ H=>te σ H λx H1=>g x σ H1 D.nx
def eQ{tg e:Expr}{te:TE}{g:TG}(he:PE X e te)(hg:PG X tg g)(hs:swapsWithSole [tg] e pos.line X.env=pure false:=by rfl)(hw:swappedStores [tg] e X.env=pure none:=by rfl)
  (h1:(assignEach [tg] X.env).map (·.2)=[assign tg X.env]:=by rfl):PS X (.Assign [tg] e pos) (jQ te g):=by
 intro pins s σ H D I h;refine wpAny_Assign_stores (aw (he pins s σ H _ I h) λv s1 ⟨x,H1,I1,r1,q1⟩=>?_) hs hw;rw[h1];exact aw (hg pins s1 σ H1 x v _ I1 r1 q1) λ_ s2 q=>q
def aA{i:Nat}{x:Str}{e:Expr}{te:TE}{pos':Pos}(hN:X.N.Nodup)(hi:X.N[i]?=some x)(hx:Loc X.env.scope x)(he:PE X e te)(hs:swapsWith e (some (.Name x pos')) pos.line X.env=pure false:=by rfl)(hf:X.fn x=true\/X.env.scope.names.lookup x=some .local:=by first|exact .inl rfl|exact .inr rfl|assumption):
  PS X (.Assign [.Name x pos'] e pos) (jQ te (iY i)):=by
 intro pins s σ H D I h;refine wpAny_Assign_Name (aw (he pins s σ H _ I h) λv s1 ⟨y,H1,I1,r1,q1⟩=>?_) hs;exact iJ I1 hN hi hx r1 (λs2 I2=>⟨_,H1,I2,q1⟩) hf
def pX(i j:Nat)(ta:TA):TS:=λD σ H=>ta σ H λvs H1=>∃v w,vs=[v,w]/\D.nx ((σ.set i (some v)).set j (some w)) H1
def pV{i j:Nat}{x y:Str}{a b:Expr}{ta:TA}{px py pt:Pos}{kt k2 pt2}(hc:X.calm=true)(hN:X.N.Nodup)(hi:X.N[i]?=some x)(hj:X.N[j]?=some y)(hij:i≠j)
  (hx:X.env.scope.names.lookup x=some .local) (hy:X.env.scope.names.lookup y=some .local) (ha:PA X [a,b] ta)
  (hw:swappedStores [.Tuple [.Name x px,.Name y py] kt pt] (.Tuple [a,b] k2 pt2) X.env=pure (some [x,y]))
  (hs:swapsWithSole [.Tuple [.Name x px,.Name y py] kt pt] (.Tuple [a,b] k2 pt2) pos.line X.env=pure false:=by rfl) :
  PS X (.Assign [.Tuple [.Name x px,.Name y py] kt pt] (.Tuple [a,b] k2 pt2) pos) (pX i j ta):=by
 intro pins s σ H D I h;rw[exec_Assign_arm];refine Dh (wpAny_standAt ?_);rw[hs];refine Dh (Di ?_);rw[En (by decide)];refine Dh (Tuple_ (aw (ha _ pins s σ H _ I h) λus s1 ⟨vs,H1,I1,r1,q1⟩=>?_));obtain⟨v,w,e1,q1⟩:=q1;subst e1;obtain⟨u1,u2,rfl,rv,rw'⟩:∃u1 u2,us=[u1,u2]/\RelV v u1/\RelV w u2:=by
  cases r1 with
  | cons p q=>
   cases q with
   | cons p' q'=>
    cases q';exact⟨_,_,rfl,p,p'⟩
 refine wpAny_newObj_type ?_ (by show 2<=sizeLine;decide);have I2:Inv X pins σ H1 { s1 with heap:=s1.heap.push { cls:=.type "tuple",data:=.seq [u1,u2].toArray } }:=I1.kept (t':=s1.toks) λb o e=>Dk _ e;rw[hw];refine Dh (Di ?_);show wpAny (model X.prog X.w) X.A (do rule "assign.swapped-stores";let items ←unpackItems (.ref s1.heap.objs.size) 2 none;assignInOrder [λv=>bindName X.env y v,λv=>bindName X.env x v] items.reverse;pure Flow.next) _ _ _;refine Dh (wpAny_rule (Dh (unpackItems_tuple (items:=#[u1,u2]) (I.ok.hd hc) (IsTup.new s1.heap _) λh' hx'=>?_)));have I3:=I2.kept (h':=h') (t':=s1.toks) λb o e=>hx' b o (DH (Dm e)) e;show wpAny _ _ (assignInOrder [λv=>bindName X.env y v,λv=>bindName X.env x v] [u2,u1] >>= λ_=>pure Flow.next) _ _ _;refine Dh (assignInOrder_cons (wpAny_bindName (iJ I3 hN hj (.inl hy) rw' (λs2 I4=>?_) (.inr hy))));refine assignInOrder_cons (wpAny_bindName (iJ I4 hN hi (.inl hx) rv (λs3 I5=>assignInOrder_nil (Di ?_)) (.inr hx)));rw[List.set_comm _ _ (Ne.symm hij)]at I5;exact⟨_,H1,I5,q1⟩
def uQ(i:Nat)(te:TE)(ti:iI):TS:=λD σ H=>∃x,σ[i]?=some (some x)/\te σ H λy H1=>ti x y H1 λz H2=>D.nx (σ.set i (some z)) H2
def kO{i:Nat}{x:Str}{e:Expr}{te:TE}{op:Operator}{ti:iI}{pos':Pos}(hN:X.N.Nodup)(hi:X.N[i]?=some x)(hx:Loc X.env.scope x)(he:PE X e te)(ho:kH X op ti)(hf:X.fn x=true\/X.env.scope.names.lookup x=some .local:=by first|exact .inl rfl|exact .inr rfl|assumption):
  PS X (.AugAssign (.Name x pos') op e pos) (uQ i te ti):=by
 intro pins s σ H D I h;obtain⟨v,e1,h⟩:=h;obtain⟨m,hn,hl⟩:=I.loc;have vis:jM X.env.scope x:=by rcases hx with k|k;exact .inl k;exact .inr (.inl k)
 obtain⟨u,r,l⟩:=hl i x v hi e1 vis;refine wpAny_AugAssign_Name ?_;have go:wpAny (model X.prog X.w) X.A (eval e X.env) (λw s₂=>wpAny (model X.prog X.w) X.A (inplaceOp op u w) (λr s₃=>wpAny (model X.prog X.w) X.A (storeName X.env x r) (λ_=>SP X pins D .next) X.xe s₃) X.xe s₂) X.xe s:=by refine aw (he pins s σ H _ I h) λw s1 ⟨y,H1,I1,r1,q1⟩=>?_;refine aw (ho pins s1 σ H1 v y u w _ I1 r r1 q1) λz s2 ⟨zv,H2,I2,r2,q2⟩=>?_;exact iJ I2 hN hi hx r2 (λs3 I3=>⟨_,H2,I3,q2⟩) hf
 rcases l with⟨hk,hm⟩|⟨hk,c,hc,hcell⟩
 ·exact wpAny_loadName_local I.ok.kind hk hn hm go
 ·rcases hk with hk|hk
  ·exact wpAny_loadName_cell I.ok.kind hk hc hcell go
  ·rcases hx with k|k
   ·have:X.env.scope.names.lookup x=some .free:=hk;rw[k]at this;cases this
   ·have:X.env.scope.names.lookup x=some .free:=hk;rw[k]at this;cases this
def nN(f:Int->Int->Int):iI:=λx y H Q=>∃i j,x=.int i/\y=.int j/\Q (.int (f i j)) H
def uE:kH X .Add (nN λi j=>i+j):=by intro pins s σ H x y v u Q I r1 r2 h;obtain⟨i,j,e1,e2,q⟩:=h;subst e1;subst e2;obtain⟨t,rfl⟩:=r1;obtain⟨t',rfl⟩:=r2;exact iadd_int ⟨.int _,H,I.tok _,⟨_,rfl⟩,q⟩
def CH:kH X .Sub (nN λi j=>i-j):=by intro pins s σ H x y v u Q I r1 r2 h;obtain⟨i,j,e1,e2,q⟩:=h;subst e1;subst e2;obtain⟨t,rfl⟩:=r1;obtain⟨t',rfl⟩:=r2;exact isub_int ⟨.int _,H,I.tok _,⟨_,rfl⟩,q⟩
def yq(c:TT)(tb:TS):TS:=λD σ H=>∃W:Nat->St->Hp->Prop,(∃m,W m σ H)/\∀m σ H,W m σ H →
 c σ H λb H1=>if b=true then ∃N:St->Hp->Prop,(∀σ' H',N σ' H'->∃m',m'<m/\W m' σ' H')/\tb { D with nx:=N,ct:=N,bk:=D.nx } σ H1 else D.nx σ H1
def BZ{c:Expr}{body:List Stmt}{tc:TT}{tb:TS}(hp:PassesOwn (model X.prog X.w) X.A X.env X.xe)(hc:PT X c tc)(hb:cj X body tb):PS X (.While c body [] pos) (yq tc tb):=by
 intro pins s σ H D I h;obtain⟨W,⟨m0,w0⟩,turn⟩:=h;refine wpAny_While (codeAny_whileLoop (λn s'=>∃σ' H',Inv X pins σ' H' s'/\W n σ' H') ?_ m0 ⟨σ,H,I,w0⟩);rintro n s1 ⟨σ1,H1,I1,w1⟩;refine wpAny_passesOwn hp (aw (hc pins s1 σ1 H1 _ I1 (turn n σ1 H1 w1)) λb s2 ⟨H2,I2,q2⟩=>?_);cases b with
 | true=>
  obtain⟨N,hN,q2⟩:=q2;rw[Eo rfl];refine wpAny_passesOwn hp (aw (hb pins s2 σ1 H2 _ I2 q2) λf s3 q3=>?_);cases f with
  | next=>
   obtain⟨σ3,H3,I3,n3⟩:=q3;obtain⟨m',hm,w3⟩:=hN σ3 H3 n3;exact⟨m',hm,σ3,H3,I3,w3⟩
  | cont=>
   obtain⟨σ3,H3,I3,n3⟩:=q3;obtain⟨m',hm,w3⟩:=hN σ3 H3 n3;exact⟨m',hm,σ3,H3,I3,w3⟩
  | brk=>exact q3
  | ret v=>exact q3
 | false=>
  rw[En DE];exact wpAny_execs_nil ⟨σ1,H2,I2,q2⟩
end
structure It where
 go:Nat->Hp->Prop
 yld:Nat->Hp->V->Hp->Prop
 stop:Nat->Hp->Prop
def bW(X:Cx)(pins:List (Addr×Obj))(H:Hp)(b:Addr):Prop:=
 H b=none/\b≠X.env.locals/\b∉X.fs/\(b∈X.ex\/X.s₀.heap.objs.size<=b)/\(∀x c,X.env.cells.lookup x=some c->c≠b)/\∀p∈X.pn++pins,p.1≠b
def Inv.fpOk{X:Cx}{pins:List (Addr×Obj)}{σ:St}{H H':Hp}{s:Shared}{b:Addr}(I:Inv X pins σ H s)(hb:s.heap.objs.size<=b)(hn:H' b=none):bW X pins H' b:=by
 refine⟨hn,Nat.ne_of_gt (DR I.lt hb),I.nofs hb,.inr (DS I.sz hb),λx c e z=>?_,λp hp z=>?_⟩
 ·obtain⟨v,q⟩:=I.cell x c e;exact absurd (DR q.lt (by rw[z];exact hb)) (Nat.lt_irrefl _)
 ·exact absurd (DR (Dm (I.pin p hp).1) (by rw[z];exact hb)) (Nat.lt_irrefl _)
structure Turn(P:Program)(w:World)(K:Dj)(tg:Expr)(J:It)(fp:List Addr)(it:Addr)(tn:Nat->Heap->Prop):Prop where
 mem:it∈fp
 obj:∀i h,tn i h->∀b∈fp,∃o,h.get? b=some o/\∀v,o.data≠.cell v
 keep:∀i h h',tn i h->(∀b∈fp,∀o,h.get? b=some o->h'.get? b=some o)->tn i h'
 item:∀(X:Cx),X.prog=P->X.w=w->X.K=K->X.calm=true->∀(i:Nat) (pins:List (Addr×Obj)) (s:Shared) (σ:St) (H:Hp) (E:Value->Shared->Prop),Inv X pins σ H s->(∀b∈fp,bW X pins H b)->tn i s.heap->J.go i H →
  wpAny (model P w) X.A (pyNext (.ref it)) (λr s1=>∃u,r=some u ∧
   wpAny (model P w) X.A (letOwnedTupleGo tg (.ref it) u) (λ_ s2=>∃x H',Inv X pins σ H' s2/\RelV x u/\J.yld i H x H'/\tn (i+1) s2.heap/\∀b∈fp,H' b=none) E s1) E s
 done:∀(X:Cx),X.prog=P->X.w=w->X.K=K->X.calm=true->∀(i:Nat) (pins:List (Addr×Obj)) (s:Shared) (σ:St) (H:Hp) (E:Value->Shared->Prop),Inv X pins σ H s->(∀b∈fp,bW X pins H b)->tn i s.heap->J.stop i H →
  wpAny (model P w) X.A (pyNext (.ref it)) (λr s1=>r=none/\Inv X pins σ H s1) E s
 self:∀(A:Around) (i:Nat) (s:Shared) (Q:Value->Shared->Prop) (E:Value->Shared->Prop),tn i s.heap->Q (.ref it) s->wpAny (model P w) A (pyIter (.ref it)) Q E s
abbrev TI:=St->Hp->(It->Hp->Prop)->Prop
def mV(X:Cx)(pins:List (Addr×Obj))(σ:St)(tg:Expr)(R:It->Hp->Prop)(itv:Value)(s2:Shared):Prop:=
 ∃(it:Addr) (fp:List Addr) (tn:Nat->Heap->Prop) (J:It) (H':Hp),itv=.ref it/\Inv X pins σ H' s2/\Turn X.prog X.w X.K tg J fp it tn/\tn 0 s2.heap/\(∀b∈fp,bW X pins H' b)/\R J H'
def PI(X:Cx)(tg iter:Expr)(wi:TI):Prop:=
 ∀(pins:List (Addr×Obj)) (s:Shared) (σ:St) (H:Hp) (R:It->Hp->Prop),Inv X pins σ H s->wi σ H R →
  wpAny (model X.prog X.w) X.A (eval iter X.env) (λv s1=>wpAny (model X.prog X.w) X.A (pyIter v) (mV X pins σ tg R) X.xe s1) X.xe s
def jw {M : Model} {A : Around} {E : Value → Shared → Prop} {s : Shared} {tg : Expr} {it : Addr} {u : Value} {o : Obj} {n : String} {vs : Array Value} {Q : Unit → Shared → Prop} (ho : s.heap.get? it = some o) (hc : o.cls = .type n) (hd : o.data = .fields vs)
    (hn : ["enumerate", "zip", "dict_itemiterator", "dict_reverseitemiterator", "odict_iterator", "itertools.zip_longest", "itertools.pairwise"].contains n = false) (hQ : Q () s) : wpAny M A (letOwnedTupleGo tg (.ref it) u) Q E s := by
  unfold letOwnedTupleGo;cases tg <;> first
    | exact Di hQ
    | (cases u <;> first
        | exact Di hQ
        | (refine Dh (wpAny_load ho ?_)
           rw [hc, hd];show wpAny M A (if (["enumerate", "zip", "dict_itemiterator", "dict_reverseitemiterator", "odict_iterator", "itertools.zip_longest", "itertools.pairwise"].contains n && vs[0]? == some (rawInt _)) = true then _ else _) Q E s;rw [En (by intro h; rw [hn, Bool.false_and] at h; cases h)];exact Di hQ))
def cF(K:Dj)(a:Addr):It:=
 ⟨λi H=>∃xs x,ag K H a xs/\xs[i]?=some x,λi H x H'=>H'=H/\∀xs,ag K H a xs->xs[i]?=some x,λi H=>∃xs,ag K H a xs/\xs.length<=i⟩
def cS(K:Dj)(a:Addr):It:=
 ⟨λi H=>∃xs x,aj K H a xs/\xs[i]?=some x,λi H x H'=>H'=H/\∀xs,aj K H a xs->xs[i]?=some x,λi H=>∃xs,aj K H a xs/\xs.length<=i⟩
def de(lo:Int)(n:Nat):It:=⟨λi _=>i<n,λi H x H'=>H'=H/\x=.int (lo+i),λi _=>n<=i⟩
def A6{P:Program}{w:World}{K:Dj}{tg:Expr}(a it:Addr):Turn P w K tg (cF K a) [it] it (λi h=>h.IsListIter it a i) where
 mem:=by simp
 obj:=λi h st b hb=>by
  have e:b=it:=by simpa using hb
  subst e;obtain⟨o,e,c,d⟩:=st;exact⟨o,e,λv z=>by rw[d]at z;cases z⟩
 keep:=λi h h' st k=>st.at λo e=>k it (by simp) o e
 item:=by intro X hP hw hK hc i pins s σ H E I hf st hg;subst hP hw hK;obtain⟨xs,x,hq,hx⟩:=hg;obtain⟨its,rv,p,hz⟩:=I.list hq;obtain⟨u,hu,ru⟩:=rv.get hx;obtain⟨f0,f1,f2,f3,f4,f5⟩:=hf it (by simp);refine wpAny_pyNext_list_item st p.isList (x:=u) (by simpa using hu) λh' st' sb=>?_;have I1:Inv X pins σ H { s with heap:=h' }:=I.turned (t':=s.toks) (λb o hb e=>(sb.2 b hb).trans e) f0 f1 f3 f4 f5;obtain⟨o,e,c,d⟩:=id st';exact⟨u,rfl,jw (s:={ s with heap:=h' }) e c d (by decide) ⟨x,H,I1,ru,⟨rfl,λys hy=>by rw[I.list_inj hy hq];exact hx⟩,st',λb hb=>(hf b hb).1⟩⟩
 done:=by intro X hP hw hK hc i pins s σ H E I hf st hg;subst hP hw hK;obtain⟨xs,hq,hx⟩:=hg;obtain⟨its,rv,p,hz⟩:=I.list hq;obtain⟨f0,f1,f2,f3,f4,f5⟩:=hf it (by simp);have hl:=rv.length;exact wpAny_pyNext_list_end (I.ok.hd hc) st p.isList (by simp;omega) λh' eb=>⟨rfl,I.turned (t':=s.toks) (λb o hb e=>eb b o hb e) f0 f1 f3 f4 f5⟩
 self:=λ_ _ _ _ _ st h=>wpAny_pyIter_listiter st h
def BP{P:Program}{w:World}{K:Dj}{tg:Expr}(a it:Addr):Turn P w K tg (cS K a) [it] it (λi h=>h.IsTupleIter it a i) where
 mem:=by simp
 obj:=λi h st b hb=>by
  have e:b=it:=by simpa using hb
  subst e;obtain⟨o,e,c,d⟩:=st;exact⟨o,e,λv z=>by rw[d]at z;cases z⟩
 keep:=λi h h' st k=>st.at λo e=>k it (by simp) o e
 item:=by intro X hP hw hK hc i pins s σ H E I hf st hg;subst hP hw hK;obtain⟨xs,x,hq,hx⟩:=hg;obtain⟨its,rv,p,hz⟩:=I.tuple hq;obtain⟨u,hu,ru⟩:=rv.get hx;obtain⟨f0,f1,f2,f3,f4,f5⟩:=hf it (by simp);refine wpAny_pyNext_tuple_item st (show s.heap.IsTuple a its.toArray from p) (x:=u) (by simpa using hu) λh' st' sb=>?_;have I1:Inv X pins σ H { s with heap:=h' }:=I.turned (t':=s.toks) (λb o hb e=>(sb.2 b hb).trans e) f0 f1 f3 f4 f5;obtain⟨o,e,c,d⟩:=id st';exact⟨u,rfl,jw (s:={ s with heap:=h' }) e c d (by decide) ⟨x,H,I1,ru,⟨rfl,λys hy=>by rw[I.tuple_inj hy hq];exact hx⟩,st',λb hb=>(hf b hb).1⟩⟩
 done:=by intro X hP hw hK hc i pins s σ H E I hf st hg;subst hP hw hK;obtain⟨xs,hq,hx⟩:=hg;obtain⟨its,rv,p,hz⟩:=I.tuple hq;obtain⟨f0,f1,f2,f3,f4,f5⟩:=hf it (by simp);have hl:=rv.length;exact wpAny_pyNext_tuple_end (I.ok.hd hc) st (show s.heap.IsTuple a its.toArray from p) (by simp;omega) λh' eb=>⟨rfl,I.turned (t':=s.toks) (λb o hb e=>eb b o hb e) f0 f1 f3 f4 f5⟩
 self:=λ_ _ _ _ _ st h=>wpAny_pyIter_tupleiter st h
def B7{P:Program}{w:World}{K:Dj}{tg:Expr}(it:Addr)(lo:Int)(n:Nat):Turn P w K tg (de lo n) [it] it (λi h=>IsRangeIter h it (lo+(i:Nat)*1) ((n:Int)-(i:Nat)) 1) where
 mem:=by simp
 obj:=λi h st b hb=>by
  have e:b=it:=by simpa using hb
  subst e;exact⟨_,st,λv z=>by have z':Data.fields _=Data.cell v:=z;cases z'⟩
 keep:=λi h h' st k=>k it (by simp) _ st
 item:=by intro X hP hw hK hc i pins s σ H E I hf st hg;subst hP hw hK;obtain⟨f0,f1,f2,f3,f4,f5⟩:=hf it (by simp);have W:=Walks.range (prog:=X.prog) (w:=X.w) (I.ok.hd hc) it lo 1 n;refine W.item i s _ _ hg st λv h' tk hv st' kk=>?_;obtain⟨t,rfl⟩:=hv;have I1:Inv X pins σ H { s with heap:=h',toks:=tk }:=I.turned (λb o hb e=>kk b o (by simpa using hb) e) f0 f1 f3 f4 f5;refine⟨_,rfl,jw (s:={ s with heap:=h',toks:=tk }) (n:="range_iterator") st' rfl rfl (by decide) ⟨.int (lo+i),H,I1,⟨t,?_⟩,⟨rfl,rfl⟩,st',λb hb=>(hf b hb).1⟩⟩;rw[Int.mul_one]
 done:=by intro X hP hw hK hc i pins s σ H E I hf st hg;subst hP hw hK;obtain⟨f0,f1,f2,f3,f4,f5⟩:=hf it (by simp);exact wpAny_pyNext_range_end (I.ok.hd hc) st (by have:n<=i:=hg;omega) λh' eb=>⟨rfl,I.turned (t':=s.toks) (λb o hb e=>eb b o hb e) f0 f1 f3 f4 f5⟩
 self:=λ_ _ _ _ _ st h=>wpAny_pyIter_rangeiter st h
section
variable {X:Cx} {tg:Expr}
def lr(K:Dj)(tl:TE):TI:=λσ H R=>tl σ H λx H1=>∃a,x=.ref a/\(∃xs,ag K H1 a xs)/\R (cF K a) H1
def oM(K:Dj)(tl:TE):TI:=λσ H R=>tl σ H λx H1=>∃a,x=.ref a/\(∃xs,aj K H1 a xs)/\R (cS K a) H1
def yi{l:Expr}{tl:TE}(hl:PE X l tl):PI X tg l (lr X.K tl):=by
 intro pins s σ H R I h;refine aw (hl pins s σ H _ I h) λv s1 ⟨x,H1,I1,r1,q1⟩=>?_;obtain⟨a,e,⟨xs,hq⟩,q⟩:=q1;subst e;cases r1;obtain⟨its,rv,p,hz⟩:=I1.list hq;refine wpAny_pyIter_list p.isList ?_;refine⟨s1.heap.objs.size,[s1.heap.objs.size],_,_,H1,rfl,I1.kept (t':=s1.toks) λb o e=>Dk _ e,A6 a _,⟨_,Dl _ rfl,rfl,rfl⟩,λb hb=>?_,q⟩;have e:b=s1.heap.objs.size:=by simpa using hb
 subst e;exact I1.fpOk (DI _) (I1.hok.fresh (DI _))
def Ae{l:Expr}{tl:TE}(hl:PE X l tl):PI X tg l (oM X.K tl):=by
 intro pins s σ H R I h;refine aw (hl pins s σ H _ I h) λv s1 ⟨x,H1,I1,r1,q1⟩=>?_;obtain⟨a,e,⟨xs,hq⟩,q⟩:=q1;subst e;cases r1;obtain⟨its,rv,p,hz⟩:=I1.tuple hq;refine wpAny_pyIter_tuple (show s1.heap.IsTuple a its.toArray from p) ?_;refine⟨s1.heap.objs.size,[s1.heap.objs.size],_,_,H1,rfl,I1.kept (t':=s1.toks) λb o e=>Dk _ e,BP a _,⟨_,Dl _ rfl,rfl,rfl⟩,λb hb=>?_,q⟩;have e:b=s1.heap.objs.size:=by simpa using hb
 subst e;exact I1.fpOk (DI _) (I1.hok.fresh (DI _))
def ub{pins:List (Addr×Obj)}{σ:St}{H:Hp}{s:Shared}{R:It->Hp->Prop}{E:Value->Shared->Prop}{lo hi:Int}{t u v:Tok}{tk:Nat}(I:Inv X pins σ H s)(h1:-(2 ^ 62)<=lo)(h2:lo<2 ^ 62)(h3:-(2 ^ 62)<=hi)(h4:hi<2 ^ 62)
  (q:R (de lo (hi-lo).toNat) H):wpAny (model X.prog X.w) X.A (pyIter (.ref s.heap.objs.size)) (mV X pins σ tg R) E { s with heap:=s.heap.push { cls:=.type "range",data:=.fields #[.int lo t,.int hi u,.int 1 v] },toks:=tk }:=by
 refine wpAny_pyIter_range (IsRange.new ..) (small_one h1 h2 h3 h4) ?_;have I1:Inv X pins σ H { s with heap:=s.heap.push { cls:=.type "range",data:=.fields #[.int lo t,.int hi u,.int 1 v] },toks:=tk }:=I.kept λb o e=>Dk _ e;refine⟨(s.heap.push { cls:=.type "range",data:=.fields #[.int lo t,.int hi u,.int 1 v] }).objs.size,[(s.heap.push { cls:=.type "range",data:=.fields #[.int lo t,.int hi u,.int 1 v] }).objs.size],_,_,H,rfl,
  I1.kept (t':=tk) λb o e=>Dk _ e,B7 _ lo (hi-lo).toNat,?_,λb hb=>?_,q⟩
 ·have e1:lo+((0:Nat):Int)*1=lo:=by simp
  have e2:(((hi-lo).toNat:Nat):Int)-((0:Nat):Int)=Builtin.Range.rangeSize lo hi 1:=by rw[rangeSize_one];split<;>omega
  show IsRangeIter _ _ (lo+((0:Nat):Int)*1) ((((hi-lo).toNat:Nat):Int)-((0:Nat):Int)) 1;rw[e1,e2];exact Dl _ rfl
 ·have e:b=(s.heap.push { cls:=.type "range",data:=.fields #[.int lo t,.int hi u,.int 1 v] }).objs.size:=by simpa using hb
  subst e;exact I1.fpOk (DI _) (I1.hok.fresh (DI _))
def qy(ta:TA):TI:=λσ H R=>ta σ H λvs H1=>∃j:Int,vs=[.int j]/\-(2 ^ 62)<=j/\j<2 ^ 62/\R (de 0 j.toNat) H1
def vP(ta:TA):TI:=λσ H R=>ta σ H λvs H1=>∃i j:Int,vs=[.int i,.int j]/\(-(2 ^ 62)<=i/\i<2 ^ 62/\-(2 ^ 62)<=j/\j<2 ^ 62)/\R (de i (j-i).toNat) H1
def cx{a:Expr}{ta:TA}{p pos:Pos}(hg:Gl X "range")(hm:X.mg "range" = none)(ha:PA X [a] ta)(hs:starEach [a] X.env=[(false,eval a X.env)]:=by rfl):PI X tg (.Call (.Name "range" p) [a] [] pos) (qy ta):=by
 intro pins s σ H R I h;refine Call_ (f9 I hg hm boot_range (PyProof.Rows.callWith_type1 (aw (ha pos pins s σ H _ I h) λus s1 ⟨vs,H1,I1,r1,q1⟩=>?_) hs rfl));obtain⟨j,e,q1,q2,q⟩:=q1;subst e;cases r1 with
 | cons r rr=>
  cases rr;obtain⟨t,rfl⟩:=r;exact call_range_1 (ub I1 (by omega) (by omega) q1 q2 (by simpa using q))
def xV{a b:Expr}{ta:TA}{p pos:Pos}(hg:Gl X "range")(hm:X.mg "range" = none)(ha:PA X [a,b] ta)(hs:starEach [a,b] X.env=[(false,eval a X.env),(false,eval b X.env)]:=by rfl)(hs2:starEach [b] X.env=[(false,eval b X.env)]:=by rfl):
  PI X tg (.Call (.Name "range" p) [a,b] [] pos) (vP ta):=by
 intro pins s σ H R I h;refine Call_ (f9 I hg hm boot_range (PyProof.Rows.callWith_type1 (aw (ha pos pins s σ H _ I h) λus s1 ⟨vs,H1,I1,r1,q1⟩=>?_) (by rw[hs,hs2]) (by rw[hs2];rfl)));obtain⟨i,j,e,⟨q1,q2,q3,q4⟩,q⟩:=q1;subst e;cases r1 with
 | cons r rr=>
  cases rr with
  | cons r' rr=>
   cases rr;obtain⟨t,rfl⟩:=r;obtain⟨t',rfl⟩:=r';exact call_range_2 (ub I1 q1 q2 q3 q4 q)
def s9(wi:TI)(g:TG)(tb:TS):TS:=λD σ H=>wi σ H λJ H1=>∃W:Nat->Nat->St->Hp->Prop,(∃m,W 0 m σ H1)/\∀i m σ H,W i m σ H →
 (J.stop i H/\D.nx σ H)\/(J.go i H/\∃N:St->Hp->Prop,(∀σ' H',N σ' H'->∃m',m'<m/\W (i+1) m' σ' H')/\∀x H',J.yld i H x H'->g x σ H' λσ2 H2=>tb { D with nx:=N,ct:=N,bk:=D.nx } σ2 H2)
def fE(fp:List Addr)(h:Heap):List (Addr×Obj):=fp.filterMap λb=>(h.get? b).map λo=>(b,o)
def lQ{fp:List Addr}{h:Heap}{b:Addr}{o:Obj}(hb:b∈fp)(e:h.get? b=some o):(b,o)∈fE fp h:=List.mem_filterMap.mpr ⟨b,hb,by rw[e];rfl⟩
def qF{fp:List Addr}{h:Heap}{p:Addr×Obj}(hp:p∈fE fp h):p.1∈fp/\h.get? p.1=some p.2:=by
 obtain⟨b,hb,e⟩:=List.mem_filterMap.mp hp;cases q:h.get? b with
 | none=>rw[q]at e;cases e
 | some o=>
  rw[q]at e;have e':(b,o)=p:=DZ e;subst e';exact⟨hb,q⟩
def Inv.pinned{pins:List (Addr×Obj)}{σ:St}{H:Hp}{s:Shared}{fp:List Addr}(I:Inv X pins σ H s)(hf:∀b∈fp,bW X pins H b)(ho:∀b∈fp,∃o,s.heap.get? b=some o/\∀v,o.data≠.cell v):Inv X (pins++fE fp s.heap) σ H s:=
 I.pins_of λp hp=>(DL.mp hp).elim (λz=>I.pin p (Ea _ z)) λz=>by obtain⟨hb,e⟩:=qF z;obtain⟨f0,f1,f2,_⟩:=hf p.1 hb;obtain⟨o,e',d⟩:=ho p.1 hb;rw[e]at e';cases e';exact⟨e,f0,f1,f2,d⟩
def Inv.unpinned{pins pl:List (Addr×Obj)}{σ:St}{H:Hp}{s:Shared}(I:Inv X (pins++pl) σ H s):Inv X pins σ H s:=I.pins_of λp hp=>I.pin p (Ea _ (Eb _ hp))
def bG{iter:Expr}{body:List Stmt}{wi:TI}{g:TG}{tb:TS}{pos:Pos}(hp:PassesOwn (model X.prog X.w) X.A X.env X.xe)(hc:X.calm=true)(hi:PI X tg iter wi)(hg:PG X tg g)(hb:cj X body tb)
  (hs:∀x,foldedSetIterable iter X.env x=pure x:=by intro _;rfl):PS X (.For tg iter body [] pos) (s9 wi g tb):=by
 intro pins s σ H D I h;refine wpAny_For (aw (hi pins s σ H _ I h) λv s1 h1=>aw h1 λitv s2 h2=>?_) hs;obtain⟨it,fp,tn,J,H2,e,I2,T,st2,f2,W,⟨m0,w0⟩,turn⟩:=h2;subst e;have stat:∀{H':Hp},(∀b∈fp,H' b=none)->∀b∈fp,bW X pins H' b:=λhn b hb=>⟨hn b hb,(f2 b hb).2⟩;refine codeAny_forLoop_any (λn s'=>∃i σ' H',Inv X pins σ' H' s'/\tn i s'.heap/\(∀b∈fp,H' b=none)/\W i n σ' H') ?_ m0 ⟨0,σ,H2,I2,st2,λb hb=>(f2 b hb).1,w0⟩;rintro n s3 ⟨i,σ3,H3,I3,st3,fr3,w3⟩;rcases turn i n σ3 H3 w3 with⟨stop,qn⟩|⟨go,N,hN,step⟩
 ·refine wpAny_passesOwn hp (aw (T.done X rfl rfl rfl hc i pins s3 σ3 H3 X.xe I3 (stat fr3) st3 stop) λr s4 ⟨hr,I4⟩=>?_);subst hr;exact wpAny_execs_nil ⟨σ3,H3,I4,qn⟩
 ·refine wpAny_passesOwn hp (aw (T.item X rfl rfl rfl hc i pins s3 σ3 H3 X.xe I3 (stat fr3) st3 go) λr s4 ⟨u,hr,h4⟩=>?_);subst hr;refine wpAny_passesOwn hp (aw h4 λ_ s5 ⟨x,H5,I5,r5,y5,st5,fr5⟩=>?_);have I5':=I5.pinned (stat fr5) (T.obj _ _ st5);refine wpAny_passesOwn hp (aw (hg _ s5 σ3 H5 x u _ I5' r5 (step x H5 y5)) λ_ s6 ⟨σ6,H6,I6,q6⟩=>?_);refine wpAny_passesOwn hp (aw (hb _ s6 σ6 H6 _ I6 q6) λf s7 q7=>?_);have again:∀{σ7:St} {H7:Hp},Inv X (pins++fE fp s5.heap) σ7 H7 s7->N σ7 H7->∃m,m<n/\∃i σ' H',Inv X pins σ' H' s7/\tn i s7.heap/\(∀b∈fp,H' b=none)/\W i m σ' H':=λ{σ7 H7} I7 n7=>by obtain⟨m',hm,w7⟩:=hN σ7 H7 n7;refine⟨m',hm,i+1,σ7,H7,I7.unpinned,T.keep _ _ _ st5 λb hb o e=>(I7.pin (b,o) (Ea _ (Ea _ (lQ hb e)))).1,λb hb=>?_,w7⟩;obtain⟨o,e,d⟩:=T.obj _ _ st5 b hb;exact(I7.pin (b,o) (Ea _ (Ea _ (lQ hb e)))).2.1
  cases f with
  | next=>obtain⟨σ7,H7,I7,n7⟩:=q7;exact again I7 n7
  | cont=>obtain⟨σ7,H7,I7,n7⟩:=q7;exact again I7 n7
  | brk=>obtain⟨σ7,H7,I7,q7⟩:=q7;exact⟨σ7,H7,I7.unpinned,q7⟩
  | ret v=>obtain⟨x7,σ7,H7,I7,r7,q7⟩:=q7;exact⟨x7,σ7,H7,I7.unpinned,r7,q7⟩
end
def CT{K:Dj}{a:Addr}{xs:List V}{g:TG}{tb:TS}{D:Ends}{σ:St}{H:Hp}(Pv:Nat->St->Hp->Prop)(h0:Pv 0 σ H)(hl:∀i σ H,i<=xs.length->Pv i σ H->ag K H a xs)
  (hs:∀i x σ H,xs[i]?=some x->Pv i σ H->g x σ H λσ2 H2=>tb { D with nx:=Pv (i+1),ct:=Pv (i+1),bk:=D.nx } σ2 H2) (hd:∀σ H,Pv xs.length σ H->D.nx σ H) :
  ∃W:Nat->Nat->St->Hp->Prop,(∃m,W 0 m σ H)/\∀i m σ H,W i m σ H →
   ((cF K a).stop i H/\D.nx σ H)\/((cF K a).go i H/\∃N:St->Hp->Prop,(∀σ' H',N σ' H'->∃m',m'<m/\W (i+1) m' σ' H')/\∀x H',(cF K a).yld i H x H'->g x σ H' λσ2 H2=>tb { D with nx:=N,ct:=N,bk:=D.nx } σ2 H2):=by
 refine⟨λi m σ H=>m=xs.length-i/\i<=xs.length/\Pv i σ H,⟨xs.length,by simp,Nat.zero_le _,h0⟩,?_⟩;rintro i m σ H ⟨rfl,hi,p⟩;have q:=hl i σ H hi p;by_cases hlt:i<xs.length
 ·refine .inr ⟨⟨xs,xs[i],q,by simp[hlt]⟩,Pv (i+1),λσ' H' p'=>⟨xs.length-(i+1),by omega,rfl,hlt,p'⟩,λx H' y=>?_⟩;obtain⟨e,y⟩:=y;subst e;exact hs i x σ _ (y xs q) p
 ·have e:i=xs.length:=by omega
  subst e;exact .inl ⟨⟨xs,q,DI _⟩,hd σ H p⟩
def xo{K:Dj}{a:Addr}{xs:List V}{g:TG}{tb:TS}{D:Ends}{σ:St}{H:Hp}(Pv:Nat->St->Hp->Prop)(h0:Pv 0 σ H)(hl:∀i σ H,i<=xs.length->Pv i σ H->aj K H a xs)
  (hs:∀i x σ H,xs[i]?=some x->Pv i σ H->g x σ H λσ2 H2=>tb { D with nx:=Pv (i+1),ct:=Pv (i+1),bk:=D.nx } σ2 H2) (hd:∀σ H,Pv xs.length σ H->D.nx σ H) :
  ∃W:Nat->Nat->St->Hp->Prop,(∃m,W 0 m σ H)/\∀i m σ H,W i m σ H →
   ((cS K a).stop i H/\D.nx σ H)\/((cS K a).go i H/\∃N:St->Hp->Prop,(∀σ' H',N σ' H'->∃m',m'<m/\W (i+1) m' σ' H')/\∀x H',(cS K a).yld i H x H'->g x σ H' λσ2 H2=>tb { D with nx:=N,ct:=N,bk:=D.nx } σ2 H2):=by
 refine⟨λi m σ H=>m=xs.length-i/\i<=xs.length/\Pv i σ H,⟨xs.length,by simp,Nat.zero_le _,h0⟩,?_⟩;rintro i m σ H ⟨rfl,hi,p⟩;have q:=hl i σ H hi p;by_cases hlt:i<xs.length
 ·refine .inr ⟨⟨xs,xs[i],q,by simp[hlt]⟩,Pv (i+1),λσ' H' p'=>⟨xs.length-(i+1),by omega,rfl,hlt,p'⟩,λx H' y=>?_⟩;obtain⟨e,y⟩:=y;subst e;exact hs i x σ _ (y xs q) p
 ·have e:i=xs.length:=by omega
  subst e;exact .inl ⟨⟨xs,q,DI _⟩,hd σ H p⟩
def BY{lo:Int}{n:Nat}{g:TG}{tb:TS}{D:Ends}{σ:St}{H:Hp}(Pv:Nat->St->Hp->Prop)(h0:Pv 0 σ H)
  (hs:∀i σ H,i<n->Pv i σ H->g (.int (lo+i)) σ H λσ2 H2=>tb { D with nx:=Pv (i+1),ct:=Pv (i+1),bk:=D.nx } σ2 H2) (hd:∀σ H,Pv n σ H->D.nx σ H) :
  ∃W:Nat->Nat->St->Hp->Prop,(∃m,W 0 m σ H)/\∀i m σ H,W i m σ H →
   ((de lo n).stop i H/\D.nx σ H)\/((de lo n).go i H/\∃N:St->Hp->Prop,(∀σ' H',N σ' H'->∃m',m'<m/\W (i+1) m' σ' H')/\∀x H',(de lo n).yld i H x H'->g x σ H' λσ2 H2=>tb { D with nx:=N,ct:=N,bk:=D.nx } σ2 H2):=by
 refine⟨λi m σ H=>m=n-i/\i<=n/\Pv i σ H,⟨n,by simp,Nat.zero_le _,h0⟩,?_⟩;rintro i m σ H ⟨rfl,hi,p⟩;by_cases hlt:i<n
 ·refine .inr ⟨hlt,Pv (i+1),λσ' H' p'=>⟨n-(i+1),by omega,rfl,hlt,p'⟩,λx H' y=>?_⟩;obtain⟨e,y⟩:=y;subst e y;exact hs i σ _ hlt p
 ·have e:i=n:=by omega
  subst e;exact .inl ⟨DI _,hd σ H p⟩
abbrev R2:=V->V->Hp->VK->Prop
def aY(X:Cx)(f:Value->Value->Sem Value)(r:R2):Prop:=
 ∀(pins:List (Addr×Obj)) (s:Shared) (σ:St) (H:Hp) (x y:V) (v u:Value) (Q:VK),Inv X pins σ H s->RelV x v->RelV y u->r x y H Q →
  wpAny (model X.prog X.w) X.A (f v u) (EP X pins σ Q) X.xe s
def lU(X:Cx)(f:Value->Sem Value)(r:V->Hp->VK->Prop):Prop:=
 ∀(pins:List (Addr×Obj)) (s:Shared) (σ:St) (H:Hp) (x:V) (v:Value) (Q:VK),Inv X pins σ H s->RelV x v->r x H Q →
  wpAny (model X.prog X.w) X.A (f v) (EP X pins σ Q) X.xe s
def b9(X:Cx)(f:Value)(r:List V->Hp->VK->Prop):Prop:=
 ∀(pins:List (Addr×Obj)) (s:Shared) (σ:St) (H:Hp) (xs:List V) (us:List Value) (Q:VK),Inv X pins σ H s->Vals xs us->r xs H Q →
  wpAny (model X.prog X.w) X.A (call f us) (EP X pins σ Q) X.xe s
def zT(X:Cx)(r:V->Hp->(Bool->Hp->Prop)->Prop):Prop:=
 ∀(pins:List (Addr×Obj)) (s:Shared) (σ:St) (H:Hp) (x:V) (v:Value) (Q:Bool->Hp->Prop),Inv X pins σ H s->RelV x v->r x H Q →
  wpAny (model X.prog X.w) X.A (truthy v) (TP X pins σ Q) X.xe s
def iq(r:R2)(ta tb:TE):TE:=λσ H Q=>ta σ H λx H1=>tb σ H1 λy H2=>r x y H2 Q
def tQ(r:V->Hp->VK->Prop)(ta:TE):TE:=λσ H Q=>ta σ H λx H1=>r x H1 Q
def rI(C:Int->Int->Prop)(g:Int->Int->V):R2:=λx y H Q=>∃i j,x=.int i/\y=.int j/\C i j/\Q (g i j) H
def eE(g:Int->Int->V):R2:=λx y H Q=>∃i j,x=.int i/\y=.int j/\Q (g i j) H
def rU(g:Int->V):V->Hp->VK->Prop:=λx H Q=>∃i,x=.int i/\Q (g i) H
section
variable {X:Cx} {a b c:Expr} {ta tb tc:TE} {pos:Pos}
def oo(ha:PE X a ta)(hb:PE X b tb){pins:List (Addr×Obj)}{s:Shared}{σ:St}{H:Hp}{R:V->V->Hp->Prop}(I:Inv X pins σ H s)
  (h:ta σ H λx H1=>tb σ H1 λy H2=>R x y H2) {Q:Value->Shared->Prop} {f:Value->Value->Sem Value}
  (hf:∀v u s2 x y H2,Inv X pins σ H2 s2->RelV x v->RelV y u->R x y H2->wpAny (model X.prog X.w) X.A (f v u) Q X.xe s2) :
  wpAny (model X.prog X.w) X.A (eval a X.env) (λv s₁=>wpAny (model X.prog X.w) X.A (eval b X.env) (λu s₂=>wpAny (model X.prog X.w) X.A (f v u) Q X.xe s₂) X.xe s₁) X.xe s:=by
 refine aw (ha pins s σ H _ I h) λv s1 ⟨x,H1,I1,r1,q1⟩=>?_;refine aw (hb pins s1 σ H1 _ I1 q1) λu s2 ⟨y,H2,I2,r2,q2⟩=>?_;exact hf v u s2 x y H2 I2 r1 r2 q2
def aq{op:Operator}{r:R2}(ho:aY X (binaryOp op) r)(ha:PE X a ta)(hb:PE X b tb):PE X (.BinOp a op b pos) (iq r ta tb):=by intro pins s σ H Q I h;exact wpAny_BinOp (oo ha hb I h λv u s2 x y H2 I2 rx ry q=>ho pins s2 σ H2 x y v u Q I2 rx ry q)
def ir{op:UnaryOp}{r:V->Hp->VK->Prop}(ho:lU X (unaryOp op) r)(ha:PE X a ta):PE X (.UnaryOp op a pos) (tQ r ta):=by intro pins s σ H Q I h;exact UnaryOp_ (aw (ha pins s σ H _ I h) λv s1 ⟨x,H1,I1,r1,q1⟩=>ho pins s1 σ H1 x v Q I1 r1 q1)
def jA{f:Value->Value->Sem Value}{C:Int->Int->Prop}{g:Int->Int->Int}
  (rule:∀(i j:Int) (t u:Tok) (s:Shared) (Q:Value->Shared->Prop) (E:Value->Shared->Prop),C i j->Q (.int (g i j) s.toks) { s with toks:=s.toks+1 }->wpAny (model X.prog X.w) X.A (f (.int i t) (.int j u)) Q E s) :
  aY X f (rI C λi j=>.int (g i j)):=by
 intro pins s σ H x y v u Q I rx ry h;obtain⟨i,j,rfl,rfl,hc,q⟩:=h;obtain⟨t,rfl⟩:=rx;obtain⟨t',rfl⟩:=ry;exact rule i j t t' s _ _ hc ⟨.int (g i j),H,I.tok _,⟨_,rfl⟩,q⟩
def vH{f:Value->Value->Sem Value}{g:Int->Int->Int}
  (rule:∀(i j:Int) (t u:Tok) (s:Shared) (Q:Value->Shared->Prop) (E:Value->Shared->Prop),Q (.int (g i j) s.toks) { s with toks:=s.toks+1 }->wpAny (model X.prog X.w) X.A (f (.int i t) (.int j u)) Q E s) :
  aY X f (eE λi j=>.int (g i j)):=by
 intro pins s σ H x y v u Q I rx ry h;obtain⟨i,j,rfl,rfl,q⟩:=h;obtain⟨t,rfl⟩:=rx;obtain⟨t',rfl⟩:=ry;exact rule i j t t' s _ _ ⟨.int (g i j),H,I.tok _,⟨_,rfl⟩,q⟩
def j9{f:Value->Value->Sem Value}{g:Int->Int->Bool}
  (rule:∀(i j:Int) (t u:Tok) (s:Shared) (Q:Value->Shared->Prop) (E:Value->Shared->Prop),Q (.bool (g i j)) s->wpAny (model X.prog X.w) X.A (f (.int i t) (.int j u)) Q E s) :
  aY X f (eE λi j=>.bl (g i j)):=by
 intro pins s σ H x y v u Q I rx ry h;obtain⟨i,j,rfl,rfl,q⟩:=h;obtain⟨t,rfl⟩:=rx;obtain⟨t',rfl⟩:=ry;exact rule i j t t' s _ _ ⟨.bl (g i j),H,I,rfl,q⟩
def va(i j:Int):Prop:=0<=j/\j<=1000000/\i.natAbs<2 ^ 64
def iG(i j:Int):Prop:=(-(2 ^ 64)<i/\i<2 ^ 64)\/(-(2 ^ 64)<j/\j<2 ^ 64)
def iG.ok{i j:Int}(h:iG i j):IntMulOk i j:=by
 rcases h with⟨h1,h2⟩|⟨h1,h2⟩
 ·exact .of_left (intBits_le_64 h1 h2)
 ·exact .of_right (intBits_le_64 h1 h2)
def aS:aY X (binaryOp .Add) (eE λi j=>.int (i+j)):=vH λ_ _ _ _ _ _ _ q=>add_int q
def cH:aY X (binaryOp .Sub) (eE λi j=>.int (i-j)):=vH λ_ _ _ _ _ _ _ q=>sub_int q
def dE:aY X (binaryOp .Mult) (rI iG λi j=>.int (i*j)):=jA λ_ _ _ _ _ _ _ hc q=>mul_int q hc.ok
def bN:aY X (binaryOp .Mod) (rI (λ_ j=>0<j) λi j=>.int (i % j)):=jA λi j _ _ _ _ _ hc q=>by have h1:(0:Int)<j:=hc;exact mod_int' (by omega) (by rw[Int.fmod_eq_emod_of_nonneg i (by omega)];exact q)
def iV:aY X (binaryOp .Pow) (rI va λi j=>.int (i ^ j.toNat)):=jA λ_ _ _ _ _ _ _ hc q=>pow_int_small hc.1 hc.2.1 hc.2.2 q
def xy{f:Value->Sem Value}{g:Int->Int}
  (rule:∀(i:Int) (t:Tok) (s:Shared) (Q:Value->Shared->Prop) (E:Value->Shared->Prop),Q (.int (g i) s.toks) { s with toks:=s.toks+1 }->wpAny (model X.prog X.w) X.A (f (.int i t)) Q E s) :
  lU X f (rU λi=>.int (g i)):=by
 intro pins s σ H x v Q I rx h;obtain⟨i,rfl,q⟩:=h;obtain⟨t,rfl⟩:=rx;exact rule i t s _ _ ⟨.int (g i),H,I.tok _,⟨_,rfl⟩,q⟩
def gX:lU X (unaryOp .USub) (rU λi=>.int (-i)):=xy λ_ _ _ _ _ q=>neg_int q
end
def wA:V->V->Bool
 | .non,.non=>true|.non,.int _=>true|.int _,.non=>true|.non,.bl _=>true|.bl _,.non=>true|.non,.str _=>true|.str _,.non=>true
 | .int _,.int _=>true|.bl _,.bl _=>true|.str _,.str _=>true|.byt _,.byt _=>true
 | .int _,.str _=>true|.str _,.int _=>true|.bl _,.str _=>true|.str _,.bl _=>true
 | _,_=>false
def ji:R2:=λx y H Q=>wA x y=true/\Q (.bl (decide (x=y))) H
def jm:R2:=λx y H Q=>wA x y=true/\Q (.bl (!decide (x=y))) H
def wb{i j:Int}:decide (V.int i=V.int j)=(i == j):=by rw[DW];simp
def kz{i j:Bool}:decide (V.bl i=V.bl j)=(i == j):=by rw[DW];simp
def iN{i j:Str}:decide (V.str i=V.str j)=(i == j):=by rw[DW];simp
def qf{i j:Array UInt8}:decide (V.byt i=V.byt j)=(i.toList == j.toList):=by rw[DW];cases i;cases j;simp
section
variable {X:Cx} {a b c:Expr} {ta tb tc:TE} {pos:Pos}
def bh{pins:List (Addr×Obj)}{σ:St}{H:Hp}{s:Shared}{Q:VK}{k k':Bool}(I:Inv X pins σ H s)(q:Q (.bl k) H)(e:k=k'):EP X pins σ Q (.bool k') s:=by subst e;exact⟨.bl k,H,I,rfl,q⟩
def bT:aY X (compareOp .Eq) ji:=by
 intro pins s σ H x y v u Q I rx ry h;obtain⟨hs,q⟩:=h;cases x with
 | non=>
  cases rx;cases y with
  | non=>cases ry;exact PySem.EqNone.eq_none_none (bh I q (by simp))
  | bl j=>cases ry;exact PySem.EqNone.eq_none_bool (bh I q (by simp))
  | int j=>obtain⟨t',rfl⟩:=ry;exact PySem.EqNone.eq_none_int (bh I q (by simp))
  | str j=>obtain⟨t',rfl⟩:=ry;exact PySem.EqNone.eq_none_str (bh I q (by simp))
  | _=>exact absurd (show false=true from hs) DE
 | bl i=>
  cases rx;cases y with
  | non=>cases ry;exact PySem.EqNone.eq_bool_none (bh I q (by simp))
  | bl j=>cases ry;exact eq_bool (bh I q kz)
  | str j=>obtain⟨t',rfl⟩:=ry;exact PySem.EqMixed.eq_bool_str (bh I q (by simp))
  | _=>exact absurd (show false=true from hs) DE
 | int i=>
  obtain⟨t,rfl⟩:=rx;cases y with
  | non=>cases ry;exact PySem.EqNone.eq_int_none (bh I q (by simp))
  | int j=>obtain⟨t',rfl⟩:=ry;exact eq_int (bh I q wb)
  | str j=>obtain⟨t',rfl⟩:=ry;exact PySem.EqMixed.eq_int_str (bh I q (by simp))
  | _=>exact absurd (show false=true from hs) DE
 | str i=>
  obtain⟨t,rfl⟩:=rx;cases y with
  | non=>cases ry;exact PySem.EqNone.eq_str_none (bh I q (by simp))
  | bl j=>cases ry;exact PySem.EqMixed.eq_str_bool (bh I q (by simp))
  | int j=>obtain⟨t',rfl⟩:=ry;exact PySem.EqMixed.eq_str_int (bh I q (by simp))
  | str j=>obtain⟨t',rfl⟩:=ry;exact eq_str (bh I q iN)
  | _=>exact absurd (show false=true from hs) DE
 | byt i=>
  obtain⟨t,rfl⟩:=rx;cases y with
  | byt j=>obtain⟨t',rfl⟩:=ry;exact PySem.W.eq_bytes (bh I q qf)
  | _=>exact absurd (show false=true from hs) DE
 | _=>cases y<;>exact absurd (show false=true from hs) DE
def fM:aY X (compareOp .NotEq) jm:=by
 intro pins s σ H x y v u Q I rx ry h;obtain⟨hs,q⟩:=h;cases x with
 | non=>
  cases rx;cases y with
  | non=>cases ry;exact PySem.EqNone.ne_none_none (bh I q (by simp))
  | bl j=>cases ry;exact PySem.EqNone.ne_none_bool (bh I q (by simp))
  | int j=>obtain⟨t',rfl⟩:=ry;exact PySem.EqNone.ne_none_int (bh I q (by simp))
  | str j=>obtain⟨t',rfl⟩:=ry;exact PySem.EqNone.ne_none_str (bh I q (by simp))
  | _=>exact absurd (show false=true from hs) DE
 | bl i=>
  cases rx;cases y with
  | non=>cases ry;exact PySem.EqNone.ne_bool_none (bh I q (by simp))
  | bl j=>cases ry;exact ne_bool (bh I q (congrArg not kz))
  | str j=>obtain⟨t',rfl⟩:=ry;exact PySem.EqMixed.ne_bool_str (bh I q (by simp))
  | _=>exact absurd (show false=true from hs) DE
 | int i=>
  obtain⟨t,rfl⟩:=rx;cases y with
  | non=>cases ry;exact PySem.EqNone.ne_int_none (bh I q (by simp))
  | int j=>obtain⟨t',rfl⟩:=ry;exact ne_int (bh I q (congrArg not wb))
  | str j=>obtain⟨t',rfl⟩:=ry;exact PySem.EqMixed.ne_int_str (bh I q (by simp))
  | _=>exact absurd (show false=true from hs) DE
 | str i=>
  obtain⟨t,rfl⟩:=rx;cases y with
  | non=>cases ry;exact PySem.EqNone.ne_str_none (bh I q (by simp))
  | bl j=>cases ry;exact PySem.EqMixed.ne_str_bool (bh I q (by simp))
  | int j=>obtain⟨t',rfl⟩:=ry;exact PySem.EqMixed.ne_str_int (bh I q (by simp))
  | str j=>obtain⟨t',rfl⟩:=ry;exact ne_str (bh I q (congrArg not iN))
  | _=>exact absurd (show false=true from hs) DE
 | byt i=>
  obtain⟨t,rfl⟩:=rx;cases y with
  | byt j=>obtain⟨t',rfl⟩:=ry;exact PySem.W.ne_bytes (bh I q (congrArg not qf))
  | _=>exact absurd (show false=true from hs) DE
 | _=>cases y<;>exact absurd (show false=true from hs) DE
def dC:aY X (compareOp .Lt) (eE λi j=>.bl (decide (i<j))):=j9 λ_ _ _ _ _ _ _ q=>lt_int q
def jq:aY X (compareOp .LtE) (eE λi j=>.bl (decide (i<=j))):=j9 λ_ _ _ _ _ _ _ q=>le_int q
def eB:aY X (compareOp .Gt) (eE λi j=>.bl (decide (j<i))):=j9 λ_ _ _ _ _ _ _ q=>gt_int q
def lB:aY X (compareOp .GtE) (eE λi j=>.bl (decide (j<=i))):=j9 λ_ _ _ _ _ _ _ q=>ge_int q
def uJ:aY X (compareOp .Is) (λx y H Q=>y=.non/\Q (.bl (decide (x=.non))) H):=by
 intro pins s σ H x y v u Q I rx ry h;obtain⟨rfl,q⟩:=h;cases ry;refine is_none_gen (bh I q ?_);cases x<;>first
  | (cases rx;rfl)
  | (obtain⟨t,rfl⟩:=rx;rfl)
def aM(b:Expr){op:CmpOp}(h:op≠.In:=by decide)(h2:op≠.NotIn:=by decide):behindInMarks op b=false:=by
 have e1:(op == CmpOp.In)=false:=by cases op<;>first|rfl|exact absurd rfl h
 have e2:(op == CmpOp.NotIn)=false:=by cases op<;>first|rfl|exact absurd rfl h2
 cases b<;>simp[behindInMarks,e1,e2]
def cE{op:CmpOp}{r:R2}(ho:aY X (compareOp op) r)(ha:PE X a ta)(hb:PE X b tb)(hm:behindInMarks op b=false):PE X (.Compare a [op] [b] pos) (iq r ta tb):=by intro pins s σ H Q I h;exact wpAny_Compare1 (oo ha hb I h λv u s2 x y H2 I2 rx ry q=>ho pins s2 σ H2 x y v u Q I2 rx ry q) hm
def qo(t:TE):TT:=λσ H Q=>t σ H λx H'=>∃k,x=.bl k/\Q k H'
def aR{op:CmpOp}{r:R2}(ho:aY X (compareOp op) r)(ha:PE X a ta)(hb:PE X b tb)(hm:behindInMarks op b=false):PT X (.Compare a [op] [b] pos) (qo (iq r ta tb)):=by
 intro pins s σ H Q I h;refine wpAny_isTrue_Compare1 (aw (ha pins s σ H _ I h) λv s1 ⟨x,H1,I1,r1,q1⟩=>aw (hb pins s1 σ H1 _ I1 q1) λu s2 ⟨y,H2,I2,r2,q2⟩=>
  aw (ho pins s2 σ H2 x y v u _ I2 r1 r2 q2) λc s3 ⟨z,H3,I3,r3,k,e,q3⟩=>?_) hm
 subst e;cases r3;exact wpAny_truthy_bool ⟨H3,I3,q3⟩
def rJ(r r':R2)(ta tb tc:TE):TE:=λσ H Q=>ta σ H λx H1=>tb σ H1 λy H2=>r x y H2 λz H3=>∃k,z=.bl k ∧
 (if k=true then tc σ H3 λw' H4=>r' y w' H4 Q else Q (.bl false) H3)
def nE{op op':CmpOp}{r r':R2}(ho:aY X (compareOp op) r)(ho':aY X (compareOp op') r')(ha:PE X a ta)(hb:PE X b tb)(hc:PE X c tc)
  (hm:lastMarks [op,op'] [b,c]=false:=by with_unfolding_all rfl):PE X (.Compare a [op,op'] [b,c] pos) (rJ r r' ta tb tc):=by
 intro pins s σ H Q I h;refine Compare_chain (aw (ha pins s σ H _ I h) λv s1 ⟨x,H1,I1,r1,q1⟩=>chain_link (aw (hb pins s1 σ H1 _ I1 q1) λu s2 ⟨y,H2,I2,r2,q2⟩=>
  aw (ho pins s2 σ H2 x y v u _ I2 r1 r2 q2) λd s3 ⟨z,H3,I3,r3,k,e,q3⟩=>?_)) hm
 subst e;cases r3;refine wpAny_truthy_bool ?_;cases k with
 | false=>exact ite_ff ⟨.bl false,H3,I3,rfl,q3⟩
 | true=>exact ite_tt (chain_last (aw (hc pins s3 σ H3 _ I3 q3) λw' s4 ⟨z',H4,I4,r4,q4⟩=>ho' pins s4 σ H4 y z' u w' Q I4 r2 r4 q4))
def jK(K:Dj)(x:V)(H:Hp)(k:Bool):Prop:=
 match x with
 | .non=>k=false
 | .bl b=>k=b
 | .int i=>k=(i != 0)
 | .str y=>y.length<=sizeLine/\k=((y.length:Int) != 0)
 | .byt y=>y.size<=sizeLine/\k=((y.size:Int) != 0)
 | .ref p=>(∃xs,ag K H p xs/\k = !xs.isEmpty)\/(∃xs,aj K H p xs/\k = !xs.isEmpty)\/∃kvs,H p=some (.dK kvs)/\k = !kvs.isEmpty
 | _=>False
def yR{κ:Type}{kvs:List (κ×V)}{vs:List (κ×Value)}(r:KV kvs vs):(!vs.isEmpty) = !kvs.isEmpty:=by cases r<;>rfl
def uY{xs:List V}{its:List Value}(r:Vals xs its):(!its.toArray.isEmpty) = !xs.isEmpty:=by cases r<;>simp
def fU:(sizeLine:Nat)<2 ^ 63:=by rw[sizeLine_eq];decide
def zb:zT X (λx H Q=>∃k,jK X.K x H k/\Q k H):=by
 intro pins s σ H x v Q I rx h;obtain⟨k,e,q⟩:=h;have hl:=fU;have hs:sizeLine=16777216:=sizeLine_eq;cases x with
 | non=>
  cases rx;have e':k=false:=e;subst e';exact truthy_none ⟨H,I,q⟩
 | bl b=>
  cases rx;have e':k=b:=e;subst e';exact wpAny_truthy_bool ⟨H,I,q⟩
 | int i=>
  obtain⟨t,rfl⟩:=rx;have e':k=(i != 0):=e;subst e';exact PySem.P.truthy_int ⟨H,I,q⟩
 | str y=>
  obtain⟨t,rfl⟩:=rx;obtain⟨hy,e'⟩:y.length<=sizeLine/\k=((y.length:Int) != 0):=e;subst e';exact PySem.P.truthy_str (by omega) ⟨H,I.tok _,q⟩
 | byt y=>
  obtain⟨t,rfl⟩:=rx;obtain⟨hy,e'⟩:y.size<=sizeLine/\k=((y.size:Int) != 0):=e;subst e';exact PySem.W.truthy_bytes (by omega) ⟨H,I.tok _,q⟩
 | ref p=>
  cases rx;have e':(∃xs,ag X.K H p xs/\k = !xs.isEmpty)\/(∃xs,aj X.K H p xs/\k = !xs.isEmpty)\/∃kvs,H p=some (.dK kvs)/\k = !kvs.isEmpty:=e;rcases e' with⟨xs,hx,e'⟩|⟨xs,hx,e'⟩|⟨kvs,hx,e'⟩
  ·subst e';obtain⟨its,r,pl,hz⟩:=I.list hx;have hlen:=r.length;exact wpAny_truthy_list pl.isList (by simp only[Du];omega) ⟨H,I.tok _,by rw[uY r];exact q⟩
  ·subst e';obtain⟨its,r,pl,hz⟩:=I.tuple hx;have hlen:=r.length;exact truthy_tuple pl (by simp only[Du];omega) ⟨H,I.tok _,by rw[uY r];exact q⟩
  ·subst e';obtain⟨hz,hS,vs,r,m⟩:kvs.length<=sizeLine/\(p == sysModules)=false/\∃vs,KV kvs vs/\s.heap.DictOf (bV X.prog X.w) p vs:=I.hok p _ hx;have hlen:kvs.length=vs.length:=Paired.length r;exact wpAny_truthy_dict hS m (by omega) ⟨H,I.tok _,by rw[yR r];exact q⟩
 | _=>exact(show False from e).elim
def Ct(ha:PE X a ta)(he:∀whole,isTrue a X.env whole=(do let v ←whole;standAt a.pos;holding [v] (truthy v))):
  PT X a (λσ H Q=>ta σ H λx H'=>∃k,jK X.K x H' k/\Q k H'):=by
 intro pins s σ H Q I h;exact isTrue_plain (aw (ha pins s σ H _ I h) λv s1 ⟨x,H1,I1,r1,q1⟩=>zb pins s1 σ H1 x v Q I1 r1 q1) (he _)
def vals1{x:V}{us:List Value}(r:Vals [x] us):∃u,us=[u]/\RelV x u:=by
 cases r with
 | cons r1 r2=>cases r2;exact⟨_,rfl,r1⟩
def vals2{x y:V}{us:List Value}(r:Vals [x,y] us):∃u w',us=[u,w']/\RelV x u/\RelV y w':=by
 cases r with
 | cons r1 r2=>
  cases r2 with
  | cons r3 r4=>cases r4;exact⟨_,_,rfl,r1,r3⟩
def yp:b9 X (.builtin "abs") (λxs H Q=>∃i,xs=[.int i]/\Q (.int (if i<0 then -i else i)) H):=by intro pins s σ H xs us Q I r h;obtain⟨i,rfl,q⟩:=h;obtain⟨u,rfl,t,rfl⟩:=vals1 r;exact call_abs_int λu tk=>⟨.int (if i<0 then -i else i),H,I.tok _,⟨_,rfl⟩,q⟩
def zw(hc:X.calm=true):b9 X (.builtin "max") (λxs H Q=>∃i j,xs=[.int i,.int j]/\Q (.int (if j>i then j else i)) H):=by
 intro pins s σ H xs us Q I r h;obtain⟨i,j,rfl,q⟩:=h;obtain⟨u,w',rfl,⟨t,rfl⟩,⟨t',rfl⟩⟩:=vals2 r;refine max_two_ints (I.ok.hd hc) λh' tk k=>⟨_,H,I.kept k,?_,q⟩;by_cases hj:j>i
 ·rw[Eo hj,Eo hj];exact⟨_,rfl⟩
 ·rw[En hj,En hj];exact⟨_,rfl⟩
def zO:b9 X (.type "int") (λxs H Q=>(∃i,xs=[.int i]/\Q (.int i) H)\/∃k,xs=[.bl k]/\Q (.int (if k then 1 else 0)) H):=by
 intro pins s σ H xs us Q I r h;rcases h with⟨i,rfl,q⟩|⟨k,rfl,q⟩
 ·obtain⟨u,rfl,t,rfl⟩:=vals1 r;exact call_int_int ⟨.int i,H,I,⟨_,rfl⟩,q⟩
 ·obtain⟨u,rfl,r1⟩:=vals1 r;cases r1;exact call_int_bool ⟨.int (if k then 1 else 0),H,I.tok _,⟨_,rfl⟩,q⟩
end
structure ObjM(h:Heap)(x dx C:Addr)(mA:Str->Option Value):Prop where
 obj:h.get? x=some (PySem.W.instObj C dx)
 ns:h.Ns1 dx mA
 ne:dx≠x
def yH{h:Heap}{dx:Addr}{mA:Str->Option Value}(n:h.Ns1 dx mA):∃od,h.get? dx=some od/\∀name,PySem.W.lookIn name od=some (mA name):=by
 obtain⟨o,es,ep,ho,hd,hk,_,hm⟩:=n;refine⟨o,ho,λname=>?_⟩;have e:=hm name;unfold nsFind findBy at e;rw[←Array.find?_toList]at e;unfold PySem.W.lookIn;rw[hd];dsimp only;split
 ·rename_i y q;rw[q]at e;exact congrArg some e
 ·rename_i q;rw[q]at e;have a:es.toList.any (·.refKey)=false:=by rw[List.any_eq_false];intro y hy;obtain⟨z,t,hkey⟩:=hk y (Array.mem_toList_iff.mp hy);simp[DictEntry.refKey,hkey]
  have a':¬es.toList.any (·.refKey)=true:=by rw[a];exact DE
  rw[En a'];exact congrArg some e
def ObjM.look{h:Heap}{x dx C:Addr}{mA:Str->Option Value}(I:ObjM h x dx C mA):∃od,PySem.W.InstAt h x (PySem.W.instObj C dx) C (some od)/\∀name,PySem.W.lookIn name od=some (mA name):=
 let ⟨od,ho,hl⟩:=yH I.ns
 ⟨od,⟨I.obj,rfl,rfl,ho⟩,hl⟩
section
variable {prog:Program} {w:World} {A:Around} {E:Value->Shared->Prop} {s:Shared} {K:Dj} {x dx C f:Addr} {mA:Str->Option Value} {name:Str} {v:Value}
end
def eD.some_of{v:V}{o:Option Value}(r:eD (some v) o):∃u,o=some u/\RelV v u:=by
 cases o with
 | none=>exact(show False from r).elim
 | some u=>exact⟨u,rfl,r⟩
section
variable {P:Program} {w:World} {H H':Hp} {h h':Heap} {a C dx:Addr} {fs fs':List (Str×V)}
def y4(hok:aW P w H h)(e:H a=some (.ins C dx fs)):∃mA,ObjM h a dx C mA/\(∀f,eD (fs.lookup f) (mA f))/\PySem.Within mA (fs.map (·.1))/\fs.length<=1000/\H dx=some (.own a):=by obtain⟨d,z,ne,ob,mA,n,r,q⟩:=(show bj P w H h a (.ins C dx fs)from hok a _ e);exact⟨mA,⟨ob,n,ne⟩,r,q,z,d⟩
end
structure Cls(K:Dj)(C:Addr):Prop where
 pg:PySem.W.plainGet K C Str.empty=true
 hd:PySem.W.hasDictIn K C=true
 po:PySem.W.plainOver K C=true
 sa:PySem.W.findIn K (.ref C) "__setattr__" = some (some (.builtin "object.__setattr__"))
def Cls.get{K:Dj}{C:Addr}(c:Cls K C)(f:Str):PySem.W.plainGet K C f=true:=c.pg
section
variable {X:Cx} {pins:List (Addr×Obj)} {σ:St} {H:Hp} {s:Shared} {a C dx:Addr} {fs:List (Str×V)} {f:Str} {v:V} {A:Around} {E:Value->Shared->Prop}
end
section
variable {X:Cx} {o e value:Expr} {f:Str} {pos pos' tpos:Pos} {ta tv:TE}
end
section
variable {X:Cx} {pins:List (Addr×Obj)} {σ:St} {H:Hp} {s:Shared} {A:Around} {E:Value->Shared->Prop} {Q:Value->Shared->Prop} {c:Value} {b:Bool}
inductive TyOf(K:Dj)(H:Hp):V->Value->Prop where
 | non:TyOf K H .non (.type "NoneType")
 | bl (x:Bool):TyOf K H (.bl x) (.type "bool")
 | int (i:Int):TyOf K H (.int i) (.type "int")
 | str (x:Str):TyOf K H (.str x) (.type "str")
 | flt (x:UInt64):TyOf K H (.flt x) (.type "float")
 | lst {a:Addr} {xs:List V} (e:H a=some (.lst xs)):TyOf K H (.ref a) (.type "list")
 | frz {a:Addr} {o:Obj} {xs:List V} (e:H a=some (.frz o (.lst xs))):TyOf K H (.ref a) (.type "list")
 | tup {a:Addr} {xs:List V} (e:H a=some (.tup xs)):TyOf K H (.ref a) (.type "tuple")
 | dK {a:Addr} {kvs:List (Key×V)} (e:H a=some (.dK kvs)):TyOf K H (.ref a) (.type "dict")
 | dT {a:Addr} {kvs:List (List Key×V)} (e:H a=some (.dT kvs)):TyOf K H (.ref a) (.type "dict")
 | ins {a C dx:Addr} {fs:List (Str×V)} (e:H a=some (.ins C dx fs)) (cl:Cls K C) (ha:PySem.W.findIn K (.ref C) "__class__" = some (some (.builtin "object.__class__")))
   (hn:PySem.W.specialIn K (.builtin "object.__class__") "__get__" = some (some (.builtin "getset_descriptor.__get__"))) (htk:PySem.W.takesIn K (.builtin "object.__class__")=some true)
   (hm:PySem.W.mroIn K C (.type "object")=some true):TyOf K H (.ref a) (.ref C)
def Bh{x:V}{u t:Value}(I:Inv X pins σ H s)(rx:RelV x u)(ty:TyOf X.K H x t)(e:PySem.W.kitOne X.K t c=some b)(h:∀tk,Q (.bool b) { s with toks:=tk }):
  wpAny (model X.prog X.w) A (call (.builtin "isinstance") [u,c]) Q E s:=by
 cases ty with
 | non=>cases(show u=Value.none from rx);exact PySem.W.kia_one PySem.W.kitx_none I.kIn True.intro e (λz=>nomatch z) h
 | bl y=>cases(show u=Value.bool y from rx);exact PySem.W.kia_one PySem.W.kitx_bool I.kIn True.intro e (λz=>nomatch z) h
 | int i=>obtain⟨t,q⟩:=(show ∃t,u=Value.int i t from rx);cases q;exact PySem.W.kia_one PySem.W.kitx_int I.kIn True.intro e (λz=>nomatch z) h
 | str y=>obtain⟨t,q⟩:=(show ∃t,u=Value.str y t from rx);cases q;exact PySem.W.kia_one PySem.W.kitx_str I.kIn True.intro e (λz=>nomatch z) h
 | flt y=>obtain⟨t,q⟩:=(show ∃t,u=Value.float y t from rx);cases q;exact PySem.W.kia_one PySem.W.kitx_float I.kIn True.intro e (λz=>nomatch z) h
 | @lst a xs ea=>
  cases(show u=Value.ref a from rx);obtain⟨_,_,n,_,h1⟩:=(show bj X.prog X.w H s.heap a (.lst xs)from I.hok a _ ea);exact PySem.W.kia_one PySem.W.kitx_list I.kIn ⟨_,h1,rfl⟩ e (λz=>nomatch z) h
 | @frz a ob xs ea=>
  cases(show u=Value.ref a from rx);obtain⟨_,_,_,n,_,h1⟩:=(show bj X.prog X.w H s.heap a (.frz ob (.lst xs))from I.hok a _ ea);exact PySem.W.kia_one PySem.W.kitx_list I.kIn ⟨_,h1,rfl⟩ e (λz=>nomatch z) h
 | @tup a xs ea=>
  cases(show u=Value.ref a from rx);obtain⟨_,_,_,p⟩:=(show bj X.prog X.w H s.heap a (.tup xs)from I.hok a _ ea);obtain⟨o,h1,h2,_⟩:=p;exact PySem.W.kia_one PySem.W.kitx_tuple I.kIn ⟨o,h1,h2⟩ e (λz=>nomatch z) h
 | @dK a kvs ea=>
  cases(show u=Value.ref a from rx);obtain⟨_,_,vs,_,p⟩:=(show bj X.prog X.w H s.heap a (.dK kvs)from I.hok a _ ea);obtain⟨o,es,ep,h1,h2,_⟩:=p;exact PySem.W.kia_one PySem.W.kitx_dict I.kIn ⟨o,h1,h2.1⟩ e (λz=>nomatch z) h
 | @dT a kvs ea=>
  cases(show u=Value.ref a from rx);obtain⟨_,_,xs,_,o,es,ep,h1,h2,_⟩:=(show bj X.prog X.w H s.heap a (.dT kvs)from I.hok a _ ea);exact PySem.W.kia_one PySem.W.kitx_dict I.kIn ⟨o,h1,h2.1⟩ e (λz=>nomatch z) h
 | @ins a C dx fs ea cl ha hn htk hm=>
  cases(show u=Value.ref a from rx);obtain⟨mA,O,_⟩:=y4 I.hok ea;obtain⟨od,J,_⟩:=O.look;exact PySem.W.kia_one (PySem.W.kitx_own (cl.get _) cl.hd ha hn htk hm) I.kIn J e (λz=>nomatch z) h
end
structure Room(k:Nat)(A:Around):Prop where
 hd:A.handled=none
 dp:A.depth+3*k+5<recursionLimit
 un:A.units+16*k+200<cLine
def Room.mono{j k:Nat}{A:Around}(r:Room k A)(h:j<=k):Room j A:=⟨r.hd,by have:=r.dp;omega,by have:=r.un;omega⟩
def Room.deeper{k:Nat}{A:Around}(r:Room (k+1) A)(env:Env):Room k (A.deeper env):=
 ⟨r.hd,by have:=r.dp;show A.depth+1+3*k+5<_;omega,by have:=r.un;show A.units+3+16*k+200<_;omega⟩
def Room.depth{k:Nat}{A:Around}(r:Room k A):A.depth<recursionLimit:=by have:=r.dp;omega
def Room.units{k:Nat}{A:Around}(r:Room k A):A.units+64<cLine:=by have:=r.un;omega
def mj:TA:=λ_ H Q=>Q [] H
def jG(ta:TE)(tr:TA):TA:=λσ H Q=>ta σ H λx H1=>tr σ H1 λxs H2=>Q (x::xs) H2
section
variable {X:Cx} {e:Expr} {es:List Expr} {te:TE} {t:TA} {pos:Pos}
def ae:PA X [] mj:=λ_ _ _ _ H Q I h=>Calls.spliced_nil ⟨[],H,I,.nil,h⟩
def aa(ha:PE X e te)(hr:PA X es t)(hs:starEach (e::es) X.env=(false,eval e X.env)::starEach es X.env:=by rfl):PA X (e::es) (jG te t):=by intro pos pins s σ H Q I h;rw[hs];show wpAny _ _ (spliced ((false,eval e X.env)::backTo pos (starEach es X.env))) _ _ s;refine Calls.spliced_cons (aw (ha pins s σ H _ I h) λu s1 ⟨x,H1,I1,r1,q1⟩=>?_);exact aw (hr pos pins s1 σ H1 _ I1 q1) λus s2 ⟨xs,H2,I2,r2,q2⟩=>⟨x::xs,H2,I2,.cons r1 r2,q2⟩
def mB(t:TA):TE:=λσ H Q=>t σ H λxs H1=>xs.length<=sizeLine/\∀p,H1 p=none->Q (.ref p) (upd H1 p (.tup xs))
def vm(t:TA):TE:=λσ H Q=>t σ H λxs H1=>xs.length<=sizeLine/\∀p,H1 p=none->Q (.ref p) (upd H1 p (.lst xs))
def bz{x1}(h:PA X es t):PE X (.Tuple es x1 pos) (mB t):=by intro pins s σ H Q I hq;refine wpAny_Tuple_spliced (aw (h pos pins s σ H _ I hq) λus s1 ⟨xs,H1,I1,r,z,q⟩=>⟨by rw[←r.length];exact z,?_⟩);have hf:H1 s1.heap.objs.size=none:=I1.hok.fresh (DI _);refine⟨.ref s1.heap.objs.size,upd H1 s1.heap.objs.size (.tup xs),I1.laid (t':=s1.toks) (λb u e=>Dk _ e) (DI _) ?_,rfl,q _ hf⟩;exact⟨z,us,r,⟨_,Dl _ rfl,rfl,_,rfl⟩⟩
def bw(h:PA X es t):PE X (.List es pos) (vm t):=by intro pins s σ H Q I hq;refine wpAny_List_spliced (aw (h pos pins s σ H _ I hq) λus s1 ⟨xs,H1,I1,r,z,q⟩=>⟨by rw[←r.length];exact z,?_⟩);have hf:H1 s1.heap.objs.size=none:=I1.hok.fresh (DI _);refine⟨.ref s1.heap.objs.size,upd H1 s1.heap.objs.size (.lst xs),I1.laid (t':=s1.toks) (λb u e=>Dk _ e) (DI _) ?_,rfl,q _ hf⟩;exact⟨z,us,0,r,Dl _ rfl⟩
end
abbrev Sp:=List V->Hp->VK->XK->Prop
abbrev eM:=List Env->Hp->Shared->XK->Value->Shared->Prop
structure Env0(P:Program)(w:World)(K:Dj)(mg:Str->Option Value)(base:Heap)(A:Around)(outer:List Env)(s:Shared)(H:Hp):Prop where
 frames:A.frames=some outer
 mod:Mod K mg base
 bs:∀b o,base.get? b=some o->s.heap.get? b=some o/\H b=none
 bsz:base.objs.size<=s.heap.objs.size
 funs:s.heap.FunFrames base outer
 frf:∀b∈cB outer,H b=none
 hok:aW P w H s.heap
 bare:AllBare s.gens
def CE(outer:List Env)(P:Program)(w:World)(H:Hp)(s:Shared)(Q:VK)(u:Value)(s':Shared):Prop:=
 ∃v H',s'.os=s.os/\AllBare s'.gens/\Un (cB outer) [] H H' s.heap s'.heap/\aW P w H' s'.heap/\RelV v u/\Q v H'
def CR(CX:eM)(outer:List Env)(P:Program)(w:World)(H:Hp)(s:Shared)(Q:VK)(E:XK)(r:Result)(s':Shared):Prop:=
 match r with
 | .ok (.ret u)=>CE outer P w H s Q u s'
 | .ok _=>False
 | .error e=>CX outer H s E e s'
structure FnOk(P:Program)(w:World)(K:Dj)(mg:Str->Option Value)(base:Heap)(CX:eM)(k:Nat)(f:Addr)(fd:FuncData)(ps:List Str)(sp:Sp):Prop where
 len:∀vs H Q E,sp vs H Q E->vs.length=ps.length
 run:∀(A:Around) (outer:List Env) (s:Shared) (H:Hp) (args:Args) (us:List Value) (vs:List V) (Q:VK) (E:XK),Room k A->Env0 P w K mg base A outer s H->BindsTo s fd args (ps.zip us)->Vals vs us->sp vs H Q E →
  codeAny (model P w) A (.call (.ref f) args) (CR CX outer P w H s Q E) s
section
variable {X:Cx} {pins:List (Addr×Obj)} {σ:St} {H:Hp} {s s':Shared}
def Inv.env0(I:Inv X pins σ H s):Env0 X.prog X.w X.K X.mg X.base X.A X.stack s H:=
 ⟨I.ok.frames,I.ok.mod,I.bs,DS I.ok.bsz I.sz,I.stack,I.stkFree,I.hok,I.bare⟩
def Inv.after{Q:VK}{u:Value}(I:Inv X pins σ H s)(h:CE X.stack X.prog X.w H s Q u s'):EP X pins σ Q u s':=by obtain⟨v,H',os,bare,un,hok,r,q⟩:=h;obtain⟨hh,g,d,t,os'⟩:=s';obtain rfl:os'=s.os:=os;exact⟨v,H',I.call (h':=hh) (g':=g) (d':=d) (t':=t) (ch:=[]) un hok bare (λb z=>absurd z (by simp)),r,q⟩
end
def jB(sp:Sp)(dvs:List V)(E:XK)(t:TA):TE:=λσ H Q=>t σ H λvs H1=>sp (vs++dvs) H1 Q E
def Binds(K:Dj)(fd:FuncData)(ps:List Str)(ds:List Value):Prop:=
 ∀(s:Shared) (us:List Value),K.In s.heap->(us++ds).length=ps.length->BindsTo s fd ⟨us,[]⟩ (ps.zip (us++ds))
def Binds.all{K:Dj}{fd:FuncData}{ps:List Str}(h:∀us:List Value,us.length=ps.length->bindArgs fd ⟨us,[]⟩=pure (ps.zip us)):Binds K fd ps []:=λs us _ hl=>by rw[List.append_nil]at hl ⊢;exact .of_eq (h us hl)
def Passes(CX:eM)(X:Cx)(E:XK):Prop:=∀(pins:List (Addr×Obj)) (σ:St) (H:Hp) (s:Shared) (e:Value) (s':Shared),Inv X pins σ H s->CX X.stack H s E e s'->X.xe e s'
section
variable {X:Cx} {CX:eM} {k:Nat} {f C:Addr} {fd:FuncData} {ps:List Str} {sp:Sp} {dvs:List V} {ds:List Value} {E:XK} {x m:Str} {p pos apos:Pos} {e o:Expr} {es:List Expr} {ta:TE} {t:TA}
def B6{pins:List (Addr×Obj)}{σ:St}{H:Hp}{s:Shared}{Q:VK}{us:List Value}{vs:List V}(F:FnOk X.prog X.w X.K X.mg X.base CX k f fd ps sp)(hr:Room k X.A)(hb:Binds X.K fd ps ds)(hd:Vals dvs ds)(hx:Passes CX X E)
  (I:Inv X pins σ H s) (r:Vals vs us) (h:sp (vs++dvs) H Q E):wpAny (model X.prog X.w) X.A (call (.ref f) us) (EP X pins σ Q) X.xe s:=by
 have r2:Vals (vs++dvs) (us++ds):=r.append hd;have hl:(us++ds).length=ps.length:=by rw[←r2.length];exact F.len _ _ _ _ h
 refine wpAny_call (codeAny_mono (F.run X.A X.stack s H ⟨us,[]⟩ (us++ds) (vs++dvs) Q E hr I.env0 (hb s us I.kIn hl) r2 h) λr s' hq=>?_);cases r with
 | error e=>exact hx pins σ H s e s' I hq
 | ok fl=>
  cases fl with
  | ret u=>exact I.after hq
  | next=>exact False.elim hq
  | brk=>exact False.elim hq
  | cont=>exact False.elim hq
def xa(F:FnOk X.prog X.w X.K X.mg X.base CX k f fd ps sp)(hr:Room k X.A)(hg:Gl X x)(hm:X.mg x=some (.ref f))(hk:PySem.W.keepIn X.K (.ref f)=true)(hb:Binds X.K fd ps ds)(hd:Vals dvs ds)(hx:Passes CX X E)
  (ha:PA X (e::es) t) (hdb:(x == ("__debug__":Str))=false:=by decide) (he:starEach (e::es) X.env=(false,eval e X.env)::starEach es X.env:=by rfl) (hpl:(backTo pos (starEach es X.env)).any (·.1)=false:=by rfl) :
  PE X (.Call (.Name x p) (e::es) [] pos) (jB sp dvs E t):=by
 intro pins s σ H Q I h;refine wpAny_Call_Name_kw (iK I hg hm ?_ hdb);refine PySem.W.callWith_K (h₀:=X.base) I.ok.mod.kin hk (aw (ha pos pins s σ H _ I h) λus s1 ⟨vs,H1,I1,r,q⟩=>⟨I1.kIn,?_⟩) he hpl;exact B6 F hr hb hd hx I1 r q
end
section
variable {X:Cx} {CX:eM} {k:Nat} {f C:Addr} {fd:FuncData} {ps ks:List Str} {sp:Sp} {E:XK} {x m:Str} {p pos apos kpos:Pos} {e o:Expr} {es:List Expr} {kws:List Keyword} {te ta:TE} {t tk:TA} {nm:Option Str}
variable {g:List Value->List Value->List Value} {gV:List V->List V->List V}
end
structure FnScope(N P:List Str)(sc:Scope):Prop where
 kind:sc.kind=.function
 co:sc.isCoroutine=false
 gen:sc.isGenerator=false
 nd:N.Nodup
 pre:N.take P.length=P
 par:∀x∈P,sc.names.lookup x=some .local\/sc.names.lookup x=some .cell
 nofree:∀y∈sc.names,y.2≠.free
def pJ{kindOf:Str->Option NameKind}{x:Str}:∀{binds:List (Str×Value)} {m:Str->Option Value},(∀v,(x,v)∉binds)->bindL kindOf binds m x=m x
 | [],_,_=>rfl
 | (n,v)::r,m,h=>by
  unfold bindL;rw[pJ λw hw=>h w (Ds _ hw)];split
  ·have:x≠n:=by rintro rfl;exact h v Dv
   simp[this]
  ·rfl
def pw{kindOf:Str->Option NameKind}{x:Str}:∀{binds:List (Str×Value)} {m:Str->Option Value},(∀v,(x,v)∉binds)->bindC kindOf binds m x=m x
 | [],_,_=>rfl
 | (n,v)::r,m,h=>by
  unfold bindC;rw[pw λw hw=>h w (Ds _ hw)];split
  ·rfl
  ·have:x≠n:=by rintro rfl;exact h v Dv
   simp[this]
def lN{kindOf:Str->Option NameKind}{x:Str}{v:Value}:∀{P:List Str} {vs:List Value} {i:Nat} {m:Str->Option Value},P.Nodup->P[i]?=some x->vs[i]?=some v->kindOf x=some .local →
  bindL kindOf (P.zip vs) m x=some v
 | [],_,_,_,_,h,_,_=>by simp at h
 | _::_,[],_,_,_,_,h,_=>by simp at h
 | p::P,w::vs,0,m,nd,h1,h2,hk=>by simp at h1 h2;subst h1;subst h2;show bindL kindOf ((p,w)::P.zip vs) m p=_;unfold bindL;rw[pJ λv hv=>(List.nodup_cons.mp nd).1 (List.of_mem_zip hv).1,Eo hk];simp
 | p::P,w::vs,i+1,m,nd,h1,h2,hk=>by show bindL kindOf ((p,w)::P.zip vs) m x=_;unfold bindL;exact lN (i:=i) (List.nodup_cons.mp nd).2 (by simpa using h1) (by simpa using h2) hk
def nY{kindOf:Str->Option NameKind}{x:Str}{v:Value}:∀{P:List Str} {vs:List Value} {i:Nat} {m:Str->Option Value},P.Nodup->P[i]?=some x->vs[i]?=some v->kindOf x≠some .local →
  bindC kindOf (P.zip vs) m x=some v
 | [],_,_,_,_,h,_,_=>by simp at h
 | _::_,[],_,_,_,_,h,_=>by simp at h
 | p::P,w::vs,0,m,nd,h1,h2,hk=>by simp at h1 h2;subst h1;subst h2;show bindC kindOf ((p,w)::P.zip vs) m p=_;unfold bindC;rw[pw λv hv=>(List.nodup_cons.mp nd).1 (List.of_mem_zip hv).1,En hk];simp
 | p::P,w::vs,i+1,m,nd,h1,h2,hk=>by show bindC kindOf ((p,w)::P.zip vs) m x=_;unfold bindC;exact nY (i:=i) (List.nodup_cons.mp nd).2 (by simpa using h1) (by simpa using h2) hk
def start(N:List Str)(vs:List V):St:=vs.map some++Ec (N.length-vs.length) none
def eo(CX:eM)(P:Program)(w:World)(K:Dj)(mg:Str->Option Value)(base:Heap)(N:List Str)(qual:Str)(scope:Scope)(f:Addr)(cd:Value)(A:Around)(outer:List Env)(s:Shared)(H:Hp)(E:XK):Cx where
 prog:=P
 w:=w
 K:=K
 mg:=mg
 base:=base
 A:=A.deeper (envOfC qual scope s.heap.objs.size f cd)
 N:=N
 s₀:=s
 H₀:=H
 env:=envOfC qual scope s.heap.objs.size f cd
 outer:=outer
 stack:=envOfC qual scope s.heap.objs.size f cd::outer
 ex:=[]
 calm:=true
 fn:=λ_=>true
 pn:=[]
 xe:=λe s'=>wpAny (model P w) (A.deeper (envOfC qual scope s.heap.objs.size f cd)) (leaving (envOfC qual scope s.heap.objs.size f cd) e) (λ_ s''=>CX outer H s E e s'') (λe' s''=>CX outer H s E e' s'') s'
def uK{sc:Scope}{n:Nat}{x:Str}(h:sc.names.lookup x=some .cell):∃c,(cellsFrom n sc.names []).lookup x=some c:=by have q:=PySem.W.cellsFrom_some sc.names n [] (.inl h);exact Option.isSome_iff_exists.mp q
def uZ{CX:eM}{P:Program}{w:World}{K:Dj}{mg:Str->Option Value}{base:Heap}{N ps:List Str}{qual:Str}{scope:Scope}{f:Addr}{cd:Value}{A:Around}{outer:List Env}{s s1:Shared}{H:Hp}{E:XK}{us:List Value}{vs:List V}
  (S:FnScope N ps scope) (hd:A.handled=none) (e0:Env0 P w K mg base A outer s H) (hl:vs.length=ps.length) (r:Vals vs us)
  (x:InCallC s s.heap.objs.size (bindL (envOfC qual scope s.heap.objs.size f cd).kindOf (ps.zip us) λ_=>none) (cellsFrom (s.heap.objs.size+1) scope.names []) (bindC (envOfC qual scope s.heap.objs.size f cd).kindOf (ps.zip us) λ_=>none) s1) :
  Inv (eo CX P w K mg base N qual scope f cd A outer s H E) [] (start N vs) H s1:=by
 have hpl:ps.length<=N.length:=by have:=congrArg List.length S.pre;rw[Eh]at this;omega
 obtain⟨h1,tk,rfl,hk⟩:=x.done;have noA:∀b:Addr,b∉(eo CX P w K mg base N qual scope f cd A outer s H E).ex:=λb z=>absurd (show b∈([]:List Addr)from z) (by simp);refine⟨⟨e0.mod,S.kind,rfl,rfl,DI _,λy z c h1 h2=>?_,λy hy=>?_,λy c _ h=>?_,λ_=>hd,Around.frames_deeper e0.frames,.inr ⟨rfl,rfl⟩,λb z=>absurd z (noA b),e0.bs,e0.bsz,λb _ _=>noA b,λb z=>absurd z (noA b),e0.funs,e0.frf⟩,
  rfl,e0.bare,Un.kept hk,⟨_,x.toInCall.ns,λi y v h1 h2 h3=>?_⟩,λy c h=>⟨_,x.cell y c h⟩,e0.hok.fresh (DI _),λy c h=>?_,λp hp=>absurd (show p∈([]:List (Addr×Obj))from hp) (by simp),e0.hok.kept hk,?_⟩
 ·exact name_of_addr x.apart (PySem.mem_of_lookup h1) (PySem.mem_of_lookup h2)
 ·have hy:scope.names.lookup y=some .cell\/scope.names.lookup y=some .free:=hy;rcases hy with hy|hy
  ·exact uK hy
  ·exact absurd rfl (S.nofree _ (PySem.mem_of_lookup hy))
 ·exact Nat.le_of_lt (x.above y c (PySem.mem_of_lookup h))
 ·have hi:i<vs.length:=by
   unfold start at h2;by_cases hi:i<vs.length
   ·exact hi
   ·rw[DM (by simpa using hi)]at h2;rw[List.getElem?_replicate]at h2;split at h2<;>cases h2
  have ha:vs[i]?=some v:=by
   unfold start at h2;rw[DN (by simpa using hi),Dr]at h2;cases e:vs[i]? with
   | none=>rw[e]at h2;cases h2
   | some a=>rw[e]at h2;cases h2;rfl
  obtain⟨u,hu,rv⟩:=r.get ha;have hp:ps[i]?=some y:=by rw[←S.pre,List.getElem?_take_of_lt (by omega)];exact h1
  have ndP:ps.Nodup:=by rw[←S.pre];exact S.nd.sublist (List.take_sublist _ _)
  refine⟨u,rv,?_⟩;rcases S.par y (Dy hp)with k|k
  ·exact .inl ⟨k,lN ndP hp hu k⟩
  ·obtain⟨c,e⟩:=uK (n:=s.heap.objs.size+1) k;refine .inr ⟨.inl k,c,e,?_⟩;have q:=x.cell y c e;rw[nY ndP hp hu (by show scope.names.lookup y≠_;rw[k];decide)]at q;exact q
 ·exact e0.hok.fresh (Nat.le_of_lt (x.above y c (PySem.mem_of_lookup h)))
 ·unfold start;show _=N.length;rw[DG,Dn,List.length_replicate];omega
def rB{CX:eM}{P:Program}{w:World}{K:Dj}{mg:Str->Option Value}{base:Heap}{k:Nat}{f:Addr}{name qual:Str}{params:Arguments}{body:List Stmt}{scope:Scope}{dV kV doc pm cdv ct oc:Value}{an od:Option Addr}
  {osl:Array (Option Value)} {N ps:List Str} {sp:Sp} (lk:K.lookup f=some ⟨oc,od,.func (PySem.W.fnOf name qual params body scope dV kV doc pm an cdv ct),osl⟩) (hcd:PySem.W.codeIn K cdv qual=true) (S:FnScope N ps scope)
  (len:∀vs H Q E,sp vs H Q E->vs.length=ps.length)
  (hbody:∀(A:Around) (outer:List Env) (s:Shared) (H:Hp) (vs:List V) (Q:VK) (E:XK),Room k (A.deeper (envOfC qual scope s.heap.objs.size f cdv))->sp vs H Q E →
   ∃t,cj (eo CX P w K mg base N qual scope f cdv A outer s H E) body t/\t { nx:=λ_ H'=>Q .non H',rt:=Q } (start N vs) H) :
  FnOk P w K mg base CX (k+1) f (PySem.W.fnOf name qual params body scope dV kV doc pm an cdv ct) ps sp:=by
 refine⟨len,λA outer s H args us vs Q E hr e0 hb r hsp=>?_⟩;have hl:=len _ _ _ _ hsp;have KX:K.In s.heap:=e0.mod.kin.keeps λb o e=>(e0.bs b o e).1;have lim:s.heap.NoLimit:=e0.mod.nolimit.keeps λb o e=>(e0.bs b o e).1;have hkind:∀y∈ps.zip us,scope.names.lookup y.1=some .local\/(scope.names.lookup y.1=some .cell/\((cellsFrom (s.heap.objs.size+1) scope.names []).lookup y.1).isSome=true):=λ⟨n,v⟩ hy=>by
  rcases S.par n (List.of_mem_zip hy).1 with q|q
  ·exact .inl q
  ·exact .inr ⟨q,PySem.W.cellsFrom_some _ _ _ (.inl q)⟩
 refine codeAny_call_function hr.depth (KX _ _ lk) rfl S.co S.gen rfl (PySem.W.codeRec_of KX hcd) (hb _ _ _ _ ?_);refine wpAny_newFunctionEnv_cells S.kind hkind λenv he s1 x=>?_;subst he;refine⟨lim.keeps x.toInCall.keep,codeAny_func ?_⟩;obtain⟨t,ht,hq⟩:=hbody A outer s H vs Q E (hr.deeper _) hsp;have I:Inv (eo CX P w K mg base N qual scope f cdv A outer s H E) [] (start N vs) H s1:=uZ S hr.hd e0 hl r x;refine wpAny_mono (ht [] s1 (start N vs) H _ I hq) (λfl s' hs=>?_) λe s' hs=>hs;have fin:∀{σ':St} {H':Hp} {v:V} {u:Value},Inv (eo CX P w K mg base N qual scope f cdv A outer s H E) [] σ' H' s'->RelV v u->Q v H'->CE outer P w H s Q u s':=
  λ{σ' H' v u} J rv q=>⟨v,H',J.os,J.bare,J.base,J.hok,rv,q⟩
 cases fl with
 | ret u=>
  obtain⟨v,σ',H',J,rv,q⟩:=hs;exact fin J rv q
 | next=>
  obtain⟨σ',H',J,q⟩:=hs;exact fin (v:=V.non) (u:=Value.none) J rfl q
 | brk=>
  obtain⟨_,_,_,q⟩:=hs;exact False.elim q
 | cont=>
  obtain⟨_,_,_,q⟩:=hs;exact False.elim q
section
variable {X:Cx} {x:Str} {p pos:Pos} {e:Expr} {es:List Expr} {t:TA} {id T:String} {r:List V->Hp->VK->Prop}
def jE(r:List V->Hp->VK->Prop)(t:TA):TE:=λσ H Q=>t σ H λvs H1=>r vs H1 Q
def br(hc:b9 X (.builtin id) r)(hg:Gl X x)(hm:X.mg x=none)(hv:bootBuiltins x=some (.builtin id))(ha:PA X (e::es) t)(hn:x≠"__name__":=by decide)(hdb:(x == ("__debug__":Str))=false:=by decide)
  (he:starEach (e::es) X.env=(false,eval e X.env)::starEach es X.env:=by rfl) (hpl:(backTo pos (starEach es X.env)).any (·.1)=false:=by rfl):PE X (.Call (.Name x p) (e::es) [] pos) (jE r t):=by
 intro pins s σ H Q I h;refine wpAny_Call_Name_kw (f9 I hg hm hv ?_ hn hdb);exact PyProof.Rows.callWith_builtin1 (aw (ha pos pins s σ H _ I h) λus s1 ⟨vs,H1,I1,r1,q1⟩=>hc pins s1 σ H1 vs us Q I1 r1 q1) he hpl
def gR(hc:b9 X (.type T) r)(hg:Gl X x)(hm:X.mg x=none)(hv:bootBuiltins x=some (.type T))(ha:PA X (e::es) t)(hn:x≠"__name__":=by decide)(hdb:(x == ("__debug__":Str))=false:=by decide)
  (he:starEach (e::es) X.env=(false,eval e X.env)::starEach es X.env:=by rfl) (hpl:(backTo pos (starEach es X.env)).any (·.1)=false:=by rfl):PE X (.Call (.Name x p) (e::es) [] pos) (jE r t):=by
 intro pins s σ H Q I h;refine wpAny_Call_Name_kw (f9 I hg hm hv ?_ hn hdb);exact PyProof.Rows.callWith_type1 (aw (ha pos pins s σ H _ I h) λus s1 ⟨vs,H1,I1,r1,q1⟩=>hc pins s1 σ H1 vs us Q I1 r1 q1) he hpl
end
end L2
namespace HT
open PySem PyProof.Rows
section
open PySem.SeqAt
open PySem.AutoSeq1 (wpAny_loadPart')
open PySem.MeetsSeq PySem.MeetsSeq2 PySem.MeetsSeq3
end
section
variable {prog:Program} {w:World} {A:Around} {E:Value->Shared->Prop} {s:Shared}
def yQ{t b:Addr}{vs ws:List Value}{Q:Value->Shared->Prop}(ht:IsTup s.heap t vs.toArray)(hb:IsTup s.heap b ws.toArray)(hv:vs≠[])
  (h1:ws=[]->Q (.ref t) s) (h2:ws≠[]->Q (.ref s.heap.objs.size) { s with heap:=s.heap.push { cls:=.type "tuple",data:=.seq (vs++ws).toArray } })
  (hsz:vs.length+ws.length<=sizeLine):wpAny (model prog w) A (binaryOp .Add (.ref t) (.ref b)) Q E s:=by
 obtain⟨⟨cls,dd,data,sl⟩,ho,hc,n,hd⟩:=id ht;obtain⟨⟨cls2,dd2,data2,sl2⟩,ho2,hc2,n2,hd2⟩:=id hb;simp only at hc hd hc2 hd2;subst hc hd hc2 hd2;have e:vs.toArray++ws.toArray=(vs++ws).toArray:=by simp
 by_cases hw:ws=[]
 ·exact concat_meets ⟨_,ho,rfl⟩ ⟨_,ho2,rfl⟩ noFill_tuple_add seq_tuple_add PySem.F.slot_tuple_add PySem.F.entry_tuple_add (PySem.F.args_tuple_add_2 _ _)
   (tuple_addW1 t b vs.toArray ws.toArray n n2 dd dd2 sl sl2 (by simpa using hv) (by simp[hw])) ⟨ho,ho2,h1 hw⟩
 ·refine concat_meets ⟨_,ho,rfl⟩ ⟨_,ho2,rfl⟩ noFill_tuple_add seq_tuple_add PySem.F.slot_tuple_add PySem.F.entry_tuple_add (PySem.F.args_tuple_add_2 _ _)
   (tuple_addW2 t b vs.toArray ws.toArray n n2 dd dd2 sl sl2 (by simpa using hv) (by simpa using hw) (by rw[Du,Du];exact hsz)) ⟨ho,ho2,?_⟩
  rw[e];exact h2 hw
def bQ(n d:Nat):Option Int->Nat
 | none=>d
 | some v=>if v<0 then(v+(n:Int)).toNat else min v.toNat n
def p6(n d:Nat):bQ n d none=d:=rfl
def tj(n d k:Nat):bQ n d (some (k:Int))=min k n:=by show(if(k:Int)<0 then((k:Int)+(n:Int)).toNat else min (k:Int).toNat n)=min k n;rw[En (by omega),DB]
end
end HT
namespace L2
open PySem PySem.Spec PyProof.Rows
abbrev TO:=St->Hp->(Option Int->Hp->Prop)->Prop
def PO(X:Cx)(e:Option Expr)(t:TO):Prop:=
 ∀(pins:List (Addr×Obj)) (s:Shared) (σ:St) (H:Hp) (Q:Option Int->Hp->Prop),Inv X pins σ H s->t σ H Q →
  wpAny (model X.prog X.w) X.A (evalPart e X.env) (λu s'=>∃o H',Inv X pins σ H' s'/\IsPart u o/\Q o H') X.xe s
def uq:TO:=λ_ H Q=>Q none H
def uo(t:TE):TO:=λσ H Q=>t σ H λx H1=>∃i,x=.int i/\Q (some i) H1
section
variable {X:Cx} {e:Expr} {te:TE} {lo hi:Option Expr} {tl th:TO} {pos p2:Pos}
def iz:PO X none uq:=by intro pins s σ H Q I h;rw[evalPart_none];exact Di ⟨none,H,I,.none,h⟩
def fe(h:PE X e te):PO X (some e) (uo te):=by intro pins s σ H Q I hw;rw[evalPart_some];refine aw (h pins s σ H _ I hw) λu s1 ⟨x,H1,I1,r1,q1⟩=>?_;obtain⟨i,rfl,q⟩:=q1;obtain⟨t,rfl⟩:=r1;exact⟨some i,H1,I1,.int i t,q⟩
def oE(X:Cx)(r:V->Option Int->Option Int->Hp->VK->Prop):Prop:=
 ∀(pins:List (Addr×Obj)) (s:Shared) (σ:St) (H:Hp) (x:V) (v vl vu:Value) (lo hi:Option Int) (sl:Addr) (Q:VK),Inv X pins σ H s->RelV x v->s.heap.IsSliceOf sl vl vu .none->IsPart vl lo->IsPart vu hi->r x lo hi H Q →
  ∃T id,typeLookup (.type T) "__getitem__" = pure (some (.builtin id))/\s.TypeIs v T/\wpAny (model X.prog X.w) X.A (getItem v (.ref sl)) (EP X pins σ Q) X.xe s
def qr(r:V->Option Int->Option Int->Hp->VK->Prop)(te:TE)(tl th:TO):TE:=λσ H Q=>te σ H λx H1=>tl σ H1 λl H2=>th σ H2 λu H3=>r x l u H3 Q
def gW{r:V->Option Int->Option Int->Hp->VK->Prop}(hr:oE X r)(he:PE X e te)(hl:PO X lo tl)(hu:PO X hi th):PE X (.Subscript e (.Slice lo hi none p2) pos) (qr r te tl th):=by intro pins s σ H Q I h;refine Subscript_ (aw (he pins s σ H _ I h) λv s1 ⟨x,H1,I1,r1,q1⟩=>?_);refine wpAny_Slice (aw (hl pins s1 σ H1 _ I1 q1) λvl s2 ⟨l,H2,I2,pl,q2⟩=>aw (hu pins s2 σ H2 _ I2 q2) λvu s3 ⟨u,H3,I3,pu,q3⟩=>?_);rw[evalPart_none];refine Di ?_;have I4:Inv X pins σ H3 { s3 with heap:=s3.heap.push { cls:=.type "slice",data:=.fields #[vl,vu,.none] } }:=I3.kept (t':=s3.toks) λb ob q=>Dk _ q;obtain⟨T,id,hT,ht,hg⟩:=hr pins { s3 with heap:=s3.heap.push { cls:=.type "slice",data:=.fields #[vl,vu,.none] } } σ H3 x v vl vu l u s3.heap.objs.size Q I4 r1 (Heap.IsSliceOf.new ..) pl pu q3;show wpAny (model X.prog X.w) X.A (subscriptTail e (.Slice lo hi none p2) v (.ref s3.heap.objs.size)) (EP X pins σ Q) X.xe { s3 with heap:=s3.heap.push { cls:=.type "slice",data:=.fields #[vl,vu,.none] } };exact tail_any (ops:=[.ref s3.heap.objs.size,v]) ht hT hg (by with_unfolding_all rfl)
def dg(xs:List V)(lo hi:Option Int):List V:=(xs.drop (HT.bQ xs.length 0 lo)).take (HT.bQ xs.length xs.length hi-HT.bQ xs.length 0 lo)
def xU(xs:List V)(lo hi:Option Int):(dg xs lo hi).length<=xs.length:=by unfold dg;rw[Eh,List.length_drop];omega
def Bg(K:Dj):R2:=λx y H Q=>∃a b xs ys,x=.ref a/\y=.ref b/\aj K H a xs/\aj K H b ys/\xs≠[]/\xs.length+ys.length<=sizeLine ∧
 (ys=[]->Q (.ref a) H)/\(ys≠[]->∀p,H p=none->Q (.ref p) (upd H p (.tup (xs++ys))))
def Vals.nil_iff{xs:List V}{us:List Value}(r:Vals xs us):us=[]↔xs=[]:=by
 cases r with
 | nil=>simp
 | cons _ _=>simp
def yk:aY X (binaryOp .Add) (Bg X.K):=by intro pins s σ H x y v u Q I rx ry h;obtain⟨a,b,xs,ys,rfl,rfl,ha,hb,hx,hz,q1,q2⟩:=h;cases rx;cases ry;obtain⟨its,r1,p1,_⟩:=I.tuple ha;obtain⟨its2,r2,p2,_⟩:=I.tuple hb;refine HT.yQ p1 p2 (λz=>hx (r1.nil_iff.mp z)) (λz=>⟨.ref a,H,I,rfl,q1 (r2.nil_iff.mp z)⟩) (λz=>?_) (by rw[←r1.length,←r2.length];exact hz);refine⟨.ref s.heap.objs.size,_,I.laid (t':=s.toks) (o:=.tup (xs++ys)) (λb ob q=>Dk _ q) (DI _) ?_,rfl,q2 (λw=>z (r2.nil_iff.mpr w)) _ (I.hok.fresh (DI _))⟩;exact⟨by rw[DG];exact hz,_,r1.append r2,IsTup.new _ _⟩
end
def dI(n:Nat)(i:Int):Option Nat:=if 0<=i then(if i<n then some i.toNat else none)else if -(n:Int)<=i then some (i+n).toNat else none
def bo{α:Type}(xs:List α)(i:Int):Option α:=(dI xs.length i).bind λj=>xs[j]?
def pY{n:Nat}{i:Int}{j:Nat}(h:dI n i=some j):seqIndex? i n=some j/\j<n/\-(n:Int)<=i/\i<n:=by
 unfold dI at h;by_cases h0:0<=i
 ·rw[Eo h0]at h;by_cases h1:i<n
  ·rw[Eo h1]at h;have e:i.toNat=j:=DZ h;exact⟨by rw[seqIndex_of h0 h1,e],by omega,by omega,h1⟩
  ·rw[En h1]at h;cases h
 ·rw[En h0]at h;by_cases h1:-(n:Int)<=i
  ·rw[Eo h1]at h;have e:(i+n).toNat=j:=DZ h;exact⟨by rw[seqIndex_neg (by omega) h1,e],by omega,h1,by omega⟩
  ·rw[En h1]at h;cases h
def kB{α:Type}{xs:List α}{i:Int}{v:α}(h:bo xs i=some v):∃j,seqIndex? i xs.length=some j/\xs[j]?=some v/\j<xs.length/\-(xs.length:Int)<=i/\i<xs.length:=by
 unfold bo at h;cases e:dI xs.length i with
 | none=>rw[e]at h;cases h
 | some j=>
  rw[e]at h;obtain⟨h1,h2,h3,h4⟩:=pY e;exact⟨j,h1,h,h2,h3,h4⟩
def dQ{α:Type}{xs:List α}{j:Nat}{v:α}(h:xs[j]?=some v):bo xs (j:Int)=some v:=by
 have hj:j<xs.length:=(Dx.mp h).1;have e:dI xs.length (j:Int)=some j:=by unfold dI;rw[Eo (by omega),Eo (by omega)];simp
 unfold bo;rw[e];exact h
def zu(b:Expr):Prop:=∀o i,subscripted b false o i=operate [o,i] (getItem o i)
def gD(X:Cx)(r:R2):Prop:=
 ∀(value slice:Expr) (pins:List (Addr×Obj)) (s:Shared) (σ:St) (H:Hp) (x y:V) (v u:Value) (Q:VK),Inv X pins σ H s->RelV x v->RelV y u->r x y H Q →
  subscripted slice false v u=operate [v,u] (getItem v u)->wpAny (model X.prog X.w) X.A (subscriptTail value slice v u) (EP X pins σ Q) X.xe s
def lD(X:Cx)(id:String)(r:V->List V->Hp->VK->Prop):Prop:=
 ∀(pins:List (Addr×Obj)) (s:Shared) (σ:St) (H:Hp) (x:V) (xs:List V) (v:Value) (us:List Value) (Q:VK),Inv X pins σ H s->RelV x v->Vals xs us->r x xs H Q →
  wpAny (model X.prog X.w) X.A (call (.builtin id) (v::us)) (EP X pins σ Q) X.xe s
section
variable {X:Cx} {a b:Expr} {ta tb:TE} {pos:Pos}
def ai{r:R2}(hr:gD X r)(ha:PE X a ta)(hb:PE X b tb)(hs:zu b):PE X (.Subscript a b pos) (iq r ta tb):=by intro pins s σ H Q I h;exact Subscript_ (oo ha hb I h λv u s2 x y H2 I2 rx ry q=>hr a b pins s2 σ H2 x y v u Q I2 rx ry q (hs _ _))
def kK(K:Dj):R2:=λx y H Q=>∃p xs i v,x=.ref p/\y=.int i/\ag K H p xs/\bo xs i=some v/\Q v H
def oX(K:Dj):R2:=λx y H Q=>∃p xs i v,x=.ref p/\y=.int i/\aj K H p xs/\bo xs i=some v/\Q v H
def xk:R2:=λx y H Q=>∃z i c,x=.str z/\y=.int i/\z.length<=sizeLine/\bo z.cps.toList i=some c/\Q (.str ⟨#[c]⟩) H
def BI:gD X (kK X.K):=by
 intro value slice pins s σ H x y v u Q I rx ry h hs;obtain⟨p,xs,i,z,rfl,rfl,hq,he,q⟩:=h;cases rx;obtain⟨t,rfl⟩:=ry;obtain⟨its,r,pl,hz⟩:=I.list hq;obtain⟨j,h1,h2,h3,h4,h5⟩:=kB he;obtain⟨w,ew,rw'⟩:=r.get h2;have hl:=r.length;have hn:=fU;have fin:EP X pins σ Q w s:=⟨z,H,I,rw',q⟩;by_cases h0:0<=i
 ·have hj:i.toNat=j:=by rw[seqIndex_of h0 h5]at h1;exact DZ h1
  exact item_listR pl.isList h0 (by omega) (by rw[hj];simpa using ew) fin hs
 ·have hj:(i+(its.toArray.size:Int)).toNat=j:=by rw[seqIndex_neg (by omega) h4]at h1;rw[Du,←hl];exact DZ h1
  exact subscriptTail_builtinR (x:=w) pl.isList.typeIs slot_list_getitem.lookup
   (wpAny_getItem_list_neg (Q:=λr s'=>r=w/\EP X pins σ Q r s') pl.isList (by omega) (by rw[Du]<;>omega) (by omega) (by rw[hj];simpa using ew) ⟨rfl,fin⟩) hs
def xE:gD X (oX X.K):=by
 intro value slice pins s σ H x y v u Q I rx ry h hs;obtain⟨p,xs,i,z,rfl,rfl,hq,he,q⟩:=h;cases rx;obtain⟨t,rfl⟩:=ry;obtain⟨its,r,pl,hz⟩:=I.tuple hq;obtain⟨j,h1,h2,h3,h4,h5⟩:=kB he;obtain⟨w,ew,rw'⟩:=r.get h2;have hl:=r.length;have hn:=fU;have fin:EP X pins σ Q w s:=⟨z,H,I,rw',q⟩;exact subscriptTail_builtinR (x:=w) pl.typeIs slot_tuple_getitem.lookup
  (getItem_tuple (j:=j) (Q:=λr s'=>r=w/\EP X pins σ Q r s') pl (by omega) (by omega) (by rw[Du,←hl];exact h1) (by simpa using ew) ⟨rfl,fin⟩) hs
def vY:gD X xk:=by
 intro value slice pins s σ H x y v u Q I rx ry h hs;obtain⟨z,i,c,rfl,rfl,hz,he,q⟩:=h;obtain⟨t,rfl⟩:=rx;obtain⟨t',rfl⟩:=ry;obtain⟨j,h1,h2,h3,h4,h5⟩:=kB he;have hl:z.cps.toList.length=z.length:=by simp[Str.length]
 rw[hl]at h1 h4 h5;have hn:=fU;exact tail_any (typeIs_str s z t) slot_str_getitem.lookup (getItem_str (c:=c) (by have e1:decide (i < -(2 ^ 63:Int))=false:=El (by omega);have e2:decide (i ≥ 2 ^ 63)=false:=El (by omega);rw[e1,e2,Bool.or_false]) (by rw[h1];simpa using h2) ⟨.str ⟨#[c]⟩,H,I.tok _,⟨_,rfl⟩,q⟩) hs
def xJ(its:List Value)(n j:Nat)(u:Value):Obj.mapSeq (·.setIfInBounds j u) { cls:=.type "list",data:=.seq its.toArray n }={ cls:=.type "list",data:=.seq (its.set j u).toArray n }:=by simp[Obj.mapSeq]
def Inv.lst{pins:List (Addr×Obj)}{σ:St}{H:Hp}{s:Shared}{p:Addr}{xs:List V}(I:Inv X pins σ H s)(h:H p=some (.lst xs)):
  ∃(its:List Value) (n:Nat),Vals xs its/\s.heap.get? p=some { cls:=.type "list",data:=.seq its.toArray n }/\xs.length<=sizeLine:=by
 obtain⟨z,its,n,r,e⟩:=I.hok p _ h;exact⟨its,n,r,e,z⟩
def Inv.lstUpd{pins:List (Addr×Obj)}{σ:St}{H:Hp}{s:Shared}{p:Addr}{xs ys:List V}{its its':List Value}{n n':Nat}{f:Obj->Obj}(I:Inv X pins σ H s)(h:H p=some (.lst xs))
  (ho:s.heap.get? p=some { cls:=.type "list",data:=.seq its.toArray n }) (hf:f { cls:=.type "list",data:=.seq its.toArray n }={ cls:=.type "list",data:=.seq its'.toArray n' }) (r:Vals ys its') (hz:ys.length<=sizeLine) (t:Nat) :
  Inv X pins σ (upd H p (.lst ys)) { s with heap:=s.heap.update p f,toks:=t }:=by
 have e:(s.heap.update p f).get? p=some { cls:=.type "list",data:=.seq its'.toArray n' }:=by rw[Heap.get?_update_self f ho (by rw[hf]<;>rfl),hf]
 refine I.write (x:=p) (e:=p) (by rw[h];trivial) (.inl rfl) (λb u hb q=>(Heap.get?_update_other _ _ (Ne.symm hb)).trans q) ⟨_,e⟩ ?_;exact⟨hz,its',n',r,e⟩
def uC:V->V->V->Hp->(Hp->Prop)->Prop:=λo i v H Q=>∃p xs k j,o=.ref p/\i=.int k/\H p=some (.lst xs)/\dI xs.length k=some j/\Q (upd H p (.lst (xs.set j v)))
def set_list:tM X uC:=by
 intro pins s σ H o i v ov iv u Q I ro ri rv h;obtain⟨p,xs,k,j,rfl,rfl,hp,hj,q⟩:=h;cases ro;obtain⟨t,rfl⟩:=ri;obtain⟨its,n,r,ho,hz⟩:=I.lst hp;obtain⟨h1,h2,h3,h4⟩:=pY hj;have hl:=r.length;have hn:=fU;have I':Inv X pins σ (upd H p (.lst (xs.set j v))) { s with heap:=s.heap.update p (Obj.mapSeq (·.setIfInBounds j u)) }:=
  I.lstUpd hp ho (xJ its n j u) (r.set rv j) (by rw[List.length_set];exact hz) s.toks
 by_cases h0:0<=k
 ·have hk:k.toNat=j:=by rw[seqIndex_of h0 h4]at h1;exact DZ h1
  exact PySem.W.ki_setAt ho h0 (by omega) (by rw[Du,←hl];exact h4) (by rw[hk];exact⟨_,I',q⟩)
 ·have hk:(k+(its.toArray.size:Int)).toNat=j:=by rw[seqIndex_neg (by omega) h3]at h1;rw[Du,←hl];exact DZ h1
  exact PySem.W.ki_setBack ho (by omega) (by rw[Du,←hl];exact h3) (by omega) (by rw[hk];exact⟨_,I',q⟩)
def wM(lo hi:Option Int)(n:Nat):(sliceBounds lo hi none n).1=((HT.bQ n 0 lo:Nat):Int)/\(sliceBounds lo hi none n).2.1=((HT.bQ n n hi:Nat):Int)/\(sliceBounds lo hi none n).2.2=1:=by
 refine⟨?_,?_,rfl⟩
 ·cases lo with
  | none=>simp[sliceBounds,HT.bQ]
  | some i=>
   simp only[sliceBounds,HT.bQ,Option.getD_none,show (1:Int)>0 by decide,if_true];by_cases h:i<0
   ·simp only[h,if_true]<;>omega
   ·simp only[h,if_false]<;>omega
 ·cases hi with
  | none=>simp[sliceBounds,HT.bQ]
  | some i=>
   simp only[sliceBounds,HT.bQ,Option.getD_none,show (1:Int)>0 by decide,if_true];by_cases h:i<0
   ·simp only[h,if_true]<;>omega
   ·simp only[h,if_false]<;>omega
def AN(its:List Value)(lo hi:Option Int):slicePick its.toArray lo hi none=((its.drop (HT.bQ its.length 0 lo)).take (HT.bQ its.length its.length hi-HT.bQ its.length 0 lo)).toArray:=by obtain⟨h1,h2,h3⟩:=wM lo hi its.toArray.size;unfold slicePick;rw[h1,h2,h3];simp only[sliceRange_one,pick_run,Du]<;>rfl
def kJ(K:Dj):V->Option Int->Option Int->Hp->VK->Prop:=λx lo hi H Q=>∃a xs,x=.ref a/\ag K H a xs/\∀p,H p=none->Q (.ref p) (upd H p (.lst (dg xs lo hi)))
def Cv:oE X (kJ X.K):=by intro pins s σ H x v vl vu lo hi sl Q I rx hs pl pu h;obtain⟨a,xs,rfl,hx,q⟩:=h;cases rx;obtain⟨its,r,ht,hz⟩:=I.list hx;have hlen:=r.length;refine⟨"list",_,slot_list_getitem.lookup,ht.isList.typeIs,?_⟩;refine wpAny_getItem_list_slice ht.isList hs pl pu .none (by simp) ?_ (by rw[Du]<;>omega);rw[AN,←hlen];refine⟨.ref s.heap.objs.size,_,I.laid (t':=s.toks) (o:=.lst (dg xs lo hi)) (λb ob q=>Dk _ q) (DI _) ?_,rfl,q _ (I.hok.fresh (DI _))⟩;exact⟨DS (xU xs lo hi) hz,_,0,(r.drop (HT.bQ xs.length 0 lo)).take (HT.bQ xs.length xs.length hi-HT.bQ xs.length 0 lo),Dl _ rfl⟩
def dG:V->Bool
 | .non=>true
 | .bl _=>true
 | .int _=>true
 | .str _=>true
 | _=>false
def fD:V->V->Bool
 | .non,.non=>true
 | .bl a,.bl b=>a == b
 | .bl a,.int b=>(if a then 1 else 0) == b
 | .int a,.bl b=>a == (if b then 1 else 0)
 | .int a,.int b=>a == b
 | .str a,.str b=>a == b
 | _,_=>false
def A2{A:Around}{s:Shared}{y x:V}{u v:Value}(ry:RelV y u)(rx:RelV x v)(fy:dG y=true)(fx:dG x=true):SeqAt.EqAt A s u v (fD y x):=by
 cases y with
 | non=>
  cases ry;cases x with
  | non=>cases rx;exact SeqAt.EqAt.same _
  | bl b=>cases rx;exact SeqAt.EqAt.none_bool b
  | int b=>obtain⟨t,rfl⟩:=rx;exact SeqAt.EqAt.none_int b t
  | str b=>obtain⟨t,rfl⟩:=rx;exact SeqAt.EqAt.none_str b t
  | _=>exact absurd (show false=true from fx) DE
 | bl a=>
  cases ry;cases x with
  | non=>cases rx;exact SeqAt.EqAt.bool_none a
  | bl b=>cases rx;exact SeqAt.EqAt.bool_bool a b
  | int b=>obtain⟨t,rfl⟩:=rx;exact SeqAt.EqAt.bool_int a b t
  | str b=>obtain⟨t,rfl⟩:=rx;exact SeqAt.EqAt.bool_str a b t
  | _=>exact absurd (show false=true from fx) DE
 | int a=>
  obtain⟨t',rfl⟩:=ry;cases x with
  | non=>cases rx;exact SeqAt.EqAt.int_none a t'
  | bl b=>cases rx;exact SeqAt.EqAt.int_bool a t' b
  | int b=>obtain⟨t,rfl⟩:=rx;exact SeqAt.EqAt.int_int a t' b t
  | str b=>obtain⟨t,rfl⟩:=rx;exact SeqAt.EqAt.int_str a t' b t
  | _=>exact absurd (show false=true from fx) DE
 | str a=>
  obtain⟨t',rfl⟩:=ry;cases x with
  | non=>cases rx;exact SeqAt.EqAt.str_none a t'
  | bl b=>cases rx;exact SeqAt.EqAt.str_bool a t' b
  | int b=>obtain⟨t,rfl⟩:=rx;exact SeqAt.EqAt.str_int a t' b t
  | str b=>obtain⟨t,rfl⟩:=rx;exact SeqAt.EqAt.str_str a t' b t
  | _=>exact absurd (show false=true from fx) DE
 | _=>exact absurd (show false=true from fy) DE
def eT(x:V)(u:Value):Bool:=match u with
 | .none=>fD .non x
 | .bool b=>fD (.bl b) x
 | .int i _=>fD (.int i) x
 | .str z _=>fD (.str z) x
 | _=>false
def wF{x y:V}{u:Value}(r:RelV y u)(f:dG y=true):eT x u=fD y x:=by
 cases y with
 | non=>cases r;rfl
 | bl b=>cases r;rfl
 | int i=>obtain⟨t,rfl⟩:=r;rfl
 | str z=>obtain⟨t,rfl⟩:=r;rfl
 | _=>exact absurd (show false=true from f) DE
def mx{x:V}:∀{xs:List V} {us:List Value},Vals xs us->xs.all dG=true->us.any (eT x)=xs.any λy=>fD y x
 | _,_,.nil,_=>rfl
 | y::xs,u::us,.cons r t,f=>by rw[List.all_cons,DX]at f;rw[List.any_cons,List.any_cons,wF r f.1,mx t f.2]
def nh{A:Around}{s:Shared}{x:V}{v:Value}(rx:RelV x v)(fx:dG x=true):∀{xs:List V} {us:List Value},Vals xs us->xs.all dG=true->∀u∈us,SeqAt.EqAt A s u v (eT x u)
 | _,_,.nil,_=>λu hu=>by cases hu
 | y::xs,u::us,.cons r t,f=>λu' hu=>by
  rw[List.all_cons,DX]at f;rcases DD.mp hu with rfl|hu
  ·rw[wF r f.1];exact A2 r rx f.1 fx
  ·exact nh rx fx t f.2 u' hu
def ip(x:V)(xs:List V):Bool:=xs.any λy=>fD y x
def ny(K:Dj)(neg:Bool):R2:=λx y H Q=>∃p xs,y=.ref p/\(ag K H p xs\/aj K H p xs)/\dG x=true/\xs.all dG=true/\Q (.bl (if neg then !ip x xs else ip x xs)) H
def Ah:aY X (compareOp .In) (ny X.K false):=by
 intro pins s σ H x y v u Q I rx ry h;obtain⟨p,xs,rfl,hq,fx,fs,q⟩:=h;cases ry;rcases hq with hq|hq
 ·obtain⟨its,r,pl,hz⟩:=I.list hq;refine SeqAt.in_listAt (eT x) pl.isList (λw hw=>nh rx fx r fs w (by simpa using hw)) ⟨.bl _,H,I,rfl,?_⟩;rw[show its.toArray.any (eT x)=its.any (eT x) by simp,mx r fs];exact q
 ·obtain⟨its,r,pl,hz⟩:=I.tuple hq;refine SeqAt.in_tupleAt (eT x) pl (λw hw=>nh rx fx r fs w (by simpa using hw)) ⟨.bl _,H,I,rfl,?_⟩;rw[show its.toArray.any (eT x)=its.any (eT x) by simp,mx r fs];exact q
def yY:b9 X (.builtin "len") (λxs H Q=>∃p ys,xs=[.ref p]/\(ag X.K H p ys\/aj X.K H p ys)/\Q (.int ys.length) H):=by
 intro pins s σ H xs us Q I r h;obtain⟨p,ys,rfl,hq,q⟩:=h;obtain⟨u,rfl,rx⟩:=vals1 r;cases rx;have hn:=fU;rcases hq with hq|hq
 ·obtain⟨its,r',pl,hz⟩:=I.list hq;have hlen:=r'.length;exact Calls.call_len_list pl.isList (by simp only[Du]<;>omega) ⟨.int ys.length,H,I.tok _,⟨s.toks+1,by rw[Du,hlen]⟩,q⟩
 ·obtain⟨its,r',pl,hz⟩:=I.tuple hq;have hlen:=r'.length;exact len_tuple pl (by simp only[Du]<;>omega) ⟨.int ys.length,H,I.tok _,⟨s.toks+1,by rw[Du,hlen]⟩,q⟩
def zc:b9 X (.builtin "len") (λxs H Q=>∃z,xs=[.str z]/\z.length<=sizeLine/\Q (.int z.length) H):=by intro pins s σ H xs us Q I r h;obtain⟨z,rfl,hz,q⟩:=h;obtain⟨u,rfl,t,rfl⟩:=vals1 r;have hn:=fU;exact len_str (by omega) ⟨.int z.length,H,I.tok _,⟨_,rfl⟩,q⟩
def Co:b9 X (.type "tuple") (λxs H Q=>∃p ys,xs=[.ref p]/\((ag X.K H p ys/\∀l,H l=none->Q (.ref l) (upd H l (.tup ys)))\/(aj X.K H p ys/\Q (.ref p) H))):=by
 intro pins s σ H xs us Q I r h;obtain⟨p,ys,rfl,h⟩:=h;obtain⟨u,rfl,rx⟩:=vals1 r;cases rx;rcases h with⟨hq,q⟩|⟨hq,q⟩
 ·obtain⟨its,r',pl,hz⟩:=I.list hq;have hlen:=r'.length;refine call_tuple_list pl.isList (λh' kp=>?_) (by simp only[Du]<;>omega);have I1:Inv X pins σ H { s with heap:=h' }:=I.kept (t':=s.toks) kp;have I2:Inv X pins σ (upd H h'.objs.size (.tup ys)) { s with heap:=h'.push { cls:=.type "tuple",data:=.seq its.toArray } }:=
   I1.laid (t':=s.toks) (λb o e=>Dk _ e) (DI _) (show bj X.prog X.w _ _ _ (.tup ys)from⟨hz,its,r',IsTup.new _ _⟩)
  exact⟨.ref h'.objs.size,_,I2,rfl,q _ (I1.hok.fresh (DI _))⟩
 ·obtain⟨its,r',pl,hz⟩:=I.tuple hq;exact call_tuple_same pl ⟨.ref p,H,I,rfl,q⟩
def iT(K:Dj)(T:String)(x:V)(H:Hp):Prop:=match x with
 | .str _=>T = "str"
 | .int _=>T = "int"
 | .ref p=>(T = "list"/\∃xs,ag K H p xs)\/(T = "tuple"/\∃o,K.lookup p=some o/\o.cls=.type "tuple"/\o.dict=none) ∨
   (T = "dict"/\((∃kvs,H p=some (.dK kvs))\/∃kvs,H p=some (.dT kvs)))\/(T = "set"/\∃S n,H p=some (.set S n))
 | _=>False
def BM{pins:List (Addr×Obj)}{σ:St}{H:Hp}{s:Shared}{T:String}{x:V}{v:Value}(I:Inv X pins σ H s)(r:RelV x v)(ty:iT X.K T x H):
  s.TypeIs v T/\∀a,v=.ref a->∃ob,s.heap.get? a=some ob/\ob.dict=none:=by
 cases x with
 | str z=>
  obtain⟨t,rfl⟩:=r;cases(show T = "str" from ty);exact⟨typeIs_str s z t,λ_ e=>nomatch e⟩
 | int i=>
  obtain⟨t,rfl⟩:=r;cases(show T = "int" from ty);exact⟨typeIs_int s i t,λ_ e=>nomatch e⟩
 | ref p=>
  cases r;rcases ty with⟨rfl,xs,hq⟩|⟨rfl,o,hk,hc,hd⟩|⟨rfl,hk⟩|⟨rfl,S,n,hk⟩
  ·obtain⟨its,_,pl,_⟩:=I.list hq;refine⟨pl.isList.typeIs,λa e=>?_⟩;cases e;obtain⟨o,n,e,c,hd,_⟩:=pl;exact⟨o,e,hd⟩
  ·refine⟨⟨o,I.kIn p o hk,hc⟩,λa e=>?_⟩;cases e;exact⟨o,I.kIn _ o hk,hd⟩
  ·have z:∃o,s.heap.get? p=some o/\o.ExactDict:=by
    rcases hk with⟨kvs,hk⟩|⟨kvs,hk⟩
    ·obtain⟨_,_,_,_,o,_,_,e,ex,_⟩:=I.hok p _ hk;exact⟨o,e,ex⟩
    ·obtain⟨_,_,_,_,o,_,_,e,ex,_⟩:=I.hok p _ hk;exact⟨o,e,ex⟩
   obtain⟨o,e,ex⟩:=z;refine⟨⟨o,e,ex.1⟩,λa e2=>?_⟩;cases e2;exact⟨o,e,ex.2.1⟩
  ·obtain⟨o,_,_,_,e,ex,_⟩:=I.hok p _ hk;refine⟨⟨o,e,ex.1⟩,λa e2=>?_⟩;cases e2;exact⟨o,e,ex.2.1⟩
 | _=>exact False.elim ty
def ml(K:Dj)(T:String)(r:V->List V->Hp->VK->Prop)(to:TE)(t:TA):TE:=λσ H Q=>to σ H λx H1=>iT K T x H1/\t σ H1 λxs H2=>r x xs H2 Q
variable {o e:Expr} {es:List Expr} {to:TE} {t:TA} {name:Str} {apos cpos:Pos} {T id:String} {r:V->List V->Hp->VK->Prop}
def BO(pa:PlainAttrs T)(slot:Slot T name id)(hty:typeOf (.builtin id)=pure (.type "method_descriptor"))(hm:lD X id r)(ho:PE X o to)(ha:PA X (e::es) t)
  (hbase:attributeBase o name X.env (eval o X.env)=eval o X.env:=by rfl)
  (hfew:((backTo cpos (starEach (e::es) X.env)).all (λx=>!x.1) && (backToKw cpos (keywordEach [] X.env)).all (λx=>x.1.isSome)
   && decide ((e::es).length+([]:List Keyword).length+(if([]:List Keyword).isEmpty then 0 else 1)<30))=true:=by rfl)
  (hline:(apos.endLine == cpos.line)=true:=by rfl) (hs:starEach (e::es) X.env=(false,eval e X.env)::starEach es X.env:=by rfl) (hplain:(backTo cpos (starEach es X.env)).any (·.1)=false:=by rfl) :
  PE X (.Call (.Attribute o name apos) (e::es) [] cpos) (ml X.K T r to t):=by
 intro pins s σ H Q I h;refine wpAny_Call_method_late hbase hfew hline rfl (aw (ho pins s σ H _ I h) λv s1 ⟨x,H1,I1,r1,ty,q1⟩=>?_);obtain⟨h1,h2⟩:=BM I1 r1 ty;refine⟨T,id,pa,slot,hty,h1,h2,?_⟩;have hA:=ha cpos pins s1 σ H1 _ I1 q1;rw[hs]at hA ⊢;refine Calls.callWith_builtin (by show(false || (backTo cpos (starEach es X.env)).any (·.1))=false;rw[hplain]<;>rfl) (Calls.evalArgs_plain ?_);exact aw hA λus s2 ⟨vs,H2,I2,r2,q2⟩=>hm pins s2 σ H2 x vs v us Q I2 r1 r2 q2
end
def qH(X:Cx)(id:String)(r:V->List V->Hp->VK->Prop):Prop:=
 ∀(pins:List (Addr×Obj)) (s:Shared) (σ:St) (H:Hp) (x:V) (xs:List V) (v:Value) (us:List Value) (Q:VK),Inv X pins σ H s->RelV x v->Vals xs us->r x xs H Q →
  wpAny (model X.prog X.w) X.A (call (.builtin id) (v::us)) (EP X pins σ Q) X.xe s
def Vals.one:∀{x:V} {us:List Value},Vals [x] us->∃u,us=[u]/\RelV x u:=vals1
def Vals.rep{xs:List V}{us:List Value}(h:Vals xs us):∀k:Nat,Vals (Ec k xs).flatten (Ec k us).flatten
 | 0=>.nil
 | k+1=>by rw[List.replicate_succ,List.replicate_succ,List.flatten_cons,List.flatten_cons];exact Vals.append h (Vals.rep h k)
def foldl_rep(its:List Value):∀(k:Nat) (acc:List Value),
  List.foldl (λx1 x2=>x1++x2) acc.toArray (Ec k its.toArray)=(acc++(Ec k its).flatten).toArray
 | 0,acc=>by simp
 | k+1,acc=>by
  have e:acc.toArray++its.toArray=(acc++its).toArray:=by simp
  have e2:(acc++its)++(Ec k its).flatten=acc++(Ec (k+1) its).flatten:=by rw[List.replicate_succ,List.flatten_cons,List.append_assoc]
  rw[←e2,←foldl_rep its k (acc++its),←e,List.replicate_succ,List.foldl_cons]
section
variable {X:Cx} {pins:List (Addr×Obj)} {σ:St} {H:Hp} {s:Shared} {l b:Addr} {xs ys zs:List V}
def Inv.lset{its its':List Value}{n:Nat}{f:Array Value->Array Value}{t':Nat}(I:Inv X pins σ H s)(hH:H l=some (.lst xs))
  (e:s.heap.get? l=some { cls:=.type "list",data:=.seq its.toArray n }) (hf:f its.toArray=its'.toArray) (hv:Vals ys its') (hz:ys.length<=sizeLine) :
  Inv X pins σ (upd H l (.lst ys)) { s with heap:=s.heap.update l (Obj.mapSeq f),toks:=t' }:=by
 have q:=PySem.IsL.update e f;rw[hf]at q;refine I.write (x:=l) (e:=l) (by rw[hH];exact trivial) (.inl rfl) (λb' u hb hu=>(Heap.get?_update_other s.heap (Obj.mapSeq f) (Ne.symm hb)).trans hu) ⟨_,q⟩ ?_;exact⟨hz,its',_,hv,q⟩
def Inv.lnew{its:List Value}{t':Nat}(I:Inv X pins σ H s)(hv:Vals ys its)(hz:ys.length<=sizeLine):
  Inv X pins σ (upd H s.heap.objs.size (.lst ys)) { s with heap:=s.heap.push { cls:=.type "list",data:=.seq its.toArray },toks:=t' }:=
 I.laid (λ_ _ q=>Dk _ q) (DI _) ⟨hz,its,0,hv,Dl _ rfl⟩
def Inv.fresh(I:Inv X pins σ H s):H s.heap.objs.size=none:=I.hok.fresh (DI _)
def Inv.lstM(I:Inv X pins σ H s)(hH:H l=some (.lst xs)):xs.length<=sizeLine/\∃(its:List Value) (n:Nat),Vals xs its/\xs.length=its.length/\s.heap.get? l=some { cls:=.type "list",data:=.seq its.toArray n }:=by obtain⟨z,its,n,r,e⟩:=I.hok l _ hH;exact⟨z,its,n,r,r.length,e⟩
def pB{n:Nat}(h:n<=sizeLine):Builtin.List.listTooLong n=false:=by unfold Builtin.List.listTooLong;exact El (by omega)
end
section
variable {X:Cx}
def vV:V->List V->Hp->VK->Prop:=λx vs H Q=>∃l xs y,x=.ref l/\vs=[y]/\H l=some (.lst xs)/\xs.length<sizeLine/\Q .non (upd H l (.lst (xs++[y])))
def b0:qH X "list.append" vV:=by intro pins s σ H x vs v us Q I rx rv h;obtain⟨l,xs,y,rfl,rfl,hH,hz,q⟩:=h;cases rx;obtain⟨u,rfl,ru⟩:=rv.one;obtain⟨z,its,n,r,hl,e⟩:=I.lstM hH;refine call_meets F.slot_list_append ⟨_,e,rfl⟩ F.entry_list_append (F.args_list_append_2 _ _) (PySem.list_append l its.toArray n u (by rw[Du];omega)) ⟨e,?_⟩;refine⟨.non,_,I.lset (its':=its++[u]) hH e (by simp) (r.append (.cons ru .nil)) ?_,rfl,q⟩;rw[DG,List.length_singleton];omega
def Ac:V->List V->Hp->VK->Prop:=λx vs H Q=>∃l b xs zs,x=.ref l/\vs=[.ref b]/\H l=some (.lst xs)/\H b=some (.lst zs)/\xs.length+zs.length<=sizeLine/\Q .non (upd H l (.lst (xs++zs)))
def za:qH X "list.extend" Ac:=by
 intro pins s σ H x vs v us Q I rx rv h;obtain⟨l,b,xs,zs,rfl,rfl,hH,hB,hz,q⟩:=h;cases rx;obtain⟨u,rfl,ru⟩:=rv.one;cases ru;obtain⟨z,its,n,r,hl,e⟩:=I.lstM hH;obtain⟨z2,its2,n2,r2,hl2,e2⟩:=I.lstM hB;have hsz:its.toArray.size+its2.toArray.size<=sizeLine:=by rw[Du,Du];omega
 have hlong:¬(!its.toArray.isEmpty && Builtin.List.listTooLong (its.toArray.size+its2.toArray.size))=true:=by rw[pB hsz,Bool.and_false];exact DE
 refine call_meets F.slot_list_extend ⟨_,e,rfl⟩ F.entry_list_extend (F.args_list_extend_2 _ _)
  (AutoSeq1.list_extend_list_list_0 l its.toArray n b its2.toArray n2 hlong (by rw[Du];omega) (by omega)) ⟨e,e2,?_⟩
 refine⟨.non,_,I.lset (its':=its++its2) hH e (by simp) (r.append r2) ?_,rfl,q⟩;rw[DG];omega
def pT:R2:=λx y H Q=>∃l b xs zs,x=.ref l/\y=.ref b/\H l=some (.lst xs)/\H b=some (.lst zs)/\xs.length+zs.length<=sizeLine/\∀p,H p=none->Q (.ref p) (upd H p (.lst (xs++zs)))
def ke:aY X (binaryOp .Add) pT:=by
 intro pins s σ H x y v u Q I rx ry h;obtain⟨l,b,xs,zs,rfl,rfl,hH,hB,hz,q⟩:=h;cases rx;cases ry;obtain⟨z,its,n,r,hl,e⟩:=I.lstM hH;obtain⟨z2,its2,n2,r2,hl2,e2⟩:=I.lstM hB;refine PySem.P.add_list e e2 ?_ (by rw[Du,Du];omega);have ea:its.toArray++its2.toArray=(its++its2).toArray:=by simp
 rw[ea];exact⟨.ref _,_,I.lnew (t':=s.toks) (r.append r2) (by rw[DG];omega),rfl,q _ I.fresh⟩
def rD:R2:=λx y H Q=>∃l k xs,x=.ref l/\y=.int k/\H l=some (.lst xs)/\-(2 ^ 63)<=k/\k<2 ^ 63/\xs.length*k.toNat<=sizeLine ∧
 ∀p,H p=none->Q (.ref p) (upd H p (.lst (Ec k.toNat xs).flatten))
def len_rep{α:Type}(xs:List α)(k:Nat):(Ec k xs).flatten.length=k*xs.length:=by
 induction k with
 | zero=>simp
 | succ k ih=>rw[List.replicate_succ,List.flatten_cons,DG,ih,Nat.succ_mul,Nat.add_comm]
def i7:aY X (binaryOp .Mult) rD:=by
 intro pins s σ H x y v u Q I rx ry h;obtain⟨l,k,xs,rfl,rfl,hH,h1,h2,hz,q⟩:=h;cases rx;obtain⟨t,rfl⟩:=ry;obtain⟨z,its,n,r,hl,e⟩:=I.lstM hH;have hlen:its.toArray.size*k.toNat<=sizeLine:=by rw[Du,←hl];exact hz
 have hcap:¬its.toArray.size*k.toNat>(2 ^ 63-1) / 8:=by
  have:(sizeLine:Nat)<=(2 ^ 63-1) / 8:=by decide
  omega
 have hfit:¬(!Builtin.List.listFitsIndex k)=true:=by rw[fitsIndex_both h1 h2];exact DE
 have hlong:¬Builtin.List.listTooLong (its.toArray.size*k.toNat)=true:=by rw[pB hlen];exact DE
 have hnew:List.foldl (λx1 x2=>x1++x2) #[] (Ec (if its.toArray.isEmpty=true then 0 else k.toNat) its.toArray)=(Ec k.toNat its).flatten.toArray:=by
  have f0:∀m:Nat,List.foldl (λx1 x2=>x1++x2) #[] (Ec m its.toArray)=(Ec m its).flatten.toArray:=λm=>by have:=foldl_rep its m [];rw[List.nil_append]at this;exact this
  rw[f0];cases its with
  | nil=>simp
  | cons a r'=>rw[En (by simp)]
 refine wpAny_binaryOp_repeat_ref (T:="list") (U:="int") (by decide) ⟨_,e,rfl⟩ (λs'=>typeIs_int s' k t) noFill_list_mul F.fills_int_mul F.slot_int_rmul repeat_list F.slot_int_index.lookup
  (call_meets F.slot_int_rmul (typeIs_int s k t) F.entry_int_rmul (F.args_int_rmul_2 _ _) (int___rmul___int_list k t l its.toArray n)
   ⟨e,rfl,⟨_,e,rfl⟩,call_meets F.slot_list_mul ⟨_,e,rfl⟩ F.entry_list_mul (F.args_list_mul_2 _ _) (AutoListH.list___mul___list_int_3 l its.toArray n k t hfit hcap hlong) ⟨e,?_⟩⟩)
 rw[hnew];exact⟨.ref _,_,I.lnew (t':=s.toks) (r.rep k.toNat) (by rw[len_rep,Nat.mul_comm];exact hz),rfl,q _ I.fresh⟩
end
section
variable {prog:Program} {w:World} {A:Around} {E:Value->Shared->Prop} {s:Shared}
end
section
variable {X:Cx}
end
end L2
namespace Att
open PySem PySem.W PySem.Calls PyProof.Rows
def Bo{P:Params}{h:Heap}:∀(ns:List Int) (vs:List Value),WellAll P h vs (ns.map WData.int)->IntsAre vs ns:=by
 intro ns;induction ns with
 | nil=>
  intro vs w;rw[List.map_nil]at w;cases w;exact .nil
 | cons n ns ih=>
  intro vs w;rw[List.map_cons]at w;cases w with
  | cons a b=>
   cases a;exact .cons _ _ (ih _ b)
def Bk{l:OpenLaw}{n:Nat}(hn:l.most=some n){P:Params}{h:Heap}{args:List WData}{vals:List Value}
  (hpre:l.row.toRowW.claim.pre args=true) (hwl:WellAll P h vals args) :
  ∃a vs ns,vals=[Value.ref a]/\args=[WData.list (ns.map WData.int)]/\h.get? a=some { cls:=.type "list",data:=.seq vs.toArray }/\IntsAre vs ns/\ns.length<=n:=by
 have hsh:WShape.hasAll [] args [.list .int]=true:=(pre_splitW hpre).1;have hc:l.pre.holds [] { args:=args }=true:=(pre_splitW hpre).2;obtain⟨d,r,rfl,h1,h2⟩:=hasAllW_cons hsh;obtain rfl:=hasAllW_nil h2;obtain⟨xs,rfl,h3⟩:=hasW_list h1;obtain⟨ns,rfl⟩:=items_int h3;have hlen:ns.length<=n:=by
  unfold OpenLaw.pre at hc;have h4:(WTm.not (.lt (.lit (.int (n:Int))) (.len (.arg 0)))).holds [] { args:=[.list (ns.map .int)] }=true:=by have h4:=(holds_andW hc).1;rw[hn]at h4;exact h4
  have h5:=condW_of h4 (w_not (w_lt w_lit (w_len_list (w_arg rfl))));rw[Dn]at h5;refine Nat.le_of_not_lt λq=>?_;have q':(n:Int)<((ns.length:Nat):Int):=by omega
  first
   | (rw[Em q']at h5;exact absurd h5 (by decide))
   | (simp at h5;omega)
 cases hwl with
 | cons w1 w2=>
  cases w2;cases w1 with
  | list ho hall=>exact⟨_,_,ns,rfl,rfl,ho,Bo ns _ hall,hlen⟩
def zY(l:OpenLaw)(args:List WData):l.row.toRowW.claim.post args (.bool true) args=true:=
 postW_of (r:=l.row.toRowW) (X:=(true == true))
  (show WShape.has [] (.bool true) .bool=true by first|rfl|decide|simp [WShape.has,WShape.arms,WShape.armsAll])
  (show(WTm.eq .res (.lit (.bool true))).value [] { args:=args,res:=some (.bool true),after:=args }=some (.bool (true == true))from w_eq_bool (w_res rfl) w_lit) rfl
def zh{l:OpenLaw}{n:Nat}{q:Program}{loose:List Str}{XP:(Str->Option Value)->Heap->Prop}{YP:World->Heap->Prop}{d:DefRec}
  (hn:l.most=some n) (hdf:d.params.defaults=[])
  (call:∀(w:World) (s₀ s₁:Shared) (mg mb:Str->Option Value) (fa:Addr) (o:Obj) (pm cd doc:Value) (a:Addr) (vs:List Value) (ns:List Int),
   Ground q loose [] XP w s₀ mg mb s₁.heap->YP w s₁.heap →
   s₁.heap.get? fa=some o->o.data=.func (docDef d.name d.params d.body d.scope pm cd doc)->s₁.heap.CodeRec cd d.name->mg d.name=some (.ref fa) →
   s₁.heap.get? a=some { cls:=.type "list",data:=.seq vs.toArray }->IntsAre vs ns->ns.length<=n->s₁.gens = #[] →
   codeAny (model l.prog w) callerA (.call (.ref fa) ⟨[.ref a],[]⟩) (λr s'=>r=.ok (.ret (.bool true))/\OldK s₁.heap s'.heap/\s'.os=s₁.os/\AllBare s'.gens) s₁) :
  WalkO q loose XP YP l.row.toRowW d [] (λf vs=>PySem.call f vs):=by
 intro w s₀ s₁ mg mb G Y fa o pm cd doc dV kV ho hd hcd hD hmg hg args vals as hpre hlay hrd hwl hlo;obtain rfl:dV=.none:=Dflts.none hD hdf;obtain rfl:kV=.none:=Dflts.noKw hD;obtain⟨a,vs,ns,rfl,rfl,hobj,hints,hlen⟩:=Bk hn hpre hwl;refine enter_call (codeAny_mono (call w s₀ s₁ mg mb fa o pm cd doc a vs ns G Y ho (fd_plain hd) hcd hmg hobj hints hlen hg) λr s' hq=>?_);obtain⟨rfl,h2,h3,h4⟩:=hq;exact⟨.inl ⟨.bool true,.bool true,[],rfl,λ_=>rfl,.bool true,zY l _,λ_=>⟨List.Pairwise.nil,λ_ hm=>(nomatch hm)⟩⟩,h2,h3,h4⟩
section
variable {prog:Program} {w:World} {A:Around} {E:Value->Shared->Prop} {s:Shared} {K:Frag}
end
end Att
namespace L2
open PySem PySem.Spec PyProof.Rows
def sk:∀{vs:List Value} {ns:List Int},IntsAre vs ns->Vals (ns.map V.int) vs
 | _,_,.nil=>.nil
 | _,_,.cons n t h=>.cons ⟨t,rfl⟩ (sk h)
def fu(s:Stmt):Arguments:=match s with
 | .FunctionDef _ a _ _ _ _ _ _ _ _=>a
 | _=>{ posonlyargs:=[],args:=[],vararg:=none,kwonlyargs:=[],kw_defaults:=[],kwarg:=none,defaults:=[] }
def dA(s:Stmt):List Stmt:=match s with
 | .FunctionDef _ _ b _ _ _ _ _ _ _=>b
 | _=>[]
def aC(s:Stmt):Scope:=match s with
 | .FunctionDef _ _ _ _ _ _ sc _ _ _=>sc
 | _=>{ kind:=.function,names:=[],isGenerator:=false,isCoroutine:=false }
abbrev cy:eM:=λ_ _ _ _ _ _=>False
abbrev E0:XK:=λ_ _ _=>False
def AM{X:Cx}:Passes cy X E0:=λ_ _ _ _ _ _ _ h=>h.elim
structure Fun(K:Dj)(x qual:Str)(st:Stmt)(f:Addr)(fd:FuncData):Prop where
 ex:∃(oc:Value) (od:Option Addr) (kV doc pm:Value) (an:Option Addr) (cdv ct:Value) (osl:Array (Option Value)),
  fd=PySem.W.fnOf x qual (fu st) (dA st) (aC st) .none kV doc pm an cdv ct/\K.lookup f=some ⟨oc,od,.func fd,osl⟩/\PySem.W.codeIn K cdv qual=true
 kp:PySem.W.keepIn K (.ref f)=true
section
variable {P:Program} {w:World} {K:Dj} {mg:Str->Option Value} {base:Heap}
def Fun.ok{x qual:Str}{st:Stmt}{f:Addr}{fd:FuncData}{N ps:List Str}{k:Nat}{sp:Sp}(F:Fun K x qual st f fd)(S:FnScope N ps (aC st))(len:∀vs H Q E,sp vs H Q E->vs.length=ps.length)
  (hbody:∀(cdv:Value) (A:Around) (outer:List Env) (s:Shared) (H:Hp) (vs:List V) (Q:VK) (E:XK),Room k (A.deeper (envOfC qual (aC st) s.heap.objs.size f cdv))->sp vs H Q E →
   ∃t,cj (eo cy P w K mg base N qual (aC st) f cdv A outer s H E).nox (dA st) t/\t { nx:=λ_ H'=>Q .non H',rt:=Q } (start N vs) H):FnOk P w K mg base cy (k+1) f fd ps sp:=by
 obtain⟨oc,od,kV,doc,pm,an,cdv,ct,osl,rfl,lk,hcd⟩:=F.ex;refine rB lk hcd S len λA outer s H vs Q E hr hsp=>?_;obtain⟨t,h,q⟩:=hbody cdv A outer s H vs Q E hr hsp;exact⟨t,h.nox,q⟩
def Fun.binds{x qual:Str}{st:Stmt}{f:Addr}{fd:FuncData}{ps:List Str}(F:Fun K x qual st f fd)
  (h:∀(kV doc pm:Value) (an:Option Addr) (cdv ct:Value) (us:List Value),us.length=ps.length->bindArgs (PySem.W.fnOf x qual (fu st) (dA st) (aC st) .none kV doc pm an cdv ct) ⟨us,[]⟩=pure (ps.zip us)):Binds K fd ps []:=by
 obtain⟨oc,od,kV,doc,pm,an,cdv,ct,osl,rfl,lk,hcd⟩:=F.ex;exact .all (h kV doc pm an cdv ct)
def uB{x qual:Str}{st:Stmt}{f:Addr}{oc:Value}{od an:Option Addr}{osl:Array (Option Value)}{kV doc pm cdv ct:Value}(l:K.lookup f=some ⟨oc,od,.func (PySem.W.fnOf x qual (fu st) (dA st) (aC st) .none kV doc pm an cdv ct),osl⟩)
  (c:PySem.W.codeIn K cdv qual=true) (k:PySem.W.keepIn K (.ref f)=true):Fun K x qual st f (PySem.W.fnOf x qual (fu st) (dA st) (aC st) .none kV doc pm an cdv ct):=⟨⟨oc,od,kV,doc,pm,an,cdv,ct,osl,rfl,l,c⟩,k⟩
end
def n8{A:Around}{k:Nat}(hr:Room k A):A.units+1<cLine:=Nat.lt_of_le_of_lt (Nat.add_le_add_left (by decide:1<=64) _) hr.units
section
variable {X:Cx}
def pv(i:Nat){x:Str}{pos:Pos}(hN:X.N[i]?=some x:=by rfl)(hv:jM X.env.scope x:=by first|exact Or.inl rfl|exact Or.inr (Or.inl rfl)|exact Or.inr (Or.inr rfl))(hd:(x == ("__debug__":Str))=false:=by decide)
  (hcd:(x == ("__classdict__":Str))=false:=by decide):PE X (.Name x pos) (iO i):=m9 hN hv hd hcd
end
def aF{A B:Prop}(h:B):if false=true then A else B:=by rw[En DE];exact h
def aI{A B:Prop}(h:A):if true=true then A else B:=by rw[Eo rfl];exact h
def eX{c A B:Prop}[Decidable c](h1:c->A)(h2:¬c->B):if c then A else B:=by
 by_cases h:c
 ·rw[Eo h];exact h1 h
 ·rw[En h];exact h2 h
structure Blk where
 s:Shared
 H:Hp
 fp:List Addr
 C:Addr
def cG(names:List (Str×NameKind))(cells:List (Str×Addr)):List (Str×Addr):=
 names.foldl (λacc p=>if p.2 == .free then(p.1,(cells.lookup p.1).getD 0)::acc else acc) []
def yG(sc out:Scope):Bool:=sc.names.all λp=>p.2 != .cell && (p.2 != .local || sc.names.lookup p.1 == some .local) && (p.2 != .free || out.names.lookup p.1 == some .cell || out.names.lookup p.1 == some .free)
def jr(sc:Scope)(N:List Str)(js:List Nat):Bool:=js.all λj=>decide (j<N.length) && (sc.names.lookup (N.getD j "") == some .free)
def cD(n:Nat)(js:List Nat)(σ:St):St:=Ec n none++js.map λj=>(σ[j]?).join
def kx(cells:List (Str×Addr)):∀(names:List (Str×NameKind)) (acc:List (Str×Addr)) (x:Str) (c:Addr),
  (names.foldl (λacc p=>if p.2 == .free then(p.1,(cells.lookup p.1).getD 0)::acc else acc) acc).lookup x=some c →
  ((x,NameKind.free)∈names/\c=(cells.lookup x).getD 0)\/acc.lookup x=some c
 | [],acc,x,c,h=>.inr h
 | (n,k)::r,acc,x,c,h=>by
  rw[List.foldl_cons]at h;rcases kx cells r _ x c h with⟨h1,h2⟩|h1
  ·exact .inl ⟨Ds _ h1,h2⟩
  ·cases hk:(k == NameKind.free)with
   | false=>
    simp only[hk]at h1;exact .inr h1
   | true=>
    simp only[hk,if_true]at h1;rw[Eg]at h1;cases hx:(x == n)with
    | false=>rw[hx]at h1;exact .inr h1
    | true=>
     rw[hx]at h1;have e1:x=n:=by simpa using hx
     have e2:k=.free:=by simpa using hk
     subst e1 e2;exact .inl ⟨Dv,(DZ h1).symm⟩
def wH(cells:List (Str×Addr)):∀(names:List (Str×NameKind)) (acc:List (Str×Addr)) (x:Str),
  ((x,NameKind.free)∈names\/(acc.lookup x).isSome=true)->((names.foldl (λacc p=>if p.2 == .free then(p.1,(cells.lookup p.1).getD 0)::acc else acc) acc).lookup x).isSome=true
 | [],acc,x,h=>by
  rcases h with h|h
  ·simp at h
  ·exact h
 | (n,k)::r,acc,x,h=>by
  rw[List.foldl_cons];apply wH cells r;rcases h with h|h
  ·rcases DD.mp h with e|h
   ·right;cases e;simp[Eg]
   ·exact .inl h
  ·right;cases hk:(k == NameKind.free)with
   | false=>simpa[hk]using h
   | true=>
    simp only[hk,if_true,Eg];cases hx:(x == n)with
    | true=>rfl
    | false=>exact h
def nj{env:Env}{sc:Scope}(h:∀p∈sc.names,p.2=.free->∃c,env.cells.lookup p.1=some c):closureFor sc env=pure (cG sc.names env.cells):=by
 have go:∀(names:List (Str×NameKind)) (acc:List (Str×Addr)),(∀p∈names,p.2=NameKind.free->∃c,env.cells.lookup p.1=some c) →
   (forIn names acc λ(p:Str×NameKind) (r:List (Str×Addr))=>(match p with|(name,kind)=>if(kind == NameKind.free)=true then do let c ←cellOf env name;pure (ForInStep.yield ((name,c)::r))else pure (ForInStep.yield r):Sem _)) =
   pure (names.foldl (λacc p=>if p.2 == .free then(p.1,(env.cells.lookup p.1).getD 0)::acc else acc) acc):=by
  intro names;induction names with
  | nil=>intro acc _;rfl
  | cons p r ih=>
   intro acc hp;obtain⟨n,k⟩:=p;rw[List.forIn_cons,List.foldl_cons];cases hk:(k == NameKind.free)with
   | false=>
    simp only[hk,Ed,if_false];exact ih acc λq hq=>hp q (Ds _ hq)
   | true=>
    obtain⟨c,hc⟩:=hp (n,k) Dv (by simpa using hk);have e:cellOf env n=pure c:=by unfold cellOf;rw[show env.cells.lookup n=some c from hc]
    simp only[hk,if_true,e];have hc':env.cells.lookup n=some c:=hc;rw[hc'];exact ih _ λq hq=>hp q (Ds _ hq)
 unfold closureFor cG;have:=go sc.names [] h;simp only[this];rfl
def iF(X:Cx)(ifs:List Expr)(t:TT):Prop:=
 ∀(pins:List (Addr×Obj)) (s:Shared) (σ:St) (H:Hp) (Q:Bool->Hp->Prop),Inv X pins σ H s->t σ H Q →
  wpAny (model X.prog X.w) X.A (forIn ifs true λc r=>if r=true then do let ok ←isTrue c X.env (eval c X.env);pure (ForInStep.yield ok)else pure (ForInStep.yield r)) (TP X pins σ Q) X.xe s
def tK:TT:=λ_ H Q=>Q true H
def fF{X:Cx}:iF X [] tK:=λ_ _ _ H _ I h=>wpAny_tests_nil ⟨H,I,h⟩
def fA{X:Cx}{c:Expr}{t:TT}(h:PT X c t):iF X [c] t:=λpins s σ H Q I hq=>wpAny_tests_one (h pins s σ H Q I hq)
def CA{prog:Program}{w:World}{A:Around}{R:Result->Shared->Prop}{t0:Shared}{elt tgt iter:Expr}{ifs:List Expr}{sc:Scope}{ps:Pos}{itv acc:Value}{ce:Env}(Wd:Nat->Shared->Prop)
  (step:∀k t,Wd k t->wpAny (model prog w) A (pyNext itv) (λgot t1=>
   match got with
   | none=>R (.ok .next) t1
   | some u=>wpAny (model prog w) A (letOwnedTupleGo tgt itv u) (λ_ t2=>wpAny (model prog w) A (assign tgt ce u) (λ_ t3=>
     wpAny (model prog w) A (forIn ifs true λc r=>if r=true then do let ok ←isTrue c ce (eval c ce);pure (ForInStep.yield ok)else pure (ForInStep.yield r)) (λyes t4=>
      if yes=true then wpAny (model prog w) A (eval elt ce) (λval t5=>wpAny (model prog w) A (call (.builtin "list.append") [acc,val]) (λ_ t6=>∃m,m<k/\Wd m t6) (λ_ _=>False) t5) (λ_ _=>False) t4
      else ∃m,m<k/\Wd m t4) (λ_ _=>False) t3) (λ_ _=>False) t2) (λ_ _=>False) t1) (λ_ _=>False) t)
  (k0:Nat) (start:Wd k0 t0):codeAny (model prog w) A (.compLoop (.ListComp elt [⟨tgt,iter,ifs,0⟩] sc ps) 0 itv acc ce) R t0:=by
 refine codeAny_loop rfl Wd (λk t hW=>?turn) k0 start
 case turn=>
  have nox:∀{α:Type} {m:Sem α} {Q:α->Shared->Prop} {E:Value->Shared->Prop} {z:Shared},wpAny (model prog w) A m Q (λ_ _=>False) z->wpAny (model prog w) A m Q E z:=λh=>wpAny_mono h (λ_ _ q=>q) λ_ _ f=>f.elim;show wpAny _ A ((compTurn (.ListComp elt [⟨tgt,iter,ifs,0⟩] sc ps) 0 itv acc ce).onRaise (λx=>do noteFrame x ce;theTreesLotGoes x)) _ _ t;apply wpAny_noted;rw[compTurn_list];refine Dh (wpAny_standAt (Dh (nox (wpAny_mono (step k t hW) (λgot t1 h1=>?_) λ_ _ f=>f))));cases got with
  | none=>exact Di h1
  | some u=>
   refine Dh (nox (wpAny_mono h1 (λ_ t2 h2=>?_) λ_ _ f=>f));refine Dh (nox (wpAny_mono h2 (λ_ t3 h3=>?_) λ_ _ f=>f));refine Dh (nox (wpAny_mono h3 (λyes t4 h4=>?_) λ_ _ f=>f));cases yes with
   | false=>
    rw[En DE]at h4;exact Di ⟨rfl,h4⟩
   | true=>
    rw[Eo rfl]at h4;refine Dh (Dh (nox (wpAny_mono h4 (λval t5 h5=>?_) λ_ _ f=>f)));exact Dh (nox (wpAny_mono h5 (λ_ t6 h6=>Di (Di ⟨rfl,h6⟩)) λ_ _ f=>f))
section
variable {X:Cx} {pins:List (Addr×Obj)} {σ:St} {H:Hp} {s:Shared}
def di(its:List Value)(n:Nat):Obj:={ cls:=.type "list",data:=.seq its.toArray n }
def Dd{sc out:Scope}(h:yG sc out=true){p:Str×NameKind}(hp:p∈sc.names)(hf:p.2=.free):out.names.lookup p.1=some .cell\/out.names.lookup p.1=some .free:=by have:=DU.mp h p hp;simp only[hf,DX,Bool.or_eq_true,beq_iff_eq,bne_iff_ne,ne_eq,not_true,false_or]at this;exact this.2
def kc{sc:Scope}{env:Env}{x:Str}:∀{names:List (Str×NameKind)} {k:NameKind},(names.map λ(p:Str×NameKind)=>match p with|(n,k)=>if(k == NameKind.free && env.scope.kind == .function && env.kindOf n == some .cell)then(n,NameKind.cell)else(n,k)).lookup x=some k →
  ∃k',names.lookup x=some k'/\(k'=k\/(k'=.free/\k=.cell))
 | [],_,h=>by simp at h
 | (n,q)::r,k,h=>by
  rw[List.map_cons]at h;rw[Eg];cases hx:(x == n)with
  | true=>
   refine⟨q,rfl,?_⟩;by_cases hc:(q == NameKind.free && env.scope.kind == .function && env.kindOf n == some .cell)=true
   ·simp only[hc,if_true,Eg,hx]at h;right;simp only[DX,beq_iff_eq]at hc;exact⟨hc.1.1,(DZ h).symm⟩
   ·left;have h2:List.lookup x ((n,q)::(r.map λ(p:Str×NameKind)=>match p with|(n,k)=>if(k == NameKind.free && env.scope.kind == .function && env.kindOf n == some .cell)then(n,NameKind.cell)else(n,k)))=some k:=by have h3:=h;dsimp only at h3;rw[En hc]at h3;exact h3
    rw[Eg,hx]at h2;exact DZ h2
  | false=>
   have:List.lookup x (r.map λ(p:Str×NameKind)=>match p with|(n,k)=>if(k == NameKind.free && env.scope.kind == .function && env.kindOf n == some .cell)then(n,NameKind.cell)else(n,k))=some k:=by
    by_cases hc:(q == NameKind.free && env.scope.kind == .function && env.kindOf n == some .cell)=true
    ·simpa only[hc,if_true,Eg,hx]using h
    ·dsimp only at h;rw[En hc,Eg,hx]at h;exact h
   exact kc (sc:=sc) this
def gL{names:List (Str×NameKind)}{x:Str}{k:NameKind}(h:names.lookup x=some k):(x,k)∈names:=PySem.mem_of_lookup h
def pG{sc:Scope}{x:Str}{cells:List (Str×Addr)}(h:(x,NameKind.free)∈sc.names):∃c,(cG sc.names cells).lookup x=some c:=
 Option.isSome_iff_exists.mp (wH cells sc.names [] x (.inl h))
def Inv.stk_lt(I:Inv X pins σ H s){b:Addr}(hb:b∈cB X.stack):b<s.heap.objs.size:=by
 rcases DD.mp (I.stkSub b hb)with e|h
 ·rw[e];exact I.lt
 ·obtain⟨_,o,ho,_⟩:=I.ok.funs.mem h;exact DR (Dm ho) I.sz
def Inv.cell_lt(I:Inv X pins σ H s){x:Str}{c:Addr}(h:X.env.cells.lookup x=some c):c<s.heap.objs.size:=by obtain⟨v,q⟩:=I.cell x c h;exact q.lt
def Inv.pin_lt(I:Inv X pins σ H s){p:Addr×Obj}(h:p∈X.pn++pins):p.1<s.heap.objs.size:=Dm (I.pin p h).1
def qi{n:Nat}{js:List Nat}{i:Nat}{v:V}(h:(cD n js σ)[i]?=some (some v)):∃k j,i=n+k/\js[k]?=some j/\σ[j]?=some (some v):=by
 unfold cD at h;by_cases hi:i<n
 ·rw[DN (by simpa using hi),List.getElem?_replicate]at h;split at h<;>cases h
 ·rw[DM (by simpa using Nat.le_of_not_lt hi),List.length_replicate,Dr]at h;cases e:js[i-n]? with
  | none=>rw[e]at h;cases h
  | some j=>
   rw[e]at h;refine⟨i-n,j,by omega,e,?_⟩;have h':(σ[j]?).join=some v:=by simpa using h
   cases q:σ[j]? with
   | none=>rw[q]at h';cases h'
   | some o=>
    rw[q]at h';have:o=some v:=h';rw[this]
def fP(J:It)(n:Nat)(js:List Nat)(g:TG)(tc:TT)(te:TE)(σ:St)(H:Hp)(Q:VK):Prop:=
 ∃W:Nat->Nat->List V->Hp->Prop,(∃m,W 0 m [] H)/\∀i m ys H',W i m ys H' →
  (J.stop i H'/\∀p,H' p=none->Q (.ref p) (upd H' p (.lst ys))) ∨
  (J.go i H'/\ys.length<sizeLine/\∃N:List V->Hp->Prop,(∀ys' H2,N ys' H2->∃m',m'<m/\W (i+1) m' ys' H2)/\∀x H2,J.yld i H' x H2->g x (cD n js σ) H2 λσ2 H3=>tc σ2 H3 λb H4=>
   if b=true then te σ2 H4 λv H5=>N (ys++[v]) H5 else N ys H4)
def o5(n:Nat)(js:List Nat)(wi:TI)(g:TG)(tc:TT)(te:TE):TE:=λσ H Q=>wi σ H λJ H1=>fP J n js g tc te σ H1 Q
structure TurnAt(X:Cx)(tg:Expr)(J:It)(fp:List Addr)(it:Addr)(tn:Nat->Heap->Prop):Prop where
 obj:∀i h,tn i h->∀b∈fp,∃o,h.get? b=some o/\∀v,o.data≠.cell v
 keep:∀i h h',tn i h->(∀b∈fp,∀o,h.get? b=some o->h'.get? b=some o)->tn i h'
 item:∀(i:Nat) (pins:List (Addr×Obj)) (s:Shared) (σ:St) (H:Hp) (E:Value->Shared->Prop),Inv X pins σ H s->(∀b∈fp,bW X pins H b)->tn i s.heap->J.go i H →
  wpAny (model X.prog X.w) X.A (pyNext (.ref it)) (λr s1=>∃u,r=some u ∧
   wpAny (model X.prog X.w) X.A (letOwnedTupleGo tg (.ref it) u) (λ_ s2=>∃x H',Inv X pins σ H' s2/\RelV x u/\J.yld i H x H'/\tn (i+1) s2.heap/\∀b∈fp,H' b=none) E s1) E s
 done:∀(i:Nat) (pins:List (Addr×Obj)) (s:Shared) (σ:St) (H:Hp) (E:Value->Shared->Prop),Inv X pins σ H s->(∀b∈fp,bW X pins H b)->tn i s.heap->J.stop i H →
  wpAny (model X.prog X.w) X.A (pyNext (.ref it)) (λr s1=>r=none/\Inv X pins σ H s1) E s
 self:∀(A:Around) (i:Nat) (s:Shared) (Q:Value->Shared->Prop) (E:Value->Shared->Prop),tn i s.heap->Q (.ref it) s->wpAny (model X.prog X.w) A (pyIter (.ref it)) Q E s
def Turn.at_{Y:Cx}{tg:Expr}{J:It}{fp:List Addr}{it:Addr}{tn:Nat->Heap->Prop}(T:Turn Y.prog Y.w Y.K tg J fp it tn)(hc:Y.calm=true):TurnAt Y tg J fp it tn:=⟨T.obj,T.keep,T.item Y rfl rfl rfl hc,T.done Y rfl rfl rfl hc,T.self⟩
end
def iM{K:Dj}{a:Addr}{xs:List V}{n:Nat}{js:List Nat}{g:TG}{tc:TT}{te:TE}{Q:VK}{σ:St}{H:Hp}(Pv:Nat->List V->Hp->Prop)(hz:xs.length<=sizeLine)(h0:Pv 0 [] H)(hl:∀i ys H,i<=xs.length->Pv i ys H->ag K H a xs/\ys.length<=i)
  (hs:∀i x ys H,xs[i]?=some x->Pv i ys H->g x (cD n js σ) H λσ2 H3=>tc σ2 H3 λb H4=>if b=true then te σ2 H4 λv H5=>Pv (i+1) (ys++[v]) H5 else Pv (i+1) ys H4)
  (hd:∀ys H p,Pv xs.length ys H->H p=none->Q (.ref p) (upd H p (.lst ys))):fP (cF K a) n js g tc te σ H Q:=by
 refine⟨λi m ys H=>m=xs.length-i/\i<=xs.length/\Pv i ys H,⟨xs.length,by simp,Nat.zero_le _,h0⟩,?_⟩;rintro i m ys H ⟨rfl,hi,p⟩;have q:=hl i ys H hi p;by_cases hlt:i<xs.length
 ·refine .inr ⟨⟨xs,xs[i],q.1,by simp[hlt]⟩,by have:=q.2;omega,Pv (i+1),λys' H' p'=>⟨xs.length-(i+1),by omega,rfl,hlt,p'⟩,λx H' y=>?_⟩;obtain⟨e,y⟩:=y;subst e;exact hs i x ys _ (y xs q.1) p
 ·have e:i=xs.length:=by omega
  subst e;exact .inl ⟨⟨xs,q.1,DI _⟩,λp' hp=>hd ys H p' p hp⟩
def vU{K:Dj}{a:Addr}{xs:List V}{n:Nat}{js:List Nat}{g:TG}{tc:TT}{te:TE}{Q:VK}{σ:St}{H:Hp}(Pv:Nat->List V->Hp->Prop)(hz:xs.length<=sizeLine)(h0:Pv 0 [] H)(hl:∀i ys H,i<=xs.length->Pv i ys H->aj K H a xs/\ys.length<=i)
  (hs:∀i x ys H,xs[i]?=some x->Pv i ys H->g x (cD n js σ) H λσ2 H3=>tc σ2 H3 λb H4=>if b=true then te σ2 H4 λv H5=>Pv (i+1) (ys++[v]) H5 else Pv (i+1) ys H4)
  (hd:∀ys H p,Pv xs.length ys H->H p=none->Q (.ref p) (upd H p (.lst ys))):fP (cS K a) n js g tc te σ H Q:=by
 refine⟨λi m ys H=>m=xs.length-i/\i<=xs.length/\Pv i ys H,⟨xs.length,by simp,Nat.zero_le _,h0⟩,?_⟩;rintro i m ys H ⟨rfl,hi,p⟩;have q:=hl i ys H hi p;by_cases hlt:i<xs.length
 ·refine .inr ⟨⟨xs,xs[i],q.1,by simp[hlt]⟩,by have:=q.2;omega,Pv (i+1),λys' H' p'=>⟨xs.length-(i+1),by omega,rfl,hlt,p'⟩,λx H' y=>?_⟩;obtain⟨e,y⟩:=y;subst e;exact hs i x ys _ (y xs q.1) p
 ·have e:i=xs.length:=by omega
  subst e;exact .inl ⟨⟨xs,q.1,DI _⟩,λp' hp=>hd ys H p' p hp⟩
def fo{lo:Int}{N n:Nat}{js:List Nat}{g:TG}{tc:TT}{te:TE}{Q:VK}{σ:St}{H:Hp}(Pv:Nat->List V->Hp->Prop)(hz:N<=sizeLine)(h0:Pv 0 [] H)(hl:∀i ys H,i<=N->Pv i ys H->ys.length<=i)
  (hs:∀i ys H,i<N->Pv i ys H->g (.int (lo+i)) (cD n js σ) H λσ2 H3=>tc σ2 H3 λb H4=>if b=true then te σ2 H4 λv H5=>Pv (i+1) (ys++[v]) H5 else Pv (i+1) ys H4)
  (hd:∀ys H p,Pv N ys H->H p=none->Q (.ref p) (upd H p (.lst ys))):fP (de lo N) n js g tc te σ H Q:=by
 refine⟨λi m ys H=>m=N-i/\i<=N/\Pv i ys H,⟨N,by simp,Nat.zero_le _,h0⟩,?_⟩;rintro i m ys H ⟨rfl,hi,p⟩;have q:=hl i ys H hi p;by_cases hlt:i<N
 ·refine .inr ⟨hlt,by omega,Pv (i+1),λys' H' p'=>⟨N-(i+1),by omega,rfl,hlt,p'⟩,λx H' y=>?_⟩;obtain⟨e,y⟩:=y;subst e y;exact hs i ys _ hlt p
 ·have e:i=N:=by omega
  subst e;exact .inl ⟨DI _,λp' hp=>hd ys H p' p hp⟩
structure Cal(P:Program)(w:World)(K:Dj)(mg:Str->Option Value)(base:Heap)(x:Str)(k:Nat)(ps:List Str)(sp:Sp):Prop where
 ex:∃(f:Addr) (fd:FuncData),mg x=some (.ref f)/\PySem.W.keepIn K (.ref f)=true/\Binds K fd ps []/\FnOk P w K mg base cy k f fd ps sp
structure Dfn(K:Dj)(mg:Str->Option Value)(x:Str)(st:Stmt)(ps:List Str):Prop where
 ex:∃(f:Addr) (fd:FuncData),mg x=some (.ref f)/\Fun K x x st f fd/\Binds K fd ps []
section
variable {P:Program} {w:World} {K:Dj} {mg:Str->Option Value} {base:Heap}
def Dfn.ok{x:Str}{st:Stmt}{N ps:List Str}{k:Nat}{sp:Sp}(D:Dfn K mg x st ps)(S:FnScope N ps (aC st))(len:∀vs H Q E,sp vs H Q E->vs.length=ps.length)
  (hbody:∀(X:Cx) (hX:∃f cdv A outer s H E,X=(eo cy P w K mg base N x (aC st) f cdv A outer s H E).nox/\Room k X.A) (H:Hp) (vs:List V) (Q:VK) (E:XK),sp vs H Q E →
   ∃t,cj X (dA st) t/\t { nx:=λ_ H'=>Q .non H',rt:=Q } (start N vs) H):Cal P w K mg base x (k+1) ps sp:=by
 obtain⟨f,fd,hm,F,hb⟩:=D.ex;exact⟨f,fd,hm,F.kp,hb,F.ok S len λcdv A outer s H vs Q E hr h=>hbody _ ⟨f,cdv,A,outer,s,H,E,rfl,hr⟩ H vs Q E h⟩
end
section
variable {X:Cx}
def av{x:Str}{k j:Nat}{ps:List Str}{sp:Sp}{e:Expr}{es:List Expr}{t:TA}{p pos:Pos}(C:Cal X.prog X.w X.K X.mg X.base x j ps sp)(hr:Room k X.A)(ha:PA X (e::es) t)(hjk:j<=k:=by decide)(hg:Gl X x:=by rfl)(hdb:(x == ("__debug__":Str))=false:=by decide)
  (he:starEach (e::es) X.env=(false,eval e X.env)::starEach es X.env:=by rfl) (hpl:(backTo pos (starEach es X.env)).any (·.1)=false:=by rfl) :
  PE X (.Call (.Name x p) (e::es) [] pos) (jB sp [] E0 t):=by
 obtain⟨f,fd,hm,hk,hb,F⟩:=C.ex;exact xa F (hr.mono hjk) hg hm hk hb .nil AM ha hdb he hpl
def mP:aY X (binaryOp .FloorDiv) (rI (λ_ j=>0<j/\j<2 ^ 64) λi j=>.int (i / j)):=jA λi j _ _ _ _ _ hc q=>by
 have h1:(0:Int)<j:=hc.1;have h2:j<2 ^ 64:=hc.2;refine floordiv_int (by omega) (by rw[Int.fdiv_eq_ediv_of_nonneg i (by omega)];exact q) (.inl (PyProof.noPylong_of_log2 ?_));have h0:j.natAbs≠0:=by omega
 have h64:j.natAbs<2 ^ 64:=by omega
 have:=(Nat.log2_lt h0).mpr h64;omega
def fH(H:Hp):V->String->Prop
 | .non,n=>n = "NoneType"
 | .bl _,n=>n = "bool"
 | .int _,n=>n = "int"
 | .str _,n=>n = "str"
 | .ref a,n=>(n = "list"/\∃xs,H a=some (.lst xs))\/(n = "tuple"/\∃xs,H a=some (.tup xs))
 | _,_=>False
def fH.ty{K:Dj}{H:Hp}{x:V}{n:String}(h:fH H x n):TyOf K H x (.type n):=by
 cases x with
 | non=>cases(show n = "NoneType" from h);exact .non
 | bl b=>cases(show n = "bool" from h);exact .bl b
 | int i=>cases(show n = "int" from h);exact .int i
 | str z=>cases(show n = "str" from h);exact .str z
 | ref a=>
  rcases h with⟨rfl,xs,e⟩|⟨rfl,xs,e⟩
  ·exact .lst e
  ·exact .tup e
 | _=>exact False.elim h
def gq(a b c d e:Bool):String->Option Bool
 | "tuple"=>some a|"int"=>some b|"bool"=>some c|"list"=>some d|"str"=>some e|_=>none
def gM:String->String->Option Bool
 | "NoneType"=>gq false false false false false
 | "bool"=>gq false true true false false
 | "int"=>gq false true false false false
 | "str"=>gq false false false false true
 | "list"=>gq false false false true false
 | "tuple"=>gq true false false false false
 | _=>λ_=>none
def yP{K:Dj}{n T:String}{b:Bool}(h:gM n T=some b):PySem.W.kitOne K (.type n) (.type T)=some b:=by
 unfold gM at h;split at h<;>first
  | (unfold gq at h;split at h<;>first|(cases h;kernel_rfl)|cases h)
  | cases h
def sG:List V->Hp->VK->Prop:=λxs H Q=>∃x n T b,xs=[x,.ty T]/\fH H x n/\gM n T=some b/\Q (.bl b) H
def eV:b9 X (.builtin "isinstance") sG:=by intro pins s σ H xs us Q I r h;obtain⟨x,n,T,b,rfl,hk,hb,q⟩:=h;obtain⟨u,w',rfl,r1,r2⟩:=vals2 r;cases(show w'=Value.type T from r2);exact Bh I r1 hk.ty (yP hb) λtk=>⟨.bl b,H,I.tok tk,rfl,q⟩
def zP:aY X (compareOp .Is) (λx y H Q=>∃a b,x=.bl a/\y=.bl b/\Q (.bl (a == b)) H):=by intro pins s σ H x y v u Q I rx ry h;obtain⟨a,b,rfl,rfl,q⟩:=h;cases rx;cases ry;exact wpAny_is_plain rfl (bh I q (by cases a<;>cases b<;>rfl))
def zl:aY X (compareOp .IsNot) (λx y H Q=>∃a b,x=.bl a/\y=.bl b/\Q (.bl (!(a == b))) H):=by intro pins s σ H x y v u Q I rx ry h;obtain⟨a,b,rfl,rfl,q⟩:=h;cases rx;cases ry;exact wpAny_isNot_plain rfl (bh I q (by cases a<;>cases b<;>rfl))
def fk(lo c:Int)(n:Nat):It:=⟨λi _=>i<n,λi H x H'=>H'=H/\x=.int (lo+i*c),λi _=>n<=i⟩
def CC{P:Program}{w:World}{K:Dj}{tg:Expr}(it:Addr)(lo c:Int)(n:Nat):Turn P w K tg (fk lo c n) [it] it (λi h=>IsRangeIter h it (lo+(i:Nat)*c) ((n:Int)-(i:Nat)) c) where
 mem:=by simp
 obj:=λi h st b hb=>by
  have e:b=it:=by simpa using hb
  subst e;exact⟨_,st,λv z=>by have z':Data.fields _=Data.cell v:=z;cases z'⟩
 keep:=λi h h' st k=>k it (by simp) _ st
 item:=by intro X hP hw hK hc i pins s σ H E I hf st hg;subst hP hw hK;obtain⟨f0,f1,f2,f3,f4,f5⟩:=hf it (by simp);have W:=Walks.range (prog:=X.prog) (w:=X.w) (I.ok.hd hc) it lo c n;refine W.item i s _ _ hg st λv h' tk hv st' kk=>?_;obtain⟨t,rfl⟩:=hv;have I1:Inv X pins σ H { s with heap:=h',toks:=tk }:=I.turned (λb o hb e=>kk b o (by simpa using hb) e) f0 f1 f3 f4 f5;exact⟨_,rfl,jw (s:={ s with heap:=h',toks:=tk }) (n:="range_iterator") st' rfl rfl (by decide) ⟨.int (lo+i*c),H,I1,⟨t,rfl⟩,⟨rfl,rfl⟩,st',λb hb=>(hf b hb).1⟩⟩
 done:=by intro X hP hw hK hc i pins s σ H E I hf st hg;subst hP hw hK;obtain⟨f0,f1,f2,f3,f4,f5⟩:=hf it (by simp);exact wpAny_pyNext_range_end (I.ok.hd hc) st (by have:n<=i:=hg;omega) λh' eb=>⟨rfl,I.turned (t':=s.toks) (λb o hb e=>eb b o hb e) f0 f1 f3 f4 f5⟩
 self:=λ_ _ _ _ _ st h=>wpAny_pyIter_rangeiter st h
def ie(i j c:Int):Prop:=(-(2 ^ 40)<=i/\i<2 ^ 40)/\(-(2 ^ 40)<=j/\j<2 ^ 40)/\(-(2 ^ 29)<c/\c<2 ^ 29)/\c≠0
def dn(i j c:Int):Nat:=if 0<c then(if i<j then((j-i-1) / c+1).toNat else 0)else(if j<i then((i-j-1) / (-c)+1).toNat else 0)
def xp(i j c:Int)(hc:c≠0):Builtin.Range.rangeSize i j c=(dn i j c:Nat):=by
 unfold Builtin.Range.rangeSize dn;by_cases h:0<c
 ·rw[Eo h,Eo h];by_cases h2:i<j
  ·rw[Eo h2,Eo h2];have:0<=(j-i-1) / c:=Int.ediv_nonneg (by omega) (by omega);omega
  ·rw[En h2,En h2];rfl
 ·rw[En h,En h];by_cases h2:j<i
  ·rw[Eo (show i>j from h2),Eo h2];have:0<=(i-j-1) / (-c):=Int.ediv_nonneg (by omega) (by omega);omega
  ·rw[En (show ¬i>j from h2),En h2];rfl
def xw{i j c:Int}(h:ie i j c):Builtin.Range.small i j c=true:=by
 obtain⟨⟨h1,h2⟩,⟨h3,h4⟩,⟨h5,h6⟩,h0⟩:=h;have hb:Builtin.Range.rangeSize i j c<=2 ^ 42/\0<=Builtin.Range.rangeSize i j c:=by
  unfold Builtin.Range.rangeSize;by_cases hc:c>0
  ·rw[Eo hc];by_cases h':i<j
   ·rw[Eo h'];have e1:(j-i-1) / c<=j-i-1:=Int.ediv_le_self _ (by omega);have e2:0<=(j-i-1) / c:=Int.ediv_nonneg (by omega) (by omega);omega
   ·rw[En h'];omega
  ·rw[En hc];by_cases h':i>j
   ·rw[Eo h'];have e1:(i-j-1) / (-c)<=i-j-1:=Int.ediv_le_self _ (by omega);have e2:0<=(i-j-1) / (-c):=Int.ediv_nonneg (by omega) (by omega);omega
   ·rw[En h'];omega
 unfold Builtin.Range.small;generalize Builtin.Range.rangeSize i j c=z at hb ⊢;have f:∀x:Int,-(2 ^ 62)<=x->x<2 ^ 62->Builtin.Range.rangeFitsLong x=true:=λx h1 h2=>by unfold Builtin.Range.rangeFitsLong;rw[Em (show -(2 ^ 63)<=x by omega),Em (show x<2 ^ 63 by omega)];rfl
 rw[f i (by omega) (by omega),f j (by omega) (by omega),f c (by omega) (by omega),f z (by omega) (by omega)];by_cases hc:c>0
 ·rw[Eo hc,f (j+(c-1)) (by omega) (by omega),Bool.or_true];rfl
 ·rw[En hc,f (j+(c+1)) (by omega) (by omega),Bool.or_true];rfl
def sH(ta:TA):TI:=λσ H R=>ta σ H λvs H1=>∃i j c:Int,vs=[.int i,.int j,.int c]/\ie i j c/\R (fk i c (dn i j c)) H1
def wW{tg a b c:Expr}{ta:TA}{p pos:Pos}(hg:Gl X "range")(hm:X.mg "range" = none)(ha:PA X [a,b,c] ta)(hs:starEach [a,b,c] X.env=[(false,eval a X.env),(false,eval b X.env),(false,eval c X.env)]:=by rfl)
  (hs2:starEach [b,c] X.env=[(false,eval b X.env),(false,eval c X.env)]:=by rfl) :
  PI X tg (.Call (.Name "range" p) [a,b,c] [] pos) (sH ta):=by
 intro pins s σ H R I h;refine Call_ (f9 I hg hm boot_range (PyProof.Rows.callWith_type1 (aw (ha pos pins s σ H _ I h) λus s1 ⟨vs,H1,I1,r1,q1⟩=>?_) (by rw[hs,hs2]) (by rw[hs2];rfl)));obtain⟨i,j,c,e,hsm,q⟩:=q1;subst e;cases r1 with
 | cons r rr=>
  cases rr with
  | cons r' rr=>
   cases rr with
   | cons r'' rr=>
    cases rr;obtain⟨t,rfl⟩:=r;obtain⟨t',rfl⟩:=r';obtain⟨t'',rfl⟩:=r'';have h0:c≠0:=hsm.2.2.2;have h5:c.natAbs<1073741824:=by have:=hsm.2.2.1;omega
    refine call_range_3 h0 ?_ (.inl (PyProof.noPylong_small h5));refine wpAny_pyIter_range (IsRange.new ..) (xw hsm) ?_;have I2:Inv X pins σ H1 { s1 with heap:=s1.heap.push { cls:=.type "range",data:=.fields #[.int i t,.int j t',.int c t''] },toks:=s1.toks }:=I1.kept λb o e=>Dk _ e;refine⟨_,[_],_,_,H1,rfl,I2.kept (t':=s1.toks) λb o e=>Dk _ e,CC _ i c (dn i j c),?_,λb hb=>?_,q⟩
    ·show IsRangeIter _ _ (i+((0:Nat):Int)*c) (((dn i j c:Nat):Int)-((0:Nat):Int)) c;rw[show i+((0:Nat):Int)*c=i by simp,show ((dn i j c:Nat):Int)-((0:Nat):Int)=Builtin.Range.rangeSize i j c by rw[xp i j c h0];simp];exact Dl _ rfl
    ·have e:=Dz.mp hb;subst e;exact I2.fpOk (DI _) (I2.hok.fresh (DI _))
def AJ{lo c:Int}{n:Nat}{g:TG}{tb:TS}{D:Ends}{σ:St}{H:Hp}(Pv:Nat->St->Hp->Prop)(h0:Pv 0 σ H)
  (hs:∀i σ H,i<n->Pv i σ H->g (.int (lo+i*c)) σ H λσ2 H2=>tb { D with nx:=Pv (i+1),ct:=Pv (i+1),bk:=D.nx } σ2 H2) (hd:∀σ H,Pv n σ H->D.nx σ H) :
  ∃W:Nat->Nat->St->Hp->Prop,(∃m,W 0 m σ H)/\∀i m σ H,W i m σ H →
   ((fk lo c n).stop i H/\D.nx σ H)\/((fk lo c n).go i H/\∃N:St->Hp->Prop,(∀σ' H',N σ' H'->∃m',m'<m/\W (i+1) m' σ' H')/\∀x H',(fk lo c n).yld i H x H'->g x σ H' λσ2 H2=>tb { D with nx:=N,ct:=N,bk:=D.nx } σ2 H2):=by
 refine⟨λi m σ H=>m=n-i/\i<=n/\Pv i σ H,⟨n,by simp,Nat.zero_le _,h0⟩,?_⟩;rintro i m σ H ⟨rfl,hi,p⟩;by_cases hlt:i<n
 ·refine .inr ⟨hlt,Pv (i+1),λσ' H' p'=>⟨n-(i+1),by omega,rfl,hlt,p'⟩,λx H' y=>?_⟩;obtain⟨e,y⟩:=y;subst e y;exact hs i σ _ hlt p
 ·have e:i=n:=by omega
  subst e;exact .inl ⟨DI _,hd σ H p⟩
def j6(K:Dj):List V->Hp->VK->Prop:=λxs H Q=>∃p ys,xs=[.ref p]/\(ag K H p ys\/aj K H p ys)/\Q (.int ys.length) H
def zp:b9 X (.builtin "len") (j6 X.K):=yY
def lR(K:Dj):List V->Hp->VK->Prop:=λxs H Q=>∃p ys,xs=[.ref p]/\((ag K H p ys/\∀l,H l=none->Q (.ref l) (upd H l (.tup ys)))\/(aj K H p ys/\Q (.ref p) H))
def zM:b9 X (.type "tuple") (lR X.K):=Co
def pR:List V->Hp->VK->Prop:=λxs H Q=>(∃i,xs=[.int i]/\Q (.int i) H)\/∃k,xs=[.bl k]/\Q (.int (if k then 1 else 0)) H
def xN:b9 X (.type "int") pR:=zO
def ue:List V->Hp->VK->Prop:=λxs H Q=>∃i j,xs=[.int i,.int j]/\Q (.int (if j>i then j else i)) H
def jy(hc:X.calm=true):b9 X (.builtin "max") ue:=zw hc
end
def Ext(H H':Hp):Prop:=∀b o,H b=some o->H' b=some o
def Ext.rfl'(H:Hp):Ext H H:=λ_ _ h=>h
def Ext.trans{H H1 H2:Hp}(a:Ext H H1)(b:Ext H1 H2):Ext H H2:=λx o h=>b x o (a x o h)
def Ext.none{H H':Hp}(e:Ext H H'){l:Addr}(h:H' l=Option.none):H l=Option.none:=by
 cases q:H l with
 | none=>rfl
 | some o=>rw[e l o q]at h;cases h
section
variable {X:Cx} (K:Dj)
def aE(h:X.K=K:=by rfl):gD X (kK K):=by subst h;exact BI
def ay(h:X.K=K:=by rfl):gD X (oX K):=by subst h;exact xE
def gE(h:X.K=K:=by rfl):oE X (kJ K):=by subst h;exact Cv
def j5(h:X.K=K:=by rfl):aY X (compareOp .In) (ny K false):=by subst h;exact Ah
def cZ(h:X.K=K:=by rfl):b9 X (.builtin "len") (j6 K):=by subst h;exact zp
def jk(h:X.K=K:=by rfl):b9 X (.type "tuple") (lR K):=by subst h;exact zM
def cV{tg l:Expr}{tl:TE}(hl:PE X l tl)(h:X.K=K:=by rfl):PI X tg l (lr K tl):=by subst h;exact yi hl
def fQ{tg l:Expr}{tl:TE}(hl:PE X l tl)(h:X.K=K:=by rfl):PI X tg l (oM K tl):=by subst h;exact Ae hl
def gF{es:List Expr}{k:Nat}{t:df}{n:Nat}{pos:Pos}(hc:X.calm=true)(hg:hJ X es t)(h:X.K=K:=by rfl)
  (hn:(assignEach es X.env).length=n:=by rfl) (hst:(assignEach es X.env).findIdx? (·.1)=none:=by rfl):PG X (.Tuple es k pos) (oa K n t):=by subst h;exact Bn hc hg hn hst
def bR{o e:Expr}{es:List Expr}{to:TE}{t:TA}{name:Str}{apos cpos:Pos}{T id:String}{r:V->List V->Hp->VK->Prop}(pa:PlainAttrs T)(slot:Slot T name id)(hty:typeOf (.builtin id)=pure (.type "method_descriptor"))(hm:lD X id r)(ho:PE X o to)(ha:PA X (e::es) t)(h:X.K=K:=by rfl)
  (hbase:attributeBase o name X.env (eval o X.env)=eval o X.env:=by rfl)
  (hfew:((backTo cpos (starEach (e::es) X.env)).all (λx=>!x.1) && (backToKw cpos (keywordEach [] X.env)).all (λx=>x.1.isSome)
   && decide ((e::es).length+([]:List Keyword).length+(if([]:List Keyword).isEmpty then 0 else 1)<30))=true:=by rfl)
  (hline:(apos.endLine == cpos.line)=true:=by rfl) (hs:starEach (e::es) X.env=(false,eval e X.env)::starEach es X.env:=by rfl) (hplain:(backTo cpos (starEach es X.env)).any (·.1)=false:=by rfl) :
  PE X (.Call (.Attribute o name apos) (e::es) [] cpos) (ml K T r to t):=by subst h;exact BO pa slot hty hm ho ha hbase hfew hline hs hplain
def pC(K:Dj)(ta:TE):TT:=λσ H Q=>ta σ H λx H'=>∃k,jK K x H' k/\Q k H'
def yB{a:Expr}{ta:TE}(ha:PE X a ta)(he:∀whole,isTrue a X.env whole=(do let v ←whole;standAt a.pos;holding [v] (truthy v)))(h:X.K=K:=by rfl):PT X a (pC K ta):=by subst h;exact Ct ha he
end
def sW(ns:List Int):TA:=λ_ H Q=>Q (ns.map V.int) H
inductive IntsE:List Expr->List Int->Prop
 | n:IntsE [] []
 | c {i j pos es ns}:IntsE es ns->IntsE (.Constant (.int i) j pos::es) (i::ns)
def gU{X:Cx}{es:List Expr}{ns:List Int}(h:IntsE es ns):PA X es (sW ns):=by
 induction h with
 | n=>exact ae
 | @c i j pos es ns _ ih=>
  intro p pins s σ H Q I hq;exact aa (e:=.Constant (.int i) j pos) af ih rfl p pins s σ H Q I hq
def rd_ints{σ:St}{H:Hp}{ns:List Int}{R:List V->Hp->Prop}(h:R (ns.map V.int) H):sW ns σ H R:=h
def ni(c:TT)(t u:TS):TS:=λD σ H=>∃R:St->Hp->Prop,(c σ H λb H1=>if b=true then t { D with nx:=R } σ H1 else u { D with nx:=R } σ H1)/\∀σ' H',R σ' H'->D.nx σ' H'
def cN{X:Cx}{c:Expr}{a b:List Stmt}{tc:TT}{t u:TS}{pos:Pos}(hc:PT X c tc)(ha:cj X a t)(hb:cj X b u):PS X (.If c a b pos) (ni tc t u):=by
 intro pins s σ H D I h;obtain⟨R,h,hR⟩:=h;refine aw (bq hc ha hb pins s σ H { D with nx:=R } I h) λf s1 q=>?_;cases f with
 | next=>
  obtain⟨σ',H',I',q⟩:=q;exact⟨σ',H',I',hR σ' H' q⟩
 | ret v=>exact q
 | brk=>exact q
 | cont=>exact q
def uf(K:Dj):V->Hp->(It->Hp->Prop)->Prop:=λx H R=>∃a,x=.ref a/\(∃xs,ag K H a xs)/\R (cF K a) H
def wa(K:Dj):V->Hp->(It->Hp->Prop)->Prop:=λx H R=>∃a,x=.ref a/\(∃xs,aj K H a xs)/\R (cS K a) H
def rK:List V->Hp->(It->Hp->Prop)->Prop:=λvs H R=>∃j:Int,vs=[.int j]/\-(2 ^ 62)<=j/\j<2 ^ 62/\R (de 0 j.toNat) H
def sO:List V->Hp->(It->Hp->Prop)->Prop:=λvs H R=>∃i j:Int,vs=[.int i,.int j]/\(-(2 ^ 62)<=i/\i<2 ^ 62/\-(2 ^ 62)<=j/\j<2 ^ 62)/\R (de i (j-i).toNat) H
def rS:List V->Hp->(It->Hp->Prop)->Prop:=λvs H R=>∃i j c:Int,vs=[.int i,.int j,.int c]/\ie i j c/\R (fk i c (dn i j c)) H
def iZ(J:It)(g:TG)(tb:TS)(D:Ends)(σ:St)(H:Hp):Prop:=∃W:Nat->Nat->St->Hp->Prop,(∃m,W 0 m σ H)/\∀i m σ H,W i m σ H →
 (J.stop i H/\D.nx σ H)\/(J.go i H/\∃N:St->Hp->Prop,(∀σ' H',N σ' H'->∃m',m'<m/\W (i+1) m' σ' H')/\∀x H',J.yld i H x H'->g x σ H' λσ2 H2=>tb { D with nx:=N,ct:=N,bk:=D.nx } σ2 H2)
def forL{K:Dj}{a:Addr}{xs:List V}{g:TG}{tb:TS}{D:Ends}{σ:St}{H:Hp}(Pv:Nat->St->Hp->Prop)(h0:Pv 0 σ H)(hl:∀i σ H,i<=xs.length->Pv i σ H->ag K H a xs)
  (hs:∀i x σ H,xs[i]?=some x->Pv i σ H->g x σ H λσ2 H2=>tb ⟨Pv (i+1),D.rt,D.nx,Pv (i+1)⟩ σ2 H2) (hd:∀σ H,Pv xs.length σ H->D.nx σ H):iZ (cF K a) g tb D σ H:=CT Pv h0 hl hs hd
def iD{K:Dj}{a:Addr}{xs:List V}{g:TG}{tb:TS}{D:Ends}{σ:St}{H:Hp}(Pv:Nat->St->Hp->Prop)(h0:Pv 0 σ H)(hl:∀i σ H,i<=xs.length->Pv i σ H->aj K H a xs)
  (hs:∀i x σ H,xs[i]?=some x->Pv i σ H->g x σ H λσ2 H2=>tb ⟨Pv (i+1),D.rt,D.nx,Pv (i+1)⟩ σ2 H2) (hd:∀σ H,Pv xs.length σ H->D.nx σ H):iZ (cS K a) g tb D σ H:=xo Pv h0 hl hs hd
def forR{lo:Int}{n:Nat}{g:TG}{tb:TS}{D:Ends}{σ:St}{H:Hp}(Pv:Nat->St->Hp->Prop)(h0:Pv 0 σ H)
  (hs:∀i σ H,i<n->Pv i σ H->g (.int (lo+i)) σ H λσ2 H2=>tb ⟨Pv (i+1),D.rt,D.nx,Pv (i+1)⟩ σ2 H2) (hd:∀σ H,Pv n σ H->D.nx σ H):iZ (de lo n) g tb D σ H:=BY Pv h0 hs hd
def zo{lo c:Int}{n:Nat}{g:TG}{tb:TS}{D:Ends}{σ:St}{H:Hp}(Pv:Nat->St->Hp->Prop)(h0:Pv 0 σ H)
  (hs:∀i σ H,i<n->Pv i σ H->g (.int (lo+i*c)) σ H λσ2 H2=>tb ⟨Pv (i+1),D.rt,D.nx,Pv (i+1)⟩ σ2 H2) (hd:∀σ H,Pv n σ H->D.nx σ H):iZ (fk lo c n) g tb D σ H:=AJ Pv h0 hs hd
def dY(H:Hp)(o:HO)(R:VK):Prop:=∀p,H p=none->R (.ref p) (upd H p o)
section
variable {K:Dj} {D:Ends} {σ:St} {H:Hp} {Q:VK} {ta tb tc te:TE} {t u:TS} {c c':TT}
def rd_seq(h:t ⟨u D,D.rt,D.bk,D.ct⟩ σ H):wK t u D σ H:=h
def rd_next(h:D.nx σ H):uR D σ H:=h
def rd_ret(h:te σ H D.rt):pz te D σ H:=h
def rd_asg{g:TG}(h:te σ H λx H1=>g x σ H1 D.nx):jQ te g D σ H:=h
def rd_drop(h:te σ H λ_ H1=>D.nx σ H1):pf te D σ H:=h
def rd_ifS(h:c σ H λb H1=>if b=true then t D σ H1 else u D σ H1):sF c t u D σ H:=h
def ft(R:St->Hp->Prop)(h:c σ H λb H1=>if b=true then t ⟨R,D.rt,D.bk,D.ct⟩ σ H1 else u ⟨R,D.rt,D.bk,D.ct⟩ σ H1)(k:∀σ' H',R σ' H'->D.nx σ' H'):ni c t u D σ H:=⟨R,h,k⟩
def hV(h:c σ H λb H1=>if b=true then t D σ H1 else u D σ H1):ni c t u D σ H:=⟨D.nx,h,λ_ _ h=>h⟩
def rd_name{i:Nat}{v:V}{R:St->Hp->Prop}(h:R (σ.set i (some v)) H):iY i v σ H R:=h
def rd_var{i:Nat}{v:V}(e:σ[i]?=some (some v))(h:Q v H):iO i σ H Q:=⟨v,e,h⟩
def rd_c{v:V}(h:Q v H):tC v σ H Q:=h
def rd_op{r:R2}(h:ta σ H λx H1=>tb σ H1 λy H2=>r x y H2 Q):iq r ta tb σ H Q:=h
def rd_un{r:V->Hp->VK->Prop}(h:ta σ H λx H1=>r x H1 Q):tQ r ta σ H Q:=h
def rd_CB{r:List V->Hp->VK->Prop}{a:TA}(h:a σ H λvs H1=>r vs H1 Q):jE r a σ H Q:=h
def rd_cons{a:TA}{R:List V->Hp->Prop}(h:ta σ H λx H1=>a σ H1 λxs H2=>R (x::xs) H2):jG ta a σ H R:=h
def rd_nil{R:List V->Hp->Prop}(h:R [] H):mj σ H R:=h
def rd_test{R:Bool->Hp->Prop}(h:te σ H λx H'=>∃k,x=.bl k/\R k H'):qo te σ H R:=h
def rd_B{R:Bool->Hp->Prop}(h:te σ H λx H'=>∃k,x=.bl k/\R k H'):tB te σ H R:=h
def rd_exb{b:Bool}{R:Bool->Prop}(h:R b):∃k,V.bl b=V.bl k/\R k:=⟨b,rfl,h⟩
def rd_not{R:Bool->Hp->Prop}(h:c σ H λb H1=>R (!b) H1):vg c σ H R:=h
def rd_and{R:Bool->Hp->Prop}(h:c σ H λb H1=>if b=true then c' σ H1 R else R false H1):vC c c' σ H R:=h
def rd_or{R:Bool->Hp->Prop}(h:c σ H λb H1=>if b=true then R true H1 else c' σ H1 R):vO c c' σ H R:=h
def rd_andV(h:ta σ H λx H1=>∃k,x=.bl k/\if k=true then tb σ H1 Q else Q (.bl false) H1):tD ta tb σ H Q:=h
def rd_orV(h:ta σ H λx H1=>∃k,x=.bl k/\if k=true then Q (.bl true) H1 else tb σ H1 Q):vD ta tb σ H Q:=h
def rd_notV(h:ta σ H λx H1=>∃k,x=.bl k/\Q (.bl (!k)) H1):uL ta σ H Q:=h
def rd_ifE(h:c σ H λb H1=>if b=true then ta σ H1 Q else tb σ H1 Q):rF c ta tb σ H Q:=h
def rd_yes{R:Bool->Hp->Prop}(h:R true H):tK σ H R:=h
def rd_I0{g:Int->Int->V}{i j:Int}(h:Q (g i j) H):eE g (.int i) (.int j) H Q:=⟨i,j,rfl,rfl,h⟩
def rd_I{C:Int->Int->Prop}{g:Int->Int->V}{i j:Int}(hc:C i j)(h:Q (g i j) H):rI C g (.int i) (.int j) H Q:=⟨i,j,rfl,rfl,hc,h⟩
def rd_U{g:Int->V}{i:Int}(h:Q (g i) H):rU g (.int i) H Q:=⟨i,rfl,h⟩
def rd_EqI{i j:Int}(h:Q (.bl (decide (i=j))) H):ji (.int i) (.int j) H Q:=⟨rfl,by
 have e:decide (V.int i=V.int j)=decide (i=j):=by rw[DW];simp
 rw[e];exact h⟩
def rd_NeI{i j:Int}(h:Q (.bl (!decide (i=j))) H):jm (.int i) (.int j) H Q:=⟨rfl,by
 have e:decide (V.int i=V.int j)=decide (i=j):=by rw[DW];simp
 rw[e];exact h⟩
def rd_EqB{i j:Bool}(h:Q (.bl (i == j)) H):ji (.bl i) (.bl j) H Q:=⟨rfl,by rw[kz];exact h⟩
def rd_NeB{i j:Bool}(h:Q (.bl (!(i == j))) H):jm (.bl i) (.bl j) H Q:=⟨rfl,by rw[kz];exact h⟩
def aD{p:Addr}{xs:List V}{i:Int}{v:V}(e:ag K H p xs)(a:bo xs i=some v)(h:Q v H):kK K (.ref p) (.int i) H Q:=⟨p,xs,i,v,rfl,rfl,e,a,h⟩
def az{p:Addr}{xs:List V}{i:Int}{v:V}(e:aj K H p xs)(a:bo xs i=some v)(h:Q v H):oX K (.ref p) (.int i) H Q:=⟨p,xs,i,v,rfl,rfl,e,a,h⟩
def fB{p:Addr}{xs:List V}(e:ag K H p xs)(h:Q (.int xs.length) H):j6 K [.ref p] H Q:=⟨p,xs,rfl,.inl e,h⟩
def jb{p:Addr}{xs:List V}(e:aj K H p xs)(h:Q (.int xs.length) H):j6 K [.ref p] H Q:=⟨p,xs,rfl,.inr e,h⟩
def ka{p:Addr}{xs:List V}(e:ag K H p xs)(h:dY H (.tup xs) Q):lR K [.ref p] H Q:=⟨p,xs,rfl,.inl ⟨e,h⟩⟩
def eJ{x:V}{n T:String}{b:Bool}(hk:fH H x n)(hb:gM n T=some b)(h:Q (.bl b) H):sG [x,.ty T] H Q:=⟨x,n,T,b,rfl,hk,hb,h⟩
def rd_intB{k:Bool}(h:Q (.int (if k then 1 else 0)) H):pR [.bl k] H Q:=.inr ⟨k,rfl,h⟩
def rd_max2{i j:Int}(h:Q (.int (if j>i then j else i)) H):ue [.int i,.int j] H Q:=⟨i,j,rfl,h⟩
def rd_call{sp:Sp}{a:TA}{E:XK}(h:a σ H λvs H1=>sp (vs++[]) H1 Q E):jB sp [] E a σ H Q:=h
def rd_BM{T:String}{r:V->List V->Hp->VK->Prop}{a:TA}(h:te σ H λx H1=>iT K T x H1/\a σ H1 λxs H2=>r x xs H2 Q):ml K T r te a σ H Q:=h
def rd_tup{a:TA}(h:a σ H λxs H1=>xs.length<=sizeLine/\dY H1 (.tup xs) Q):mB a σ H Q:=h
def rd_lst{a:TA}(h:a σ H λxs H1=>xs.length<=sizeLine/\dY H1 (.lst xs) Q):vm a σ H Q:=h
def rd_sl{r:V->Option Int->Option Int->Hp->VK->Prop}{tl th:TO}(h:te σ H λx H1=>tl σ H1 λl H2=>th σ H2 λv H3=>r x l v H3 Q):qr r te tl th σ H Q:=h
def rd_noPart{R:Option Int->Hp->Prop}(h:R none H):uq σ H R:=h
def rd_part{R:Option Int->Hp->Prop}(h:te σ H λx H1=>∃i,x=.int i/\R (some i) H1):uo te σ H R:=h
def rd_exi{i:Int}{R:Int->Prop}(h:R i):∃k,V.int i=V.int k/\R k:=⟨i,rfl,h⟩
def rd_chain{r r':R2}(h:ta σ H λx H1=>tb σ H1 λy H2=>r x y H2 λz H3=>∃k,z=.bl k/\(if k=true then tc σ H3 λw' H4=>r' y w' H4 Q else Q (.bl false) H3)):rJ r r' ta tb tc σ H Q:=h
def rd_comp{n:Nat}{js:List Nat}{wi:TI}{g:TG}(h:wi σ H λJ H1=>fP J n js g c te σ H1 Q):o5 n js wi g c te σ H Q:=h
def rd_iL{R:It->Hp->Prop}(h:te σ H λx H1=>uf K x H1 R):lr K te σ H R:=h
def rd_iT{R:It->Hp->Prop}(h:te σ H λx H1=>wa K x H1 R):oM K te σ H R:=h
def cQ{p:Addr}{xs:List V}{R:It->Hp->Prop}(e:ag K H p xs)(h:R (cF K p) H):uf K (.ref p) H R:=⟨p,rfl,⟨xs,e⟩,h⟩
def fN{p:Addr}{xs:List V}{R:It->Hp->Prop}(e:aj K H p xs)(h:R (cS K p) H):wa K (.ref p) H R:=⟨p,rfl,⟨xs,e⟩,h⟩
def rd_i1{a:TA}{R:It->Hp->Prop}(h:a σ H λvs H1=>rK vs H1 R):qy a σ H R:=h
def cq{j:Int}{R:It->Hp->Prop}(h1:-(2 ^ 62)<=j/\j<2 ^ 62)(h:R (de 0 j.toNat) H):rK [.int j] H R:=⟨j,rfl,h1.1,h1.2,h⟩
def rd_i2{a:TA}{R:It->Hp->Prop}(h:a σ H λvs H1=>sO vs H1 R):vP a σ H R:=h
def CQ{i j:Int}{R:It->Hp->Prop}(h1:-(2 ^ 62)<=i/\i<2 ^ 62/\-(2 ^ 62)<=j/\j<2 ^ 62)(h:R (de i (j-i).toNat) H):sO [.int i,.int j] H R:=⟨i,j,rfl,h1,h⟩
def rd_i3{a:TA}{R:It->Hp->Prop}(h:a σ H λvs H1=>rS vs H1 R):sH a σ H R:=h
def BD{i j c:Int}{R:It->Hp->Prop}(h1:ie i j c)(h:R (fk i c (dn i j c)) H):rS [.int i,.int j,.int c] H R:=⟨i,j,c,rfl,h1,h⟩
def rd_for{wi:TI}{g:TG}(h:wi σ H λJ H1=>iZ J g t D σ H1):s9 wi g t D σ H:=h
def cc{l:Addr}{xs:List V}{y:V}(e:H l=some (.lst xs))(hz:xs.length<sizeLine)(h:Q .non (upd H l (.lst (xs++[y])))):vV (.ref l) [y] H Q:=⟨l,xs,y,rfl,rfl,e,hz,h⟩
def dM{p:Addr}{xs:List V}(e:ag K H p xs):iT K "list" (.ref p) H:=.inl ⟨rfl,xs,e⟩
def rd_sub{to ti:TE}{w:jj}{v:V}{R:St->Hp->Prop}(h:to σ H λo H1=>ti σ H1 λi H2=>w o i v H2 λH3=>R σ H3):sX to ti w v σ H R:=h
def fJ{p:Addr}{xs:List V}{k:Int}{j:Nat}{v:V}{R:Hp->Prop}(e:H p=some (.lst xs))(a:dI xs.length k=some j)(h:R (upd H p (.lst (xs.set j v)))):uC (.ref p) (.int k) v H R:=⟨p,xs,k,j,rfl,rfl,e,a,h⟩
def il{n:Nat}{g:df}{a:Addr}{xs:List V}{R:St->Hp->Prop}(e:aj K H a xs)(hl:xs.length=n)(h:g xs σ H R):oa K n g (.ref a) σ H R:=⟨a,xs,rfl,e,hl,h⟩
def rd_gcons{g:TG}{gs:df}{v:V}{r:List V}{R:St->Hp->Prop}(h:g v σ H λσ' H'=>gs r σ' H' R):vL g gs (v::r) σ H R:=⟨v,r,rfl,h⟩
def rd_gnil{R:St->Hp->Prop}(h:R σ H):qk [] σ H R:=⟨rfl,h⟩
def kA{l b:Addr}{xs zs:List V}(e1:H l=some (.lst xs))(e2:H b=some (.lst zs))(hz:xs.length+zs.length<=sizeLine)(h:dY H (.lst (xs++zs)) Q):pT (.ref l) (.ref b) H Q:=⟨l,b,xs,zs,rfl,rfl,e1,e2,hz,h⟩
def i4{l:Addr}{k:Int}{xs:List V}(e:H l=some (.lst xs))(hk:0<=k/\k<10 ^ 6)(hz:xs.length*k.toNat<=sizeLine)(h:dY H (.lst (Ec k.toNat xs).flatten) Q):rD (.ref l) (.int k) H Q:=
 ⟨l,k,xs,rfl,rfl,e,by omega,by omega,hz,h⟩
def ik{a:Addr}{xs:List V}{lo hi:Option Int}(e:ag K H a xs)(h:dY H (.lst (dg xs lo hi)) Q):kJ K (.ref a) lo hi H Q:=⟨a,xs,rfl,e,h⟩
def ky{neg:Bool}{x:V}{p:Addr}{xs:List V}(e:ag K H p xs\/aj K H p xs)(f:dG x=true)(fs:xs.all dG=true)(h:Q (.bl (if neg then !ip x xs else ip x xs)) H):ny K neg x (.ref p) H Q:=⟨p,xs,rfl,e,f,fs,h⟩
def rd_tTru{R:Bool->Hp->Prop}(h:te σ H λx H'=>∃k,jK K x H' k/\R k H'):pC K te σ H R:=h
def bP{o:HO}{R:VK}(h:∀p H',Ext H H'->H' p=some o->H p=none->R (.ref p) H'):dY H o R:=λp hp=>
 h p _ (λb u e=>by rw[ax (bO e hp)];exact e) aJ hp
def bJ{p:Addr}{o:HO}(hp:H p=none):Ext H (upd H p o):=λb u e=>by rw[ax (bO e hp)];exact e
def ag.ext{H':Hp}{p:Addr}{xs:List V}(e:Ext H H')(h:ag K H p xs):ag K H' p xs:=by
 rcases h with(h|⟨o,h⟩)|h
 ·exact .inl (.inl (e _ _ h))
 ·exact .inl (.inr ⟨o,e _ _ h⟩)
 ·exact .inr h
end
def eS{α:Type}{xs:List α}{i:Int}{v:α}(h0:0<=i)(h:xs[i.toNat]?=some v):bo xs i=some v:=by
 have:=dQ h
 rwa [DC h0]at this
def fI{n:Nat}{i:Int}(h0:0<=i)(h:i<n):dI n i=some i.toNat:=by unfold dI;rw[Eo h0,Eo h]
def dj:V->PyData->Prop
 | .non,.none=>True
 | .bl b,.bool c=>b=c
 | .int i,.int j=>i=j
 | .str x,.str y=>x=y/\(PyData.str y).canLay0=true
 | _,_=>False
def aQ(H:Hp):Nat->V->PyData->Prop
 | 0,x,d=>dj x d
 | n+1,x,d=>dj x d\/∃a xs ds,x=.ref a/\((H a=some (.tup xs)/\d=.tuple ds)\/(H a=some (.lst xs)/\d=.list ds))/\Paired (aQ H n) xs ds
section
variable {X:Cx} {pins:List (Addr×Obj)} {σ:St} {H:Hp} {s:Shared}
def dj.reads{x:V}{d:PyData}{u:Value}(h:dj x d)(r:RelV x u):∃as,Reads s.heap u d as:=by
 cases x with
 | non=>cases d<;>first|exact False.elim h|(cases r;exact⟨_,.none⟩)
 | bl b=>cases d<;>first|exact False.elim h|(cases(show b=_ from h);cases r;exact⟨_,.bool _⟩)
 | int i=>cases d<;>first|exact False.elim h|(cases(show i=_ from h);obtain⟨t,rfl⟩:=r;exact⟨_,.int _ t⟩)
 | str z=>cases d<;>first|exact False.elim h|(cases(show z=_/\_ from h).1;obtain⟨t,rfl⟩:=r;exact⟨_,.str _ t⟩)
 | _=>cases d<;>exact False.elim h
def dj.lay{x:V}{d:PyData}(h:dj x d):d.canLay0=true/\d.depth=0:=by cases x<;>cases d<;>first|exact False.elim h|exact ⟨rfl,rfl⟩|exact ⟨h.2,rfl⟩
def nV{R:V->PyData->Prop}(ih:∀{x:V} {d:PyData} {u:Value},R x d->RelV x u->∃as,Reads s.heap u d as):∀{xs:List V} {ds:List PyData} {us:List Value},Paired R xs ds->Vals xs us->∃as,ReadsAll s.heap us ds as
 | _,_,_,.nil,.nil=>⟨_,.nil⟩
 | _,_,_,.cons h t,.cons r rt=>by obtain⟨as,ha⟩:=ih h r;obtain⟨bs,hb⟩:=nV ih t rt;exact⟨_,.cons ha hb⟩
def aQ.reads(I:Inv X pins σ H s):∀(n:Nat) {x:V} {d:PyData} {u:Value},aQ H n x d->RelV x u->∃as,Reads s.heap u d as
 | 0,_,_,_,h,r=>dj.reads h r
 | n+1,x,d,u,h,r=>by
  rcases h with h|⟨a,xs,ds,rfl,hh,hp⟩
  ·exact dj.reads h r
  ·cases r;rcases hh with⟨e,rfl⟩|⟨e,rfl⟩
   ·obtain⟨its,rv,⟨o,ho,hc,k,hd⟩,_⟩:=I.tuple (aj.of e);obtain⟨as,ha⟩:=nV (λ{x d u}=>aQ.reads I n) hp rv;exact⟨_,.tuple ho hc hd (by simpa using ha)⟩
   ·obtain⟨its,k,rv,ho,_⟩:=I.lst e;obtain⟨as,ha⟩:=nV (λ{x d u}=>aQ.reads I n) hp rv;exact⟨_,.list ho rfl rfl (by simpa using ha)⟩
def iS{R:V->PyData->Prop}{m:Nat}(ih:∀{x:V} {d:PyData},R x d->d.canLay0=true/\d.depth<=m):∀{xs:List V} {ds:List PyData},Paired R xs ds->PyData.canLayAll0 ds=true/\PyData.depthAll ds<=m
 | _,_,.nil=>⟨rfl,Nat.zero_le _⟩
 | _,_,.cons h t=>by
  obtain⟨h1,h2⟩:=ih h;obtain⟨h3,h4⟩:=iS ih t;refine⟨?_,?_⟩
  ·simp only[PyData.canLayAll0,h1,h3,Bool.and_self]
  ·simp only[PyData.depthAll];exact Nat.max_le.mpr ⟨h2,h4⟩
def aQ.lay:∀(n:Nat) {x:V} {d:PyData},aQ H n x d->d.canLay0=true/\d.depth<=n
 | 0,_,_,h=>⟨(dj.lay h).1,Nat.le_of_eq (dj.lay h).2⟩
 | n+1,x,d,h=>by
  rcases h with h|⟨a,xs,ds,rfl,hh,hp⟩
  ·exact⟨(dj.lay h).1,by rw[(dj.lay h).2];exact Nat.zero_le _⟩
  ·obtain⟨h1,h2⟩:=iS (λ{x d}=>aQ.lay n) hp;rcases hh with⟨e,rfl⟩|⟨e,rfl⟩
   ·exact⟨h1,Nat.succ_le_succ h2⟩
   ·exact⟨h1,Nat.succ_le_succ h2⟩
def uw(neg:Bool):R2:=λx y H Q=>∃n m d e,aQ H n x d/\aQ H m y e/\n<=50/\Q (.bl (if neg then !PyData.eqv d e else PyData.eqv d e)) H
def De{k:Nat}(hr:Room k X.A):aY X (compareOp .Eq) (uw false):=by intro pins s σ H x y v u Q I rx ry h;obtain⟨n,m,d,e,h1,h2,hn,q⟩:=h;obtain⟨as,ra⟩:=aQ.reads I n h1 rx;obtain⟨bs,rb⟩:=aQ.reads I m h2 ry;have l1:=aQ.lay n h1;have l2:=aQ.lay m h2;have hu:=hr.units;have hm:min d.depth e.depth<=50:=DS (Nat.min_le_left _ _) (DS l1.2 hn);exact SeqAt.compareEq_reads ra rb l1.1 l2.1 (by omega) ⟨.bl _,H,I,rfl,q⟩
def tG{k:Nat}(hr:Room k X.A):aY X (compareOp .NotEq) (uw true):=by intro pins s σ H x y v u Q I rx ry h;obtain⟨n,m,d,e,h1,h2,hn,q⟩:=h;obtain⟨as,ra⟩:=aQ.reads I n h1 rx;obtain⟨bs,rb⟩:=aQ.reads I m h2 ry;have l1:=aQ.lay n h1;have l2:=aQ.lay m h2;have hu:=hr.units;have hm:min d.depth e.depth<=50:=DS (Nat.min_le_left _ _) (DS l1.2 hn);exact SeqAt.compareNe_reads ra rb l1.1 l2.1 (by omega) ⟨.bl _,H,I,rfl,q⟩
end
def zF(K:Dj):List V->Hp->VK->Prop:=λxs H Q=>∃(p:Addr) (bs:List Bool),xs=[.ref p]/\ag K H p (bs.map V.bl)/\Q (.bl (bs.all id)) H
def lM:∀{bs:List Bool} {us:List Value},Vals (bs.map V.bl) us->us=bs.map Value.bool
 | [],_,r=>by cases r;rfl
 | b::bs,_,r=>by
  cases r with
  | cons r t=>cases r;rw[lM t];rfl
def all_range(bs:List Bool):((Ek bs.length).all λi=>bs.getD i false)=bs.all id:=by
 rw[DW,DU,DU];constructor
 ·intro h b hb;obtain⟨i,hi,e⟩:=List.mem_iff_getElem.mp hb;have:=h i (List.mem_range.mpr hi);rw[List.getD_eq_getElem?_getD,Dp hi]at this;rw[←e];exact this
 ·intro h i hi;have hi':=List.mem_range.mp hi;rw[List.getD_eq_getElem?_getD,Dp hi'];exact h _ (DO hi')
def ze{X:Cx}(K:Dj)(hc:X.calm=true)(hK:X.K=K:=by rfl):b9 X (.builtin "all") (zF K):=by
 subst hK;intro pins s σ H xs us Q I r h;obtain⟨p,bs,rfl,hq,q⟩:=h;obtain⟨u,rfl,rx⟩:=vals1 r;cases rx;obtain⟨its,rv,pl,hz⟩:=I.list hq;have eb:=lM rv;have hne:p≠s.heap.objs.size:=DH (by obtain⟨o,n,e,_⟩:=pl;exact Dm e);refine call_all_walk (wpAny_pyIter_list pl.isList ?_);have I1:Inv X pins σ H { s with heap:=s.heap.push { cls:=.type "list_iterator",data:=.fields #[.ref p,.int 0 0] } }:=I.kept (t':=s.toks) λb o e=>Dk _ e;have hf:=I.fpOk (H':=H) (DI s.heap.objs.size) I.fresh;refine⟨s.heap.objs.size,_,_,_,_,_,(λi=>bs.getD i false),rfl,Walks.list (A:=X.A.in1) (I.ok.hd hc) _ p hne its.toArray,⟨⟨_,Dl _ rfl,rfl,rfl⟩,?_⟩,?_,λh' tk hk=>?_⟩
 ·exact pl.isList.push _
 ·intro i v s' Q' E' hv hQ;rw[eb]at hv;have hv':(bs.map Value.bool)[i]?=some v:=by simpa using hv
  rw[Dr]at hv';cases eg:bs[i]? with
  | none=>rw[eg]at hv';cases hv'
  | some b=>
   rw[eg]at hv';cases hv';have eb':bs.getD i false=b:=by rw[List.getD_eq_getElem?_getD,eg];rfl
   have hQ':Q' (bs.getD i false) s':=hQ;rw[eb']at hQ';exact wpAny_truthy_bool hQ'
 ·obtain⟨f0,f1,f2,f3,f4,f5⟩:=hf;have hl:=rv.length;rw[Dn]at hl;refine⟨.bl (bs.all id),H,I1.turned (it:=s.heap.objs.size) (λb o hb e=>hk b o (by simpa using hb) e) f0 f1 f3 f4 f5,?_,q⟩;show Value.bool _=Value.bool _;rw[Du,←hl,all_range]
def rh(c:TT)(tb:TS):TS:=λD σ H=>∃(W:Nat->St->Hp->Prop) (R:St->Hp->Prop),(∃m,W m σ H)/\(∀m σ H,W m σ H →
 c σ H λb H1=>if b=true then ∃N:St->Hp->Prop,(∀σ' H',N σ' H'->∃m',m'<m/\W m' σ' H')/\tb ⟨N,D.rt,R,N⟩ σ H1 else R σ H1)/\∀σ H,R σ H->D.nx σ H
def g7{X:Cx}{pos:Pos}{c:Expr}{body:List Stmt}{tc:TT}{tb:TS}(hp:PassesOwn (model X.prog X.w) X.A X.env X.xe)(hc:PT X c tc)(hb:cj X body tb):PS X (.While c body [] pos) (rh tc tb):=by
 intro pins s σ H D I h;obtain⟨W,R,w0,hs,hR⟩:=h;refine aw (BZ hp hc hb pins s σ H { D with nx:=R } I ⟨W,w0,hs⟩) λf s1 q=>?_;cases f with
 | next=>
  obtain⟨σ',H',I',q⟩:=q;exact⟨σ',H',I',hR σ' H' q⟩
 | ret v=>exact q
 | brk=>exact q
 | cont=>exact q
section
variable {D:Ends} {σ:St} {H:Hp} {Q:VK} {te:TE} {t:TS} {c:TT}
def gG(W:Nat->St->Hp->Prop)(R:St->Hp->Prop)(m:Nat)(h0:W m σ H)(hs:∀m σ H,W m σ H->c σ H λb H1=>if b=true then ∃N:St->Hp->Prop,(∀σ' H',N σ' H'->∃m',m'<m/\W m' σ' H')/\t ⟨N,D.rt,R,N⟩ σ H1 else R σ H1)(k:∀σ H,R σ H->D.nx σ H):rh c t D σ H:=⟨W,R,⟨m,h0⟩,hs,k⟩
def rd_aug{i:Nat}{ti:iI}{x:V}(e:σ[i]?=some (some x))(h:te σ H λy H1=>ti x y H1 λz H2=>D.nx (σ.set i (some z)) H2):uQ i te ti D σ H:=⟨x,e,h⟩
def rd_ipI{f:Int->Int->Int}{i j:Int}(h:Q (.int (f i j)) H):nN f (.int i) (.int j) H Q:=⟨i,j,rfl,rfl,h⟩
end
section
variable {prog:Program} {w:World} {A:Around} {E:Value->Shared->Prop} {s:Shared}
def BX{it t:Addr}{i:Nat}{ys:Array Value}{x:Value}{Q:Value->Shared->Prop}(gi:s.heap.IsTupleIter it t i)(gt:s.heap.IsTuple t ys)(gx:ys[i]?=some x)
  (q:∀h',h'.IsTupleIter it t (i+1)->Heap.SameBut it s.heap h'->Q x { s with heap:=h' }):wpAny (model prog w) A (Builtin.SmallTypes.nextOf (.ref it)) Q E s:=by
 obtain⟨u,gu,gc,gd⟩:=id gi;obtain⟨v,gv,_,k,gk⟩:=gt;unfold Builtin.SmallTypes.nextOf;refine Dh (Ej (name:=DY "__next__") gi.typeIs F.slot_tuple_iterator_next (wpAny_call_entry F.slot_tuple_iterator_next gi.typeIs F.entry_tuple_iterator_next ?_ (F.args_tuple_iterator_next_1 _)));show wpAny _ _ (field (Value.ref it) 0 >>= _) _ _ s;refine Dh (wpAny_field gu gd (x:=Value.ref t) rfl ?_);show wpAny _ _ (if(Value.ref t == Value.none)=true then _ else _) _ _ s;rw[En (show ¬(Value.ref t == Value.none)=true from DE)];show wpAny _ _ (field (Value.ref it) 1 >>= _) _ _ s;refine Dh (wpAny_field gu gd (x:=Value.int i 0) rfl ?_);show wpAny _ _ (seqItems? (Value.ref t) >>= _) _ _ s;refine Dh (wpAny_seqItems gv gk ?_);simp only[DB,gx];refine Dh (wpAny_setField gu gd (by simp) (Di ⟨x,rfl,Di (q _ ?_ (Heap.SameBut.update ..))⟩));exact⟨_,Heap.get?_update_self _ gu (Obj.isFreed_of_fields (Obj.data_mapFields gd _)),(Obj.cls_mapFields ..).trans gc,by rw[Obj.data_mapFields gd];simp[rawInt]⟩
def xB{it t:Addr}{i:Nat}{ys:Array Value}{Q:Value->Shared->Prop}(hA:A.handled=none)(gi:s.heap.IsTupleIter it t i)(gt:s.heap.IsTuple t ys)(gx:ys[i]?=none)
  (q:∀h' e,Heap.ExtBut it s.heap h'->(∃o,h'.get? e=some o/\o.cls=.type "StopIteration")->E (.ref e) { s with heap:=h' }):wpAny (model prog w) A (Builtin.SmallTypes.nextOf (.ref it)) Q E s:=by
 obtain⟨u,gu,gc,gd⟩:=id gi;obtain⟨v,gv,_,k,gk⟩:=gt;unfold Builtin.SmallTypes.nextOf;refine Dh (Ej (name:=DY "__next__") gi.typeIs F.slot_tuple_iterator_next (wpAny_call_entry F.slot_tuple_iterator_next gi.typeIs F.entry_tuple_iterator_next ?_ (F.args_tuple_iterator_next_1 _)));show wpAny _ _ (field (Value.ref it) 0 >>= _) _ _ s;refine Dh (wpAny_field gu gd (x:=Value.ref t) rfl ?_);show wpAny _ _ (if(Value.ref t == Value.none)=true then _ else _) _ _ s;rw[En (show ¬(Value.ref t == Value.none)=true from DE)];show wpAny _ _ (field (Value.ref it) 1 >>= _) _ _ s;refine Dh (wpAny_field gu gd (x:=Value.int i 0) rfl ?_);show wpAny _ _ (seqItems? (Value.ref t) >>= _) _ _ s;refine Dh (wpAny_seqItems gv gk ?_);simp only[DB,gx];refine Dh (wpAny_rule (Dh (wpAny_setField gu gd (by simp) ?_)));show wpAny _ _ (newExc (Value.type "StopIteration") [] >>= _) _ _ _;refine Dh ?_;simp only[newExc,newTuple];refine Dh (wpAny_newObj_type (hd:=by size_fits) ?_);refine Dh (m:=firstArgMember _ _) (wpAny_of_eq (a:=Value.none) (by first|rfl|(unfold firstArgMember;rfl)) ?_);refine wpAny_newObj_type (hd:=by size_fits) ?_;simp only[raiseNew];refine Dh (wpAny_handled ?_)
 first|rw [show Around.handled A.in1=none from hA]|rw [hA]
 refine Dh (Di (wpAny_throw ?_));exact q _ _ (((Heap.SameBut.update ..).extBut.push _).push _) ⟨_,Dl _ rfl,rfl⟩
end
structure Sub(P:Program)(w:World)(K:Dj)(J:It)(it:Addr)(tn:Nat->Heap->Prop):Prop where
 obj:∀i h,tn i h->∃o,h.get? it=some o/\∀v,o.data≠.cell v
 keep:∀i h h',tn i h->(∀o,h.get? it=some o->h'.get? it=some o)->tn i h'
 item:∀(X:Cx),X.prog=P->X.w=w->X.K=K->∀(A:Around) (i:Nat) (pins:List (Addr×Obj)) (s:Shared) (σ:St) (H:Hp) (Q:Value->Shared->Prop) (E:Value->Shared->Prop),Inv X pins σ H s->bW X pins H it->tn i s.heap->J.go i H →
  (∀x u h',Inv X pins σ H { s with heap:=h' }->RelV x u->J.yld i H x H->tn (i+1) h'->Heap.SameBut it s.heap h'->Q u { s with heap:=h' })->wpAny (model P w) A (Builtin.SmallTypes.nextOf (.ref it)) Q E s
 done:∀(X:Cx),X.prog=P->X.w=w->X.K=K->∀(A:Around),A.handled=none->∀(i:Nat) (pins:List (Addr×Obj)) (s:Shared) (σ:St) (H:Hp) (Q:Value->Shared->Prop) (E:Value->Shared->Prop),Inv X pins σ H s->bW X pins H it->tn i s.heap->J.stop i H →
  (∀h' e,Heap.ExtBut it s.heap h'->(∃o,h'.get? e=some o/\o.cls=.type "StopIteration")->E (.ref e) { s with heap:=h' })->wpAny (model P w) A (Builtin.SmallTypes.nextOf (.ref it)) Q E s
def uD{P:Program}{w:World}{K:Dj}(a it:Addr):Sub P w K (cF K a) it (λi h=>h.IsListIter it a i) where
 obj:=λi h st=>by obtain⟨o,e,c,d⟩:=st;exact⟨o,e,λv z=>by rw[d]at z;cases z⟩
 keep:=λi h h' st k=>st.at k
 item:=by intro X hP hw hK A i pins s σ H Q E I hf st hg hQ;subst hP hw hK;obtain⟨xs,x,hq,hx⟩:=hg;obtain⟨its,rv,p,hz⟩:=I.list hq;obtain⟨u,hu,ru⟩:=rv.get hx;obtain⟨f0,f1,f2,f3,f4,f5⟩:=hf;exact wpAny_nextOf_list_item st p.isList (x:=u) (by simpa using hu) λh' st' sb=>hQ x u h' (I.turned (t':=s.toks) (it:=it) (λb o hb e=>(sb.2 b hb).trans e) f0 f1 f3 f4 f5) ru ⟨rfl,λys hy=>by rw[I.list_inj hy hq];exact hx⟩ st' sb
 done:=by intro X hP hw hK A hA i pins s σ H Q E I hf st hg hE;subst hP hw hK;obtain⟨xs,hq,hx⟩:=hg;obtain⟨its,rv,p,hz⟩:=I.list hq;have hl:=rv.length;exact wpAny_nextOf_list_end hA st p.isList (by simp;omega) hE
def pH{P:Program}{w:World}{K:Dj}(a it:Addr):Sub P w K (cS K a) it (λi h=>h.IsTupleIter it a i) where
 obj:=λi h st=>by obtain⟨o,e,c,d⟩:=st;exact⟨o,e,λv z=>by rw[d]at z;cases z⟩
 keep:=λi h h' st k=>st.at k
 item:=by intro X hP hw hK A i pins s σ H Q E I hf st hg hQ;subst hP hw hK;obtain⟨xs,x,hq,hx⟩:=hg;obtain⟨its,rv,p,hz⟩:=I.tuple hq;obtain⟨u,hu,ru⟩:=rv.get hx;obtain⟨f0,f1,f2,f3,f4,f5⟩:=hf;exact BX st (show s.heap.IsTuple a its.toArray from p) (x:=u) (by simpa using hu) λh' st' sb=>hQ x u h' (I.turned (t':=s.toks) (it:=it) (λb o hb e=>(sb.2 b hb).trans e) f0 f1 f3 f4 f5) ru ⟨rfl,λys hy=>by rw[I.tuple_inj hy hq];exact hx⟩ st' sb
 done:=by intro X hP hw hK A hA i pins s σ H Q E I hf st hg hE;subst hP hw hK;obtain⟨xs,hq,hx⟩:=hg;obtain⟨its,rv,p,hz⟩:=I.tuple hq;have hl:=rv.length;exact xB hA st (show s.heap.IsTuple a its.toArray from p) (by simp;omega) hE
def fL(J1 J2:It):It:=⟨λi H=>J1.go i H/\J2.go i H,λi H x H'=>∃p u v,x=.ref p/\H p=none/\H'=upd H p (.tup [u,v])/\J1.yld i H u H/\J2.yld i H v H,λi H=>J1.stop i H\/(J1.go i H/\J2.stop i H)⟩
structure Apart(z TI TO i1 i2:Addr):Prop where
 a:TI≠z
 b:TO≠z
 c:i1≠z
 d:i2≠z
 e:TI≠TO
 f:TI≠i1
 g:TI≠i2
 h:TO≠i1
 i:TO≠i2
 j:i1≠i2
section
variable {X:Cx} {pins:List (Addr×Obj)} {σ:St} {H:Hp} {s:Shared}
def Inv.same{it:Addr}{k h':Heap}(I:Inv X pins σ H { s with heap:=k })(f:bW X pins H it)(b:Heap.ExtBut it k h'):Inv X pins σ H { s with heap:=h' }:=by obtain⟨f0,f1,f2,f3,f4,f5⟩:=f;exact Inv.turned (s:={ s with heap:=k }) (t':=s.toks) (it:=it) I (λc o hb e=>b c o hb e) f0 f1 f3 f4 f5
def xD{J1 J2:It}{z TI TO i1 i2:Addr}{t1 t2:Nat->Heap->Prop}{A:Around}{E:Value->Shared->Prop}{a b:Value}{i:Nat}{Q:Value->Shared->Prop}(S1:Sub X.prog X.w X.K J1 i1 t1)(S2:Sub X.prog X.w X.K J2 i2 t2)(N:Apart z TI TO i1 i2)
  (I:Inv X pins σ H s) (hf:∀b∈[z,TI,TO,i1,i2],bW X pins H b) (gz:IsZip s.heap z TI TO .none) (gI:IsPair s.heap TI (.ref i1) (.ref i2)) (gO:IsPair s.heap TO a b) (g1:t1 i s.heap) (g2:t2 i s.heap) (go1:J1.go i H) (go2:J2.go i H)
  (q:∀x y h',Inv X pins σ (upd H s.heap.objs.size (.tup [x,y])) { s with heap:=h' }->J1.yld i H x H->J2.yld i H y H->IsZip h' z TI TO (rawInt s.heap.objs.size)->IsPair h' TI (.ref i1) (.ref i2)->(∃a b,IsPair h' TO a b)->t1 (i+1) h'->t2 (i+1) h'->Q (.ref s.heap.objs.size) { s with heap:=h' }) :
  wpAny (model X.prog X.w) A (Builtin.«zip.__next__» ⟨[.ref z],[]⟩) (λfin s'=>∃v,fin=.done (.ret v)/\Q v s') E s:=by
 have fz:=hf z (by simp);have fO:=hf TO (by simp);have f1:=hf i1 (by simp);have f2:=hf i2 (by simp);show wpAny _ _ (field (Value.ref z) 2 >>= _) _ _ _;refine Dh (wpAny_field gz rfl (x:=Value.bool false) rfl ?_);show wpAny _ _ (field (Value.ref z) 3 >>= _) _ _ _;refine Dh (wpAny_field gz rfl (x:=Value.ref TI) rfl ?_);refine Dh (wpAny_seqItems gI rfl ?_);show wpAny _ _ (Builtin.SmallTypes.ownedTupleIsFree (Value.ref z) >>= _) _ _ _;refine Dh ?_;unfold Builtin.SmallTypes.ownedTupleIsFree;refine Dh (wpAny_field gz rfl (x:=Value.none) rfl (Di ?_));simp only[if_true];refine Dh (wpAny_rule ?_);refine Dh (wpAny_field gz rfl (x:=Value.ref TO) rfl ?_);refine Dh (wpAny_setField_rec gz (by simp) λk1 gz1 b1=>?_)
 replace gz1:IsZip k1 z TI TO .ellipsis:=gz1
 have s1:=b1.1
 replace b1:=b1.extBut
 have I1:Inv X pins σ H { s with heap:=k1 }:=Inv.same (show Inv X pins σ H { s with heap:=s.heap }from I) fz b1;refine Dh ?_;simp only[List.zipIdx_cons,List.zipIdx_nil,List.forIn_cons,List.forIn_nil];refine Dh (Dh (wpAny_onRaise ?_));show wpAny _ _ (Builtin.SmallTypes.nextOf (Value.ref i1) >>= _) _ _ _;refine Dh (S1.item X rfl rfl rfl _ i pins _ σ H _ _ I1 f1 (S1.keep i _ _ g1 λo e=>b1 _ _ N.c e) go1 λx ux k2 I2 rx yx t12 b2=>Di ?_)
 replace I2:Inv X pins σ H { s with heap:=k2 }:=I2
 have s2:=b2.1
 replace b2:=b2.extBut
 have gO2:IsPair k2 TO a b:=b2 _ _ N.h (b1 _ _ N.b gO);refine Dh (wpAny_seqItems gO2 rfl ?_);refine Dh (wpAny_updateSeq_pair gO2 λk3 gO3 b3=>?_)
 replace gO3:IsPair k3 TO ux b:=gO3
 have s3:=b3.1
 replace b3:=b3.extBut
 have I3:Inv X pins σ H { s with heap:=k3 }:=Inv.same I2 fO b3;refine Dh (wpAny_letGo (Di ?_));refine Dh (Dh (wpAny_onRaise ?_));show wpAny _ _ (Builtin.SmallTypes.nextOf (Value.ref i2) >>= _) _ _ _;refine Dh (S2.item X rfl rfl rfl _ i pins _ σ H _ _ I3 f2 (S2.keep i _ _ g2 λo e=>b3 _ _ (Ne.symm N.i) (b2 _ _ (Ne.symm N.j) (b1 _ _ N.d e))) go2 λy uy k4 I4 ry yy t24 b4=>Di ?_)
 replace I4:Inv X pins σ H { s with heap:=k4 }:=I4
 have s4:=b4.1
 replace b4:=b4.extBut
 have gO4:IsPair k4 TO ux b:=b4 _ _ N.i gO3;refine Dh (wpAny_seqItems gO4 rfl ?_);refine Dh (wpAny_updateSeq_pair gO4 λk5 gO5 b5=>?_)
 replace gO5:IsPair k5 TO ux uy:=gO5
 have s5:=b5.1
 replace b5:=b5.extBut
 have I5:Inv X pins σ H { s with heap:=k5 }:=Inv.same I4 fO b5;refine Dh (wpAny_letGo (Di (Di ?_)));refine Dh (wpAny_seqItems gO5 rfl ?_);refine Dh (wpAny_newTuple ?_);have sz:k5.objs.size=s.heap.objs.size:=by rw[s5,s4,s3,s2,s1]
 have gz5:IsZip k5 z TI TO .ellipsis:=b5 _ _ (Ne.symm N.b) (b4 _ _ (Ne.symm N.d) (b3 _ _ (Ne.symm N.b) (b2 _ _ (Ne.symm N.c) gz1)));have gI5:IsPair k5 TI (.ref i1) (.ref i2):=b5 _ _ N.e (b4 _ _ N.g (b3 _ _ N.e (b2 _ _ N.f (b1 _ _ N.a gI))));have t15:t1 (i+1) k5:=S1.keep _ _ _ (S1.keep _ _ _ (S1.keep _ _ _ t12 λo e=>b3 _ _ (Ne.symm N.h) e) λo e=>b4 _ _ N.j e) λo e=>b5 _ _ (Ne.symm N.h) e;have t25:t2 (i+1) k5:=S2.keep _ _ _ t24 λo e=>b5 _ _ (Ne.symm N.i) e;have lz:z<k5.objs.size:=Dm gz5;have I6:Inv X pins σ (upd H k5.objs.size (.tup [x,y])) { s with heap:=k5.push { cls:=.type "tuple",data:=.seq #[ux,uy] } }:=
  I5.laid (t':=s.toks) (o:=.tup [x,y]) (λb ob e=>Dk _ e) (DI _) ⟨by show 2<=sizeLine;decide,[ux,uy],.cons rx (.cons ry .nil),IsTup.new _ _⟩
 have fz6:bW X pins (upd H k5.objs.size (.tup [x,y])) z:=by obtain⟨c0,c1,c2,c3,c4,c5⟩:=fz;exact⟨by rw[ax (DH lz)];exact c0,c1,c2,c3,c4,c5⟩
 show wpAny _ _ (Builtin.SmallTypes.ownedTupleHandOut (Value.ref z) (Value.ref k5.objs.size) >>= _) _ _ _;refine Dh ?_;unfold Builtin.SmallTypes.ownedTupleHandOut;have gz6:IsZip (k5.push { cls:=.type "tuple",data:=.seq #[ux,uy] }) z TI TO .ellipsis:=Dk _ gz5;refine Dh (wpAny_setField_rec gz6 (by simp) λk7 gz7 b7=>?_)
 replace gz7:IsZip k7 z TI TO (rawInt k5.objs.size):=gz7
 replace b7:=b7.extBut
 have I7:Inv X pins σ (upd H k5.objs.size (.tup [x,y])) { s with heap:=k7 }:=Inv.same I6 fz6 b7;refine wpAny_setField_rec gz7 (by simp) λk8 gz8 b8=>?_
 replace gz8:IsZip k8 z TI TO (rawInt k5.objs.size):=gz8
 replace b8:=b8.extBut
 have I8:Inv X pins σ (upd H k5.objs.size (.tup [x,y])) { s with heap:=k8 }:=Inv.same I7 fz6 b8;have up:∀b o,b≠z->k5.get? b=some o->k8.get? b=some o:=λb o ne e=>b8 _ _ ne (b7 _ _ ne (Dk _ e));rw[sz]at I8 gz8;refine Di ⟨_,rfl,?_⟩;show Q (.ref k5.objs.size) _;rw[sz];exact q x y k8 I8 yx yy gz8 (up _ _ N.a gI5) ⟨_,_,up _ _ N.b gO5⟩ (S1.keep _ _ _ t15 λo e=>up _ o N.c e) (S2.keep _ _ _ t25 λo e=>up _ o N.d e)
def zL{J1 J2:It}{z TI TO i1 i2:Addr}{t1 t2:Nat->Heap->Prop}{A:Around}{E:Value->Shared->Prop}{a b:Value}{i:Nat}{Q:Fin->Shared->Prop}(hA:A.handled=none)(S1:Sub X.prog X.w X.K J1 i1 t1)(S2:Sub X.prog X.w X.K J2 i2 t2)(N:Apart z TI TO i1 i2)
  (I:Inv X pins σ H s) (hf:∀b∈[z,TI,TO,i1,i2],bW X pins H b) (gz:IsZip s.heap z TI TO .none) (gI:IsPair s.heap TI (.ref i1) (.ref i2)) (gO:IsPair s.heap TO a b) (g1:t1 i s.heap) (g2:t2 i s.heap) (st:J1.stop i H\/(J1.go i H/\J2.stop i H))
  (q:∀h' e,Inv X pins σ H { s with heap:=h' }->(∃o,h'.get? e=some o/\o.cls=.type "StopIteration")->E (.ref e) { s with heap:=h' }) :
  wpAny (model X.prog X.w) A (Builtin.«zip.__next__» ⟨[.ref z],[]⟩) Q E s:=by
 have fz:=hf z (by simp);have fO:=hf TO (by simp);have f1:=hf i1 (by simp);have f2:=hf i2 (by simp);show wpAny _ _ (field (Value.ref z) 2 >>= _) _ _ _;refine Dh (wpAny_field gz rfl (x:=Value.bool false) rfl ?_);show wpAny _ _ (field (Value.ref z) 3 >>= _) _ _ _;refine Dh (wpAny_field gz rfl (x:=Value.ref TI) rfl ?_);refine Dh (wpAny_seqItems gI rfl ?_);show wpAny _ _ (Builtin.SmallTypes.ownedTupleIsFree (Value.ref z) >>= _) _ _ _;refine Dh ?_;unfold Builtin.SmallTypes.ownedTupleIsFree;refine Dh (wpAny_field gz rfl (x:=Value.none) rfl (Di ?_));simp only[if_true];refine Dh (wpAny_rule ?_);refine Dh (wpAny_field gz rfl (x:=Value.ref TO) rfl ?_);refine Dh (wpAny_setField_rec gz (by simp) λk1 gz1 b1=>?_)
 replace gz1:IsZip k1 z TI TO .ellipsis:=gz1
 replace b1:=b1.extBut
 have I1:Inv X pins σ H { s with heap:=k1 }:=Inv.same (show Inv X pins σ H { s with heap:=s.heap }from I) fz b1;refine Dh ?_;simp only[List.zipIdx_cons,List.zipIdx_nil,List.forIn_cons,List.forIn_nil];refine Dh (Dh (wpAny_onRaise ?_));show wpAny _ _ (Builtin.SmallTypes.nextOf (Value.ref i1) >>= _) _ _ _;have t11:t1 i k1:=S1.keep i _ _ g1 λo e=>b1 _ _ N.c e;rcases st with st|⟨go,st⟩
 ·refine Dh (S1.done X rfl rfl rfl _ hA i pins _ σ H _ _ I1 f1 t11 st λk2 e b2 he=>?_);obtain⟨oe,hoe,hce⟩:=he;have gz2:IsZip k2 z TI TO .ellipsis:=b2 _ _ (Ne.symm N.c) gz1;have I2:Inv X pins σ H { s with heap:=k2 }:=Inv.same I1 f1 b2;have ne:e≠z:=λx=>by subst x;rw[gz2]at hoe;cases hoe;simp at hce
  exact wpAny_setField_rec gz2 (by simp) λk3 _ b3=>q k3 e (Inv.same I2 fz b3.extBut) ⟨oe,b3.extBut _ _ ne hoe,hce⟩
 ·refine Dh (S1.item X rfl rfl rfl _ i pins _ σ H _ _ I1 f1 t11 go λx ux k2 I2 rx yx t12 b2=>Di ?_)
  replace I2:Inv X pins σ H { s with heap:=k2 }:=I2
  replace b2:=b2.extBut
  have gO2:IsPair k2 TO a b:=b2 _ _ N.h (b1 _ _ N.b gO);refine Dh (wpAny_seqItems gO2 rfl ?_);refine Dh (wpAny_updateSeq_pair gO2 λk3 gO3 b3=>?_)
  replace b3:=b3.extBut
  have I3:Inv X pins σ H { s with heap:=k3 }:=Inv.same I2 fO b3;refine Dh (wpAny_letGo (Di ?_));refine Dh (Dh (wpAny_onRaise ?_));show wpAny _ _ (Builtin.SmallTypes.nextOf (Value.ref i2) >>= _) _ _ _;refine Dh (S2.done X rfl rfl rfl _ hA i pins _ σ H _ _ I3 f2 (S2.keep i _ _ g2 λo e=>b3 _ _ (Ne.symm N.i) (b2 _ _ (Ne.symm N.j) (b1 _ _ N.d e))) st λk4 e b4 he=>?_);obtain⟨oe,hoe,hce⟩:=he;have gz4:IsZip k4 z TI TO .ellipsis:=b4 _ _ (Ne.symm N.d) (b3 _ _ (Ne.symm N.b) (b2 _ _ (Ne.symm N.c) gz1));have I4:Inv X pins σ H { s with heap:=k4 }:=Inv.same I3 f2 b4;have ne:e≠z:=λx=>by subst x;rw[gz4]at hoe;cases hoe;simp at hce
  exact wpAny_setField_rec gz4 (by simp) λk5 _ b5=>q k5 e (Inv.same I4 fz b5.extBut) ⟨oe,b5.extBut _ _ ne hoe,hce⟩
end
def yc{P:Program}{w:World}{K:Dj}{elts:List Expr}{kk:Nat}{ps:Pos}{J1 J2:It}{z TI TO i1 i2:Addr}{t1 t2:Nat->Heap->Prop}(S1:Sub P w K J1 i1 t1)(S2:Sub P w K J2 i2 t2)(N:Apart z TI TO i1 i2):
  Turn P w K (.Tuple elts kk ps) (fL J1 J2) [z,TI,TO,i1,i2] z (λi h=>IsZip h z TI TO .none/\IsPair h TI (.ref i1) (.ref i2)/\(∃a b,IsPair h TO a b)/\t1 i h/\t2 i h) where
 mem:=by simp
 obj:=λi h st b hb=>by
  obtain⟨gz,gI,⟨a,c,gO⟩,g1,g2⟩:=st;simp only[DD,DT,or_false]at hb;rcases hb with rfl|rfl|rfl|rfl|rfl
  ·exact⟨_,gz,λv e=>by cases(show Data.fields _=Data.cell v from e)⟩
  ·exact⟨_,gI,λv e=>by cases(show Data.seq _ _=Data.cell v from e)⟩
  ·exact⟨_,gO,λv e=>by cases(show Data.seq _ _=Data.cell v from e)⟩
  ·exact S1.obj _ _ g1
  ·exact S2.obj _ _ g2
 keep:=λi h h' st k=>by obtain⟨gz,gI,⟨a,c,gO⟩,g1,g2⟩:=st;exact⟨k z (by simp) _ gz,k TI (by simp) _ gI,⟨a,c,k TO (by simp) _ gO⟩,S1.keep _ _ _ g1 λo e=>k i1 (by simp) o e,S2.keep _ _ _ g2 λo e=>k i2 (by simp) o e⟩
 item:=by
  intro X hP hw hK hc i pins s σ H E I hf st hg;subst hP hw hK;obtain⟨gz,gI,⟨a,c,gO⟩,g1,g2⟩:=st;have gT:s.TypeIs (.ref z) "zip":=⟨_,gz,rfl⟩;unfold pyNext;refine Dh (wpAny_attempt (Ej (name:=DY "__next__") gT F.slot_zip_next (wpAny_call_entry F.slot_zip_next gT F.entry_zip_next
   (xD S1 S2 N I hf gz gI gO g1 g2 hg.1 hg.2 λx y h' I' yx yy gz' gI' gO' g1' g2'=>Di ⟨_,rfl,?_⟩) (F.args_zip_next_1 _))))
  have lt:∀b∈[z,TI,TO,i1,i2],b≠s.heap.objs.size:=λb hb=>by
   obtain⟨f0,f1,f2,f3,f4,f5⟩:=hf b hb;simp only[DD,DT,or_false]at hb;rcases hb with rfl|rfl|rfl|rfl|rfl
   ·exact DH (Dm gz)
   ·exact DH (Dm gI)
   ·exact DH (Dm gO)
   ·obtain⟨o,e,_⟩:=S1.obj _ _ g1;exact DH (Dm e)
   ·obtain⟨o,e,_⟩:=S2.obj _ _ g2;exact DH (Dm e)
  have fz:bW X pins (upd H s.heap.objs.size (.tup [x,y])) z:=by obtain⟨c0,c1,c2,c3,c4,c5⟩:=hf z (by simp);exact⟨by rw[ax (lt z (by simp))];exact c0,c1,c2,c3,c4,c5⟩
  obtain⟨a',c',gO'⟩:=gO';refine wpAny_letOwnedTupleGo_zip (s:={ s with heap:=h' }) gz' λk gk bk=>?_;refine⟨.ref s.heap.objs.size,upd H s.heap.objs.size (.tup [x,y]),Inv.same I' fz bk.extBut,rfl,⟨_,x,y,rfl,I.hok.fresh (DI _),rfl,yx,yy⟩,
   ⟨gk,bk.extBut _ _ N.a gI',⟨_,_,bk.extBut _ _ N.b gO'⟩,S1.keep _ _ _ g1' λo e=>bk.extBut _ _ N.c e,S2.keep _ _ _ g2' λo e=>bk.extBut _ _ N.d e⟩,λb hb=>?_⟩
  rw[ax (lt b hb)];exact(hf b hb).1
 done:=by
  intro X hP hw hK hc i pins s σ H E I hf st hg;subst hP hw hK;obtain⟨gz,gI,⟨a,c,gO⟩,g1,g2⟩:=st;have gT:s.TypeIs (.ref z) "zip":=⟨_,gz,rfl⟩;unfold pyNext;refine Dh (wpAny_attempt (Ej (name:=DY "__next__") gT F.slot_zip_next (wpAny_call_entry F.slot_zip_next gT F.entry_zip_next
   (zL (I.ok.hd hc) S1 S2 N I hf gz gI gO g1 g2 hg λh' e I' he=>?_) (F.args_zip_next_1 _))))
  obtain⟨o,ho,hc'⟩:=he;refine Dh (wpAny_isInstance (s:={ s with heap:=h' }) (T:="StopIteration") (b:=true) ⟨o,ho,hc'⟩ isSubtype_stop ?_);exact Di ⟨rfl,I'⟩
 self:=λ_ _ _ _ _ st h=>wpAny_pyIter_zip st.1 h
abbrev j1(h:Heap)(a:Addr):Heap:=h.push { cls:=.type "tuple_iterator",data:=.fields #[.ref a,.int 0 0] }
abbrev kn(h:Heap)(a b:Addr):Heap:=(j1 h a).push { cls:=.type "tuple_iterator",data:=.fields #[.ref b,.int 0 0] }
abbrev jS(h:Heap)(a b:Addr):Heap:=(kn h a b).push { cls:=.type "tuple",data:=.seq #[.ref h.objs.size,.ref (j1 h a).objs.size] }
abbrev ko(h:Heap)(a b:Addr):Heap:=(jS h a b).push { cls:=.type "tuple",data:=.seq #[.none,.none] }
abbrev gY(h:Heap)(a b:Addr):Heap:=(ko h a b).push { cls:=.type "zip",data:=.fields #[.none,.bool false,.bool false,.ref (kn h a b).objs.size,.ref (jS h a b).objs.size] }
def Cm(a b:Addr)(xs ys:Array Value):Meets (Builtin.«zip.__new__» ⟨[.type "zip",.ref a,.ref b],[]⟩) (λ_ R s=>s.heap.IsTuple a xs/\s.heap.IsTuple b ys/\R (.ok (.ret (.ref (ko s.heap a b).objs.size))) { s with heap:=gY s.heap a b }):=
 .of_wp λprog w A R s q=>by
  obtain⟨hp,g,d,tk,os⟩:=s;obtain⟨ga,gb,q⟩:=q;have hsub:=sub_zip;have gA:Heap.IsTuple (Shared.heap ⟨hp,g,d,tk,os⟩) a xs:=ga;have gB:Heap.IsTuple (Shared.heap ⟨hp.push { cls:=.type "tuple_iterator",data:=.fields #[.ref a,.int 0 0] },g,d,tk,os⟩) b ys:=Heap.IsTuple.push gb _
  wp_walk using wpAny_pyIter_tuple gA,wpAny_pyIter_tuple gB
  exact⟨_,rfl,q⟩
def yA{prog:Program}{w:World}{A:Around}{E:Value->Shared->Prop}{s:Shared}{a b:Addr}{xs ys:Array Value}{Q:Value->Shared->Prop}(ga:s.heap.IsTuple a xs)(gb:s.heap.IsTuple b ys)
  (q:∀h',IsZip h' (s.heap.objs.size+4) (s.heap.objs.size+2) (s.heap.objs.size+3) .none->IsPair h' (s.heap.objs.size+2) (.ref s.heap.objs.size) (.ref (s.heap.objs.size+1))->IsPair h' (s.heap.objs.size+3) .none .none →
   h'.IsTupleIter s.heap.objs.size a 0->h'.IsTupleIter (s.heap.objs.size+1) b 0->(∀c o,s.heap.get? c=some o->h'.get? c=some o)->Q (.ref (s.heap.objs.size+4)) { s with heap:=h' }) :
  wpAny (model prog w) A (call (.type "zip") [.ref a,.ref b]) Q E s:=by
 refine callType_new F.called_zip (by decide) (F.typeCall_zip_2 _ _) (F.newCall_zip_2 _ _) (λob=>F.args_object_init_3 ob _ _) F.entry_zip_new (Cm a b xs ys) ⟨ga,gb,?_⟩;have n1:(j1 s.heap a).objs.size=s.heap.objs.size+1:=Heap.size_push ..;have n2:(kn s.heap a b).objs.size=s.heap.objs.size+2:=by rw[Heap.size_push,n1]
 have n3:(jS s.heap a b).objs.size=s.heap.objs.size+3:=by rw[Heap.size_push,n2]
 have n4:(ko s.heap a b).objs.size=s.heap.objs.size+4:=by rw[Heap.size_push,n3]
 have k5:(gY s.heap a b).get? (ko s.heap a b).objs.size=some _:=Dl _ rfl;have k4:(gY s.heap a b).get? (jS s.heap a b).objs.size=some _:=Dk _ (Dl _ rfl);have k3:(gY s.heap a b).get? (kn s.heap a b).objs.size=some _:=Dk _ (Dk _ (Dl _ rfl));have k2:(gY s.heap a b).get? (j1 s.heap a).objs.size=some _:=Dk _ (Dk _ (Dk _ (Dl _ rfl)));have k1:(gY s.heap a b).get? s.heap.objs.size=some _:=Dk _ (Dk _ (Dk _ (Dk _ (Dl _ rfl))));show _/\_;rw[n2,n3,n4]at k5;rw[n1,n2]at k3;rw[n3]at k4;rw[n1]at k2;rw[n4];exact⟨⟨_,k5,rfl⟩,q _ k5 k3 k4 ⟨_,k1,rfl,rfl⟩ ⟨_,k2,rfl,rfl⟩ λc o x=>Dk _ (Dk _ (Dk _ (Dk _ (Dk _ x))))⟩
section
variable {K:Dj} {σ:St} {H:Hp} {Q:VK}
def mw(K:Dj):List V->Hp->(It->Hp->Prop)->Prop:=λvs H R=>∃a b xs ys,vs=[.ref a,.ref b]/\((aj K H a xs/\aj K H b ys/\R (fL (cS K a) (cS K b)) H)\/(ag K H a xs/\ag K H b ys/\R (fL (cF K a) (cF K b)) H))
def vG(K:Dj)(ta:TA):TI:=λσ H R=>ta σ H λvs H1=>mw K vs H1 R
def zU{X:Cx}{elts:List Expr}{kk:Nat}{ps:Pos}(K:Dj){a b:Expr}{ta:TA}{p pos:Pos}(hg:Gl X "zip")(hm:X.mg "zip" = none)(ha:PA X [a,b] ta)(hK:X.K=K:=by rfl)(hs:starEach [a,b] X.env=[(false,eval a X.env),(false,eval b X.env)]:=by rfl)(hs2:starEach [b] X.env=[(false,eval b X.env)]:=by rfl):
  PI X (.Tuple elts kk ps) (.Call (.Name "zip" p) [a,b] [] pos) (vG K ta):=by
 subst hK;intro pins s σ H R I h;refine Call_ (f9 I hg hm PyProof.Rows.boot_zip (PyProof.Rows.callWith_type1 (aw (ha pos pins s σ H _ I h) λus s1 ⟨vs,H1,I1,r1,q1⟩=>?_) (by rw[hs,hs2]) (by rw[hs2];rfl)));obtain⟨l,m,xs,ys,e,q1⟩:=q1;subst e;cases r1 with
 | cons r rr=>
  cases rr with
  | cons r' rr=>
   cases rr;cases r;cases r';have mk:∀{J1 J2:It} {t1 t2:Nat->Heap->Prop},Sub X.prog X.w X.K J1 s1.heap.objs.size t1->Sub X.prog X.w X.K J2 (s1.heap.objs.size+1) t2->∀h',IsZip h' (s1.heap.objs.size+4) (s1.heap.objs.size+2) (s1.heap.objs.size+3) .none->IsPair h' (s1.heap.objs.size+2) (.ref s1.heap.objs.size) (.ref (s1.heap.objs.size+1)) →
     IsPair h' (s1.heap.objs.size+3) .none .none->t1 0 h'->t2 0 h'->(∀c o,s1.heap.get? c=some o->h'.get? c=some o)->R (fL J1 J2) H1->wpAny (model X.prog X.w) X.A (pyIter (.ref (s1.heap.objs.size+4))) (mV X pins σ (.Tuple elts kk ps) R) X.xe { s1 with heap:=h' }:=by
    intro J1 J2 t1 t2 S1 S2 h' gz gI gO g1 g2 k q;refine wpAny_pyIter_zip (s:={ s1 with heap:=h' }) gz ?_;have N:Apart (s1.heap.objs.size+4) (s1.heap.objs.size+2) (s1.heap.objs.size+3) s1.heap.objs.size (s1.heap.objs.size+1):=by constructor<;>(intro h;have h':@Eq Nat _ _:=h;omega)
    refine⟨s1.heap.objs.size+4,[s1.heap.objs.size+4,s1.heap.objs.size+2,s1.heap.objs.size+3,s1.heap.objs.size,s1.heap.objs.size+1],_,_,H1,rfl,I1.kept (t':=s1.toks) k,yc S1 S2 N,⟨gz,gI,⟨_,_,gO⟩,g1,g2⟩,λb hb=>?_,q⟩;have le:@LE.le Nat _ s1.heap.objs.size b:=by
     simp only[DD,DT,or_false]at hb;rcases hb with rfl|rfl|rfl|rfl|rfl
     ·exact Nat.le_add_right _ _
     ·exact Nat.le_add_right _ _
     ·exact Nat.le_add_right _ _
     ·exact DI _
     ·exact Nat.le_add_right _ _
    exact I1.fpOk le (I1.hok.fresh le)
   rcases q1 with⟨ga,gb,q⟩|⟨ga,gb,q⟩
   ·obtain⟨its,_,p1,_⟩:=I1.tuple ga;obtain⟨its2,_,p2,_⟩:=I1.tuple gb;exact yA (show s1.heap.IsTuple l its.toArray from p1) (show s1.heap.IsTuple m its2.toArray from p2) λh' gz gI gO g1 g2 k=>mk (pH l _) (pH m _) h' gz gI gO g1 g2 k q
   ·obtain⟨its,_,p1,_⟩:=I1.list ga;obtain⟨its2,_,p2,_⟩:=I1.list gb;exact call_zip_2 p1.isList p2.isList λh' gz gI gO g1 g2 _ k=>mk (uD l _) (uD m _) h' gz gI gO g1 g2 k q
def rd_zip{a:TA}{R:It->Hp->Prop}(h:a σ H λvs H1=>mw K vs H1 R):vG K a σ H R:=h
def zd{a b:Addr}{xs ys:List V}{R:It->Hp->Prop}(ha:ag K H a xs)(hb:ag K H b ys)(h:R (fL (cF K a) (cF K b)) H):mw K [.ref a,.ref b] H R:=⟨a,b,xs,ys,rfl,.inr ⟨ha,hb,h⟩⟩
def Dg{a b:Addr}{xs ys:List V}{n:Nat}{js:List Nat}{g:TG}{tc:TT}{te:TE}(Pv:Nat->List V->Hp->Prop)(hz:xs.length<=sizeLine)(h0:Pv 0 [] H)(hl:∀i zs H,Pv i zs H->aj K H a xs/\aj K H b ys/\zs.length<=i)
  (hs:∀i u v zs H p H',xs[i]?=some u->ys[i]?=some v->Pv i zs H->Ext H H'->H' p=some (.tup [u,v])->H p=none->g (.ref p) (cD n js σ) H' λσ2 H3=>tc σ2 H3 λb H4=>if b=true then te σ2 H4 λv H5=>Pv (i+1) (zs++[v]) H5 else Pv (i+1) zs H4)
  (hd:∀zs H p,Pv (min xs.length ys.length) zs H->H p=none->Q (.ref p) (upd H p (.lst zs))):fP (fL (cS K a) (cS K b)) n js g tc te σ H Q:=by
 refine⟨λi m zs H=>m=min xs.length ys.length-i/\i<=min xs.length ys.length/\Pv i zs H,⟨min xs.length ys.length,by simp,Nat.zero_le _,h0⟩,?_⟩;rintro i m zs H ⟨rfl,hi,p⟩;obtain⟨qa,qb,ql⟩:=hl i zs H p;by_cases hlt:i<min xs.length ys.length
 ·have hx:i<xs.length:=by omega
  have hy:i<ys.length:=by omega
  refine .inr ⟨⟨⟨xs,xs[i],qa,by simp[hx]⟩,⟨ys,ys[i],qb,by simp[hy]⟩⟩,by omega,Pv (i+1),λzs' H' p'=>⟨min xs.length ys.length-(i+1),by omega,rfl,hlt,p'⟩,λx H' y=>?_⟩;obtain⟨pp,u,v,rfl,hn,rfl,yu,yv⟩:=y;exact hs i u v zs H pp _ (yu.2 xs qa) (yv.2 ys qb) p (bJ hn) aJ hn
 ·have e:i=min xs.length ys.length:=by omega
  refine .inl ⟨?_,λp' hp=>hd zs H p' (e ▸ p) hp⟩;by_cases h:xs.length<=i
  ·exact .inl ⟨xs,qa,h⟩
  ·exact .inr ⟨⟨xs,xs[i]'(by omega),qa,Dp (by omega)⟩,⟨ys,qb,by omega⟩⟩
def ym{a b:Addr}{xs ys:List V}{n:Nat}{js:List Nat}{g:TG}{tc:TT}{te:TE}(Pv:Nat->List V->Hp->Prop)(hz:xs.length<=sizeLine)(h0:Pv 0 [] H)(hl:∀i zs H,Pv i zs H->ag K H a xs/\ag K H b ys/\zs.length<=i)
  (hs:∀i u v zs H p H',xs[i]?=some u->ys[i]?=some v->Pv i zs H->Ext H H'->H' p=some (.tup [u,v])->H p=none->g (.ref p) (cD n js σ) H' λσ2 H3=>tc σ2 H3 λb H4=>if b=true then te σ2 H4 λv H5=>Pv (i+1) (zs++[v]) H5 else Pv (i+1) zs H4)
  (hd:∀zs H p,Pv (min xs.length ys.length) zs H->H p=none->Q (.ref p) (upd H p (.lst zs))):fP (fL (cF K a) (cF K b)) n js g tc te σ H Q:=by
 refine⟨λi m zs H=>m=min xs.length ys.length-i/\i<=min xs.length ys.length/\Pv i zs H,⟨min xs.length ys.length,by simp,Nat.zero_le _,h0⟩,?_⟩;rintro i m zs H ⟨rfl,hi,p⟩;obtain⟨qa,qb,ql⟩:=hl i zs H p;by_cases hlt:i<min xs.length ys.length
 ·have hx:i<xs.length:=by omega
  have hy:i<ys.length:=by omega
  refine .inr ⟨⟨⟨xs,xs[i],qa,by simp[hx]⟩,⟨ys,ys[i],qb,by simp[hy]⟩⟩,by omega,Pv (i+1),λzs' H' p'=>⟨min xs.length ys.length-(i+1),by omega,rfl,hlt,p'⟩,λx H' y=>?_⟩;obtain⟨pp,u,v,rfl,hn,rfl,yu,yv⟩:=y;exact hs i u v zs H pp _ (yu.2 xs qa) (yv.2 ys qb) p (bJ hn) aJ hn
 ·have e:i=min xs.length ys.length:=by omega
  refine .inl ⟨?_,λp' hp=>hd zs H p' (e ▸ p) hp⟩;by_cases h:xs.length<=i
  ·exact .inl ⟨xs,qa,h⟩
  ·exact .inr ⟨⟨xs,xs[i]'(by omega),qa,Dp (by omega)⟩,⟨ys,qb,by omega⟩⟩
end
def uS:R2:=λx y H Q=>∃a b xs ys,x=.ref a/\y=.ref b/\H a=some (.tup xs)/\H b=some (.tup ys)/\xs.length+ys.length<=sizeLine/\∀p H',Ext H H'->H' p=some (.tup (xs++ys))->Q (.ref p) H'
def tP{X:Cx}:aY X (binaryOp .Add) uS:=by
 intro pins s σ H x y v u Q I rx ry h;obtain⟨a,b,xs,ys,rfl,rfl,ha,hb,hz,q⟩:=h;cases rx;cases ry;by_cases hx:xs=[]
 ·subst hx;obtain⟨its,r1,p1,_⟩:=I.tuple (aj.of ha);obtain⟨its2,r2,p2,_⟩:=I.tuple (aj.of hb);have e:=r1.nil_iff.mpr rfl;subst e;obtain⟨⟨cls,dd,data,sl⟩,ho,hc,n,hd⟩:=id p1;obtain⟨⟨cls2,dd2,data2,sl2⟩,ho2,hc2,n2,hd2⟩:=id p2;simp only at hc hd hc2 hd2;subst hc hd hc2 hd2;refine concat_meets ⟨_,ho,rfl⟩ ⟨_,ho2,rfl⟩ noFill_tuple_add seq_tuple_add PySem.F.slot_tuple_add PySem.F.entry_tuple_add (PySem.F.args_tuple_add_2 _ _)
   (tuple_addW0 a b _ _ n n2 dd dd2 sl sl2 (by simp)) ⟨ho,ho2,⟨.ref b,H,I,rfl,q b H (λ_ _ h=>h) (by simpa using hb)⟩⟩
 ·refine yk pins s σ H (.ref a) (.ref b) _ _ Q I rfl rfl ⟨a,b,xs,ys,rfl,rfl,aj.of ha,aj.of hb,hx,hz,λhy=>?_,λhy p hp=>?_⟩
  ·subst hy;exact q a H (λ_ _ h=>h) (by simpa using ha)
  ·exact q p _ (bJ hp) aJ
def rm{H:Hp}{Q:VK}{a b:Addr}{xs ys:List V}(ha:H a=some (.tup xs))(hb:H b=some (.tup ys))(hz:xs.length+ys.length<=sizeLine)(h:∀p H',Ext H H'->H' p=some (.tup (xs++ys))->Q (.ref p) H'):uS (.ref a) (.ref b) H Q:=⟨a,b,xs,ys,rfl,rfl,ha,hb,hz,h⟩
mutual
inductive LitE:Expr->TE->Prop
 | non {j pos}:LitE (.Constant .none j pos) (tC .non)
 | bl {b j pos}:LitE (.Constant (.bool b) j pos) (tC (.bl b))
 | int {i j pos}:LitE (.Constant (.int i) j pos) (tC (.int i))
 | str {x j pos}:LitE (.Constant (.str x) j pos) (tC (.str x))
 | tup {es ta k pos}:LitsE es ta->LitE (.Tuple es k pos) (mB ta)
inductive LitsE:List Expr->TA->Prop
 | nil:LitsE [] mj
 | cons {e te es ta}:LitE e te->LitsE es ta->LitsE (e::es) (jG te ta)
end
def LitE.star{e:Expr}{te:TE}(h:LitE e te)(es:List Expr)(env:Env):starEach (e::es) env=(false,eval e env)::starEach es env:=by cases h<;>rfl
def cA(c:Addr)(q:Str):HO:=.ext λh=>h.CodeRec (.ref c) q
def dX(f c:Addr)(q:Str)(params:Arguments)(body:Expr)(scope:Scope):HO:=.ext λh=>∃pm ctv,h.get? f=some (PySem.W.kla_obj "<lambda>" q params body scope [] pm c ctv)
def vf{P:Program}{w:World}{H:Hp}{h:Heap}{c:Addr}{q:Str}(r:h.CodeRec (.ref c) q):bj P w H h c (cA c q):=by
 refine⟨r,?_,λh1 h2 r1 k=>?_⟩
 ·obtain⟨c',o,vs,t,e,g,_⟩:=r;cases e;exact⟨o,g⟩
 ·obtain⟨c',o,vs,t,e,g,d⟩:=r1;cases e;exact⟨c,o,vs,t,rfl,k o g,d⟩
def sE{P:Program}{w:World}{H:Hp}{h:Heap}{f c:Addr}{q:Str}{params:Arguments}{body:Expr}{scope:Scope}{pm ctv:Value}(r:h.get? f=some (PySem.W.kla_obj "<lambda>" q params body scope [] pm c ctv)):bj P w H h f (dX f c q params body scope):=
 ⟨⟨pm,ctv,r⟩,⟨_,r⟩,λh1 h2 ⟨a,b,g⟩ k=>⟨a,b,k _ g⟩⟩
section
variable {X:Cx} {pins:List (Addr×Obj)} {σ:St} {H:Hp} {s:Shared}
def Inv.lam{P c f:Addr}{ps more:Array Value}{q:Str}{params:Arguments}{body:Expr}{scope:Scope}{pm ctv:Value}{h':Heap}{tk:Nat}(I:Inv X pins σ H s)(hP:H P=some (.tbl ps))(b:Heap.ExtBut P s.heap h')(hc:s.heap.objs.size<=c)(hcf:c<f)(gP:h'.get? P=some { cls:=.none,data:=.fields (ps++more) })
  (gc:h'.CodeRec (.ref c) q) (gf:h'.get? f=some (PySem.W.kla_obj "<lambda>" q params body scope [] pm c ctv)) :
  Inv X pins σ (upd (upd (upd H P (.tbl (ps++more))) c (cA c q)) f (dX f c q params body scope)) { s with heap:=h',toks:=tk }:=by
 have hf:@LE.le Nat _ s.heap.objs.size f:=DS hc (Nat.le_of_lt hcf);have nc:H c=none:=I.hok.fresh hc;have nf:H f=none:=I.hok.fresh hf;have cf:f≠c:=Nat.ne_of_gt hcf;have Pc:c≠P:=λz=>by rw[z,hP]at nc;cases nc
 have Pf:f≠P:=λz=>by rw[z,hP]at nf;cases nf
 have old:∀b o,H b=some o->b≠P->upd (upd (upd H P (.tbl (ps++more))) c (cA c q)) f (dX f c q params body scope) b=some o:=λb o e n=>by rw[ax (bO e nf),ax (bO e nc),ax n];exact e
 have nP:∀b,H b=none->b≠P:=λb e z=>by rw[z,hP]at e;cases e
 refine I.un ⟨λb' o e n _ _=>b b' o (nP b' n) e,λb' o e n _ _=>⟨o.slots,b b' o (nP b' n) e⟩,λb' o e n _=>?_,λb' o e _=>?_,λb' xs e=>old b' _ e (λz=>by rw[z,hP]at e;cases e),λb' o u e=>old b' _ e (λz=>by rw[z,hP]at e;cases e),λb' qs e=>?_⟩ λb' u e=>?_
 ·have lt:@LT.lt Nat _ b' s.heap.objs.size:=Dm e;rw[ax (DH (DR lt hf)),ax (DH (DR lt hc)),ax (nP b' n)];exact n
 ·by_cases z:b'=P
  ·rw[z];exact⟨_,gP⟩
  ·exact⟨o,b b' o z e⟩
 ·by_cases z:b'=P
  ·subst z;rw[hP]at e;cases e;exact⟨more,by rw[ax (Ne.symm Pf),ax (Ne.symm Pc),aJ]⟩
  ·exact⟨#[],by rw[old b' _ e z];simp⟩
 ·by_cases z:b'=f
  ·subst z;rw[aJ]at e;cases e;exact sE gf
  ·rw[ax z]at e;by_cases z2:b'=c
   ·subst z2;rw[aJ]at e;cases e;exact vf gc
   ·rw[ax z2]at e;by_cases z3:b'=P
    ·subst z3;rw[aJ]at e;cases e;exact gP
    ·rw[ax z3]at e;refine(I.hok b' u e).stay (λd v hd g=>b d v ?_ g) (λd hd=>old d _ hd (λy=>by rw[y,hP]at hd;cases hd)) λd xs hd=>old d _ hd (λy=>by rw[y,hP]at hd;cases hd);rcases hd with rfl|hd
     ·exact z3
     ·exact λy=>by rw[y,hP]at hd;cases hd
end
def mi(P:Addr)(pos:Pos)(q:Str)(params:Arguments)(body:Expr)(scope:Scope)(H:Hp)(Q:VK):Prop:=
 (H P=some (.tbl #[])/\∀f c,H c=none->H f=none->c≠P->f≠P->f≠c->Q (.ref f) (upd (upd (upd H P (.tbl #[rawInt pos.line,rawInt pos.col,.ref c])) c (cA c q)) f (dX f c q params body scope))) ∨
 ∃c,H P=some (.tbl #[rawInt pos.line,rawInt pos.col,.ref c])/\H c=some (cA c q)/\∀f,H f=none->Q (.ref f) (upd H f (dX f c q params body scope))
def tE(P:Addr)(pos:Pos)(q:Str)(params:Arguments)(body:Expr)(scope:Scope):TE:=λ_ H Q=>mi P pos q params body scope H Q
def mJ{X:Cx}{params:Arguments}{body:Expr}{scope:Scope}{pos:Pos}{c P:Addr}(hcode:X.env.code=.ref c)(hgl:X.env.globals=mainGlobals)(C:PySem.W.CodeHd X.base c P)(hB:X.base.BuiltinsAt X.mg P)(hgP:mainGlobals≠P)(hfree:∀x∈scope.names,x.2≠.free)
  (hd0:params.defaults=[]) (hk0:params.kw_defaults=[]):PE X (.Lambda params body scope pos) (tE P pos (X.env.qual ++ "<lambda>") params body scope):=by
 intro pins s σ H Q I h;rw[arm_eval_Lambda,PySem.defaultsOf_eq,hk0,hd0];refine Dh (Di (Dh (wpAny_holding (Di ?_))));have hcl:closureFor scope X.env=pure []:=by
  simp only[closureFor];rw[forIn_yield_id [] (λx hx c=>by
   obtain⟨n,kind⟩:=x;have:(kind == NameKind.free)=false:=by simpa using hfree _ hx
   simp only[this,Ed,if_false])]
  rfl
 have C':PySem.W.CodeHd s.heap c P:=C.keeps λb o e=>(I.bs b o e).1;have hg:s.heap.Ns mainGlobals X.mg:=by obtain⟨o,es,ep,e,r⟩:=I.ok.mod.glob;exact⟨o,es,ep,(I.bs _ _ e).1,r⟩
 have hb:s.heap.BuiltinsAt X.mg P:=by obtain⟨bm,o,a1,a2,a3,a4,a5,a6⟩:=hB;exact⟨bm,o,a1,a2,a3,a4,(I.bs _ _ a5).1,a6⟩
 rcases h with⟨hP,q⟩|⟨c',hP,hc',q⟩
 ·have gP:s.heap.get? P=some (PySem.W.tabObj #[]):=I.hok P _ hP;refine PySem.W.kla_makeFunction hcl hgl hg hcode C' gP trivial rfl hgP hb λc' ctv h' tk hx hge hlt hrec htb=>?_;have nc:H c'=none:=I.hok.fresh hge;have hf:@LE.le Nat _ s.heap.objs.size h'.objs.size:=DS hge (Nat.le_of_lt hlt);have nf:H h'.objs.size=none:=I.hok.fresh hf;have lP:@LT.lt Nat _ P s.heap.objs.size:=Dm gP;have J:=Inv.lam (tk:=tk) (f:=h'.objs.size) (h':=h'.push (PySem.W.kla_obj "<lambda>" (X.env.qual ++ "<lambda>") params body scope [] ((X.mg "__name__").getD .none) c' ctv)) (more:=#[rawInt pos.line,rawInt pos.col,.ref c']) I hP (λb o n e=>Dk _ (hx b o n e)) hge hlt (Dk _ htb) (hrec.push _) (Dl _ rfl);rw[Array.empty_append]at J;exact⟨.ref h'.objs.size,_,J,rfl,q _ c' nc nf (Nat.ne_of_gt (DR lP hge)) (Nat.ne_of_gt (DR lP hf)) (Nat.ne_of_gt hlt)⟩
 ·have gP:s.heap.get? P=some (PySem.W.tabObj #[rawInt pos.line,rawInt pos.col,.ref c']):=I.hok P _ hP;refine PySem.W.kla_makeFunctionHit (cv:=.ref c') hcl hgl hg hcode C' gP trivial (by simp[codeAmong,rawInt]) hb λctv h' tk hx hge=>?_;exact⟨.ref h'.objs.size,_,I.laid (t':=tk) (o:=dX h'.objs.size c' (X.env.qual ++ "<lambda>") params body scope) (λb o e=>Dk _ (hx b o e)) hge (sE (Dl _ rfl)),rfl,q _ (I.hok.fresh hge)⟩
inductive LamB:Expr->(Bool->Bool->Bool)->Prop
 | and {p1 p2 p3}:LamB (.BoolOp .And [.Name "p" p1,.Name "q" p2] p3) λx y=>x && y
 | or {p1 p2 p3}:LamB (.BoolOp .Or [.Name "p" p1,.Name "q" p2] p3) λx y=>x || y
 | less {p1 p2 p3 p4}:LamB (.BoolOp .And [.Name "p" p1,.UnaryOp .Not (.Name "q" p2) p3] p4) λx y=>x && !y
 | ne {p1 p2 p3}:LamB (.Compare (.Name "p" p1) [.NotEq] [.Name "q" p2] p3) λx y=>!(x == y)
structure LamS(params:Arguments)(scope:Scope):Prop where
 sc:FnScope (["p","q"]:List Str) (["p","q"]:List Str) scope
 vp:scope.names.lookup ("p":Str)=some .local
 vq:scope.names.lookup ("q":Str)=some .local
 bind:∀(q:Str) (body:Expr) (pm cv ctv u v:Value),bindArgs (PySem.W.kla_fn "<lambda>" q params body scope [] pm cv ctv) ⟨[u,v],[]⟩=pure [(("p":Str),u),(("q":Str),v)]
def eP(H:Hp)(f:Addr)(g:Bool->Bool->Bool):Prop:=∃c q params body scope,H f=some (dX f c q params body scope)/\H c=some (cA c q)/\LamB body g/\LamS params scope
def CD{Y:Cx}{body:Expr}{g:Bool->Bool->Bool}(hN:Y.N=(["p","q"]:List Str))(vp:Y.env.scope.names.lookup ("p":Str)=some .local)(vq:Y.env.scope.names.lookup ("q":Str)=some .local)(b:LamB body g)(x y:Bool):
  ∃te,PE Y body te/\∀(H:Hp) (Q:VK),Q (.bl (g x y)) H->te [some (.bl x),some (.bl y)] H Q:=by
 have e0:Y.N[0]?=some ("p":Str):=by rw[hN];rfl
 have e1:Y.N[1]?=some ("q":Str):=by rw[hN];rfl
 have P0:∀{p:Pos},PE Y (.Name "p" p) (iO 0):=λ{p}=>m9 e0 (.inl vp);have P1:∀{p:Pos},PE Y (.Name "q" p) (iO 1):=λ{p}=>m9 e1 (.inl vq);cases b with
 | and=>
  refine⟨_,cW P0 (cM P1),λH Q q=>?_⟩;refine rd_andV (rd_var rfl (rd_exb ?_));cases x with
  | true=>exact aI (rd_var rfl q)
  | false=>exact aF q
 | or=>
  refine⟨_,kY P0 (cM P1),λH Q q=>?_⟩;refine rd_orV (rd_var rfl (rd_exb ?_));cases x with
  | true=>exact aI q
  | false=>exact aF (rd_var rfl q)
 | less=>
  refine⟨_,cW P0 (cM (uH P1)),λH Q q=>?_⟩;refine rd_andV (rd_var rfl (rd_exb ?_));cases x with
  | true=>exact aI (rd_notV (rd_var rfl (rd_exb q)))
  | false=>exact aF q
 | ne=>
  refine⟨_,cE fM P0 P1 (aM _),λH Q q=>?_⟩;exact rd_op (rd_var rfl (rd_var rfl (rd_NeB q)))
section
variable {X:Cx} {pins:List (Addr×Obj)} {σ:St} {H:Hp} {s:Shared}
def AX{k:Nat}{f:Addr}{g:Bool->Bool->Bool}{x y:Bool}{Q:VK}(I:Inv X pins σ H s)(h:eP H f g)(hr:Room (k+1) X.A)(q:Q (.bl (g x y)) H):wpAny (model X.prog X.w) X.A (call (.ref f) [.bool x,.bool y]) (EP X pins σ Q) X.xe s:=by
 obtain⟨c,qn,params,body,scope,hf,hc,hB,S⟩:=h;obtain⟨⟨pm,ctv,gf⟩,_⟩:=I.hok f _ hf;obtain⟨gc,_⟩:=I.hok c _ hc;have e0:=I.env0;have lim:s.heap.NoLimit:=e0.mod.nolimit.keeps λb o e=>(e0.bs b o e).1;have r:Vals [V.bl x,V.bl y] [Value.bool x,Value.bool y]:=.cons rfl (.cons rfl .nil);have run:codeAny (model X.prog X.w) X.A (.call (.ref f) ⟨[.bool x,.bool y],[]⟩) (CR cy X.stack X.prog X.w H s Q E0) s:=by
  refine PySem.W.kla_callFunE hr.depth gf rfl S.sc.co S.sc.gen rfl gc ?_;rw[S.bind];refine Di ?_;refine wpAny_newFunctionEnv_cells S.sc.kind (λz hz=>?_) λenv he s1 z=>?_
  ·simp only[DD,DT,or_false]at hz;rcases hz with rfl|rfl
   ·exact .inl S.vp
   ·exact .inl S.vq
  subst he;refine⟨lim.keeps z.toInCall.keep,PySem.W.kla_codeExpr ?_⟩;have J:Inv (eo cy X.prog X.w X.K X.mg X.base ["p","q"] qn scope f (.ref c) X.A X.stack s H E0) [] (start ["p","q"] [V.bl x,V.bl y]) H s1:=uZ S.sc hr.hd e0 rfl r z;obtain⟨te,ht,hq⟩:=CD (Y:=eo cy X.prog X.w X.K X.mg X.base ["p","q"] qn scope f (.ref c) X.A X.stack s H E0) rfl S.vp S.vq hB x y;refine wpAny_mono (ht [] s1 (start ["p","q"] [V.bl x,V.bl y]) H _ J (hq H Q q)) (λu s' ⟨v,H',J',rv,q'⟩=>?_) λe s' hs=>hs;exact⟨v,H',J'.os,J'.bare,J'.base,J'.hok,rv,q'⟩
 refine wpAny_call (codeAny_mono run λr s' hq=>?_);cases r with
 | error e=>exact False.elim hq
 | ok fl=>
  cases fl with
  | ret u=>exact I.after hq
  | next=>exact False.elim hq
  | brk=>exact False.elim hq
  | cont=>exact False.elim hq
end
def uh:V->List V->Hp->VK->Prop:=λfv vs H Q=>∃f g x y,fv=.ref f/\vs=[.bl x,.bl y]/\eP H f g/\Q (.bl (g x y)) H
def uv(tf:TE)(ta:TA):TE:=λσ H Q=>tf σ H λfv H1=>(∃f g,fv=.ref f/\eP H1 f g)/\ta σ H1 λvs H2=>uh fv vs H2 Q
def BR{X:Cx}{k:Nat}{x:Str}{p pos:Pos}{e:Expr}{es:List Expr}{tf:TE}{ta:TA}(hr:Room (k+1) X.A)(hf:PE X (.Name x p) tf)(ha:PA X (e::es) ta)
  (he:starEach (e::es) X.env=(false,eval e X.env)::starEach es X.env:=by rfl) (hpl:(backTo pos (starEach es X.env)).any (·.1)=false:=by rfl):PE X (.Call (.Name x p) (e::es) [] pos) (uv tf ta):=by
 intro pins s σ H Q I h;refine wpAny_Call_Name_kw (aw (hf pins s σ H _ I h) λfv s1 ⟨v,H1,I1,r1,⟨f,g,ev,hl⟩,q1⟩=>?_);subst ev;cases r1;have fnAt:∀{σ:St} {H:Hp} {s:Shared} {g},Inv X pins σ H s->eP H f g->PySem.W.FnAt f s.heap:=λ{σ H s g} J hl=>by obtain⟨c,qn,params,body,scope,hf,_⟩:=hl;obtain⟨⟨pm,ctv,gf⟩,_⟩:=J.hok f _ hf;exact⟨_,_,_,_,gf⟩
 refine PySem.W.callWith_F (first:=[]) (fnAt I1 hl) (aw (ha pos pins s1 σ H1 _ I1 q1) λus s2 ⟨vs,H2,I2,r2,q2⟩=>?_) he hpl;obtain⟨f',g',x',y',ef,rfl,hl',q⟩:=q2;cases ef;obtain⟨u1,u2,rfl,ru1,ru2⟩:∃u1 u2,us=[u1,u2]/\RelV (.bl x') u1/\RelV (.bl y') u2:=by
  cases r2 with
  | cons a b=>
   cases b with
   | cons c d=>cases d;exact⟨_,_,rfl,a,c⟩
 cases ru1;cases ru2;exact⟨fnAt I2 hl',AX I2 hl' hr q⟩
def rd_lam{P:Addr}{pos:Pos}{q:Str}{params:Arguments}{body:Expr}{scope:Scope}{σ:St}{H:Hp}{Q:VK}(h:mi P pos q params body scope H Q):tE P pos q params body scope σ H Q:=h
def rd_calV{tf:TE}{ta:TA}{σ:St}{H:Hp}{Q:VK}(h:tf σ H λfv H1=>(∃f g,fv=.ref f/\eP H1 f g)/\ta σ H1 λvs H2=>uh fv vs H2 Q):uv tf ta σ H Q:=h
structure Tab(K:Dj)(mg:Str->Option Value)(base:Heap)(x:Str)(c T:Addr):Prop where
 tin:PySem.W.tabIn K x=some (c,T)
 hd:PySem.W.CodeHd base c T
 blt:base.BuiltinsAt mg T
 gl:mainGlobals≠T
 kin:K.In base
 ns:base.Ns mainGlobals mg
section
variable {P:Program} {w:World} {K:Dj} {mg:Str->Option Value} {base:Heap}
def yD{x:Str}{c T f:Addr}{o:Obj}{fd:FuncData}(ht:PySem.W.tabIn K x=some (c,T))(KX:K.In base)(G:base.Ns mainGlobals mg)(hm:mg x=some (.ref f))(lk:K.lookup f=some o)(hd:o.data=.func fd):fd.code=.ref c:=by
 unfold PySem.W.tabIn at ht;split at ht
 ·rename_i f' hf;have e1:=PySem.W.mg_of KX G hf;rw[hm]at e1;cases e1;split at ht
  ·rename_i hfo;rw[lk]at hfo;cases hfo;cases hd;split at ht
   ·rename_i c2 hc;split at ht
    ·split at ht
     ·cases ht;exact hc
     ·cases ht
    ·cases ht
   ·cases ht
  ·cases ht
 ·cases ht
def Dfn.okL{x:Str}{st:Stmt}{N ps:List Str}{k:Nat}{sp:Sp}{c T:Addr}(D:Dfn K mg x st ps)(B:Tab K mg base x c T)(S:FnScope N ps (aC st))(len:∀vs H Q E,sp vs H Q E->vs.length=ps.length)
  (hbody:∀(X:Cx) (hX:∃f A outer s H E,X=(eo cy P w K mg base N x (aC st) f (.ref c) A outer s H E).nox/\Room k X.A) (H:Hp) (vs:List V) (Q:VK) (E:XK),sp vs H Q E →
   ∃t,cj X (dA st) t/\t { nx:=λ_ H'=>Q .non H',rt:=Q } (start N vs) H):Cal P w K mg base x (k+1) ps sp:=by
 obtain⟨f,fd,hm,F,hb⟩:=D.ex;refine⟨f,fd,hm,F.kp,hb,?_⟩;obtain⟨oc,od,kV,doc,pm,an,cdv,ct,osl,rfl,lk,hcd⟩:=F.ex;have e:cdv=.ref c:=yD B.tin B.kin B.ns hm lk rfl;subst e;refine rB lk hcd S len λA outer s H vs Q E hr hsp=>?_;obtain⟨t,h,q⟩:=hbody _ ⟨f,A,outer,s,H,E,rfl,hr⟩ H vs Q E hsp;exact⟨t,h.nox,q⟩
end
def sf(tabs:List (Addr×Addr))(H:Hp):Prop:=∀q∈tabs,H q.2=some (.tbl #[])
def Cb{P:Program}{w:World}{K:Dj}{mg mb:Str->Option Value}{k:Nat}{fa a:Addr}{fd:FuncData}{x:Str}{sp:Sp}{s₁:Shared}{vs:List Value}{ns:List Int}{tabs:List (Addr×Addr)}
  (KX:K.In s₁.heap) (hK:PySem.W.noTabs K=true) (hT:PySem.W.TabsAt tabs s₁.heap) (hns:s₁.heap.Ns mainGlobals mg) (hb:s₁.heap.Ns builtinsNs mb) (hbb:∀x:Str,x≠"__name__"->mb x=bootBuiltins x) (hlim:s₁.heap.NoLimit)
  (hbm:∃bm ob,mg "__builtins__" = some (.ref bm)/\bm≠builtinsNs/\s₁.heap.get? bm=some ob/\ob.cls=.type "module"/\ob.dict=some builtinsNs/\ob.data=.plain) (hg:s₁.gens = #[])
  (ha:s₁.heap.get? a=some { cls:=.type "list",data:=.seq vs.toArray }) (hi:IntsAre vs ns) (hl:ns.length<=sizeLine) (hr:Room k callerA)
  (F:∀base:Heap,K.In base->base.Ns mainGlobals mg->(∀q∈tabs,PySem.W.CodeHd base q.1 q.2/\base.BuiltinsAt mg q.2/\mainGlobals≠q.2)->FnOk P w K mg base cy k fa fd [x] sp) (hbind:∀(s:Shared) (u:Value),BindsTo s fd ⟨[u],[]⟩ [(x,u)])
  (hsp:∀H:Hp,sf tabs H->ag K H a (ns.map V.int)->sp [.ref a] H (λv _=>v=.bl true) λ_ _ _=>False) :
  codeAny (model P w) callerA (.call (.ref fa) ⟨[.ref a],[]⟩) (λr s'=>r=.ok (.ret (.bool true))/\OldK s₁.heap s'.heap/\s'.os=s₁.os/\AllBare s'.gens) s₁:=by
 have rv:=sk hi;have lenV:=hi.length;have na:∀q∈tabs,a≠q.2:=λq hq z=>by have:=(hT q hq).2;rw[←z,ha]at this;cases this
 have noT:∀{b:Addr} {o:Obj},s₁.heap.get? b=some o->o≠PySem.W.tabObj #[]->b∉tabs.map (·.2):=λ{b o} e n hm=>by obtain⟨q,hq,rfl⟩:=List.mem_map.mp hm;have:=(hT q hq).2;rw[e]at this;exact n (DZ this)
 have core:∀H:Hp,sf tabs H->ag K H a (ns.map V.int)->aW P w H s₁.heap->(∀b,H b≠none->b=a\/b∈tabs.map (·.2))->(H a≠none->K.lookup a=none/\∃o xs,H a=some (.frz o (.lst xs))) →
   codeAny (model P w) callerA (.call (.ref fa) ⟨[.ref a],[]⟩) (λr s'=>r=.ok (.ret (.bool true))/\OldK s₁.heap s'.heap/\s'.os=s₁.os/\AllBare s'.gens) s₁:=by
  intro H hO hS hok hA hKa;have free:∀{b:Addr} {o:Obj},s₁.heap.get? b=some o->o≠PySem.W.tabObj #[]->b≠a->H b=none:=λ{b o} e n nb=>by
   cases q:H b with
   | none=>rfl
   | some u=>
    rcases hA b (by rw[q];simp)with z|z
    ·exact absurd z nb
    ·exact absurd z (noT e n)
  have nsK:∀{b:Addr} {m:Str->Option Value},s₁.heap.Ns b m->(dW s₁.heap H).Ns b m:=λ{b m} ⟨o,es,ep,e,d,r⟩=>⟨o,es,ep,jN e (free e (λz=>by rw[z]at d;cases d) λz=>by rw[z,ha]at e;cases e;cases(show Data.seq vs.toArray _=Data.dict es ep from d)),d,r⟩;have hKb:K.In (dW s₁.heap H):=λb o e=>jN (KX b o e) (by
   by_cases z:b=a
   ·subst z;cases q:H b with
    | none=>rfl
    | some u=>
     have:=(hKa (by rw[q];simp)).1;rw[this]at e;cases e
   ·refine free (KX b o e) (λz2=>?_) z;have h2:=DU.mp hK (b,o) (PySem.W.mem_of_lookupK e);subst z2;exact absurd (show false=true from h2) DE)
  have hM:Mod K mg (dW s₁.heap H):=⟨hKb,nsK hns,⟨mb,nsK hb,hbb⟩,let ⟨mc,h1,h2⟩:=hlim;⟨mc,nsK h1,h2⟩⟩;have e0:Env0 P w K mg (dW s₁.heap H) callerA [] s₁ H:=⟨rfl,hM,λb o e=>CP e,Nat.le_of_eq (zB _ _),trivial,λb hb=>absurd (show b∈([]:List Addr)from hb) (by simp),hok,.of_eq hg⟩;have tabsB:∀q∈tabs,PySem.W.CodeHd (dW s₁.heap H) q.1 q.2/\(dW s₁.heap H).BuiltinsAt mg q.2/\mainGlobals≠q.2:=λq hq=>by
   refine⟨?_,?_,?_⟩
   ·obtain⟨o,us,file,tf,flags,tg,inF,text,tt,e,hc,r⟩:=(hT q hq).1;exact⟨o,us,file,tf,flags,tg,inF,text,tt,jN e (free e (λz=>by rw[z]at hc;cases hc) λz=>by rw[z,ha]at e;cases e;simp at hc),hc,r⟩
   ·obtain⟨bm,ob,a1,a2,a3,a4,a5⟩:=hbm;refine⟨bm,ob,a1,a2,λz=>?_,λz=>?_,jN a3 (free a3 (λz=>by rw[z]at a4;cases a4) λz=>by rw[z,ha]at a3;cases a3;simp at a4),a4,a5⟩
    ·obtain⟨o,es,ep,e,d,_⟩:=hns;rw[←z,a3]at e;cases e;rw[a5.2]at d;cases d
    ·have:=(hT q hq).2;rw[←z,a3]at this;cases this;cases a4
   ·intro z;obtain⟨o,es,ep,e,d,_⟩:=hns;have:=(hT q hq).2;rw[←z,e]at this;cases this;cases d
  refine codeAny_mono ((F _ hKb (nsK hns) tabsB).run callerA [] s₁ H ⟨[.ref a],[]⟩ [.ref a] [.ref a] _ _ hr e0 (hbind s₁ (.ref a)) (.cons rfl .nil) (hsp H hO hS)) λr s' h=>?_;cases r with
  | error e=>exact False.elim h
  | ok fl=>
   cases fl with
   | next=>exact False.elim h
   | brk=>exact False.elim h
   | cont=>exact False.elim h
   | ret u=>
    obtain⟨v,H',os,bare,un,hok',r',q⟩:=h;have q':v=.bl true:=q;subst q';obtain rfl:u=Value.bool true:=r';have keep:∀b o,s₁.heap.get? b=some o->b∉tabs.map (·.2)->s'.heap.get? b=some o:=λb o e nt=>by
     cases q:H b with
     | none=>exact un.keep b o e q (by intro z;exact absurd (show b∈([]:List Addr)from z) (by simp)) (by simp)
     | some u=>
      rcases hA b (by rw[q];simp)with z|z
      ·subst z;obtain⟨_,ob,xs,z⟩:=hKa (by rw[q];simp);have z2:=un.frzs b ob _ z;obtain⟨e1,_⟩:=hok b _ z;obtain⟨e2,_⟩:=hok' b _ z2;rw[e]at e1;cases e1;exact e2
      ·exact absurd z nt
    have grown:∀q∈tabs,∃more,s'.heap.get? q.2=some (PySem.W.tabObj (#[]++more)):=λq hq=>by obtain⟨more,e⟩:=un.tbls q.2 _ (hO q hq);exact⟨more,hok' q.2 _ e⟩
    refine⟨rfl,⟨λb o e=>?_,λb o e=>?_⟩,os,bare⟩
    ·by_cases hm:b∈tabs.map (·.2)
     ·obtain⟨q,hq,rfl⟩:=List.mem_map.mp hm;obtain⟨more,g⟩:=grown q hq;have e2:=(hT q hq).2;rw[e]at e2;cases e2;exact .inr (.inl ⟨((hT q hq).1.tab (hT q hq).2).isCodeTable,rfl,#[],more,rfl,g⟩)
     ·exact .inl (keep b o e hm)
    ·by_cases hm:b∈tabs.map (·.2)
     ·obtain⟨q,hq,rfl⟩:=List.mem_map.mp hm;obtain⟨more,g⟩:=grown q hq;exact⟨_,g⟩
     ·exact⟨o,keep b o e hm⟩
 have hTok:∀(H:Hp) b,b∈tabs.map (·.2)->bj P w H s₁.heap b (.tbl #[]):=λH b hm=>by obtain⟨q,hq,rfl⟩:=List.mem_map.mp hm;exact(hT q hq).2
 cases hk:K.lookup a with
 | some o=>
  have e:=KX a o hk;rw[ha]at e;cases e;have at_:∀b,(if b∈tabs.map (·.2)then some (HO.tbl #[])else none)=(none:Option HO)\/b∈tabs.map (·.2):=λb=>by
   by_cases hb:b∈tabs.map (·.2)
   ·exact .inr hb
   ·exact .inl (En hb)
  have nota:a∉tabs.map (·.2):=λhm=>by obtain⟨q,hq,e⟩:=List.mem_map.mp hm;exact na q hq e.symm
  refine core (λb=>if b∈tabs.map (·.2)then some (.tbl #[])else none) (λq hq=>Eo (List.mem_map.mpr ⟨q,hq,rfl⟩)) (.inr ⟨_,vs.toArray,_,hk,rfl,rfl,rfl,by rw[Du,lenV];exact hl,by simpa using rv⟩) (λb u z=>?_) (λb z=>?_) λz=>absurd (En nota) z
  ·by_cases hb:b∈tabs.map (·.2)
   ·have z':=(Eo hb).symm.trans z;cases z';exact hTok _ b hb
   ·have z':=(En hb).symm.trans z;cases z'
  ·rcases at_ b with h|h
   ·exact absurd h z
   ·exact .inr h
 | none=>
  have nota:a∉tabs.map (·.2):=λhm=>by obtain⟨q,hq,e⟩:=List.mem_map.mp hm;exact na q hq e.symm
  refine core (λb=>if b=a then some (.frz { cls:=.type "list",data:=.seq vs.toArray } (.lst (ns.map V.int)))else if b∈tabs.map (·.2)then some (.tbl #[])else none) (λq hq=>?_) (.inl (.inr ⟨{ cls:=.type "list",data:=.seq vs.toArray },Eo rfl⟩)) (λb u z=>?_) (λb z=>?_) λ_=>⟨hk,_,_,Eo rfl⟩
  ·show(if q.2=a then _ else _)=_;rw[En (Ne.symm (na q hq)),Eo (List.mem_map.mpr ⟨q,hq,rfl⟩)]
  ·by_cases hb:b=a
   ·have z':=(Eo hb).symm.trans z;cases z';subst hb;exact⟨ha,by rw[Dn];exact hl,vs,_,rv,ha⟩
   ·have z':=(En hb).symm.trans z;by_cases hb2:b∈tabs.map (·.2)
    ·have z2:=(Eo hb2).symm.trans z';cases z2;exact hTok _ b hb2
    ·have z2:=(En hb2).symm.trans z';cases z2
  ·by_cases hb:b=a
   ·exact .inl hb
   ·by_cases hb2:b∈tabs.map (·.2)
    ·exact .inr hb2
    ·exact absurd ((En hb).trans (En hb2)) z
def CB{l:PySem.W.OpenLaw}{n k:Nat}{q:Program}{loose:List Str}{XP:(Str->Option Value)->Heap->Prop}{YP:World->Heap->Prop}{d:DefRec}{K:Params->Dj}{sp:World->Sp}{x:Str}(xs:List Str)
  (hn:l.most=some n) (hn2:n<=sizeLine) (hdf:d.params.defaults=[]) (hr:Room k callerA)
  (hY:∀(w:World) (h:Heap),YP w h->(K w.params).In h) (hK:∀w:World,PySem.W.noTabs (K w.params)=true) (hrec:∀y∈xs,((recsOf q).find? (λe=>e.name == y)).isSome=true) (htab:∀(w:World),∀y∈xs,(PySem.W.tabIn (K w.params) y).isSome=true)
  (F:∀(w:World) (mg:Str->Option Value) (fa:Addr) (h:Heap),(K w.params).In h->h.Ns mainGlobals mg->mg d.name=some (.ref fa) →
   ∃fd:FuncData,(∀(s:Shared) (u:Value),BindsTo s fd ⟨[u],[]⟩ [(x,u)]) ∧
    ∀base:Heap,(K w.params).In base->base.Ns mainGlobals mg->(∀y∈xs,∃c T,Tab (K w.params) mg base y c T)->FnOk l.prog w (K w.params) mg base cy k fa fd [x] (sp w))
  (hsp:∀(w:World) (H:Hp) (a:Addr) (ns:List Int),ns.length<=n->(∀y∈xs,∀c T,PySem.W.tabIn (K w.params) y=some (c,T)->H T=some (.tbl #[]))->ag (K w.params) H a (ns.map V.int)->sp w [.ref a] H (λv _=>v=.bl true) λ_ _ _=>False) :
  PySem.W.WalkO q loose XP YP l.row.toRowW d [] (λf vs=>PySem.call f vs):=by
 refine Att.zh hn hdf λw s₀ s₁ mg mb fa o pm cd doc a vs ns G Y ho hd hcd hmg hobj hints hlen hg=>?_;have KX:=hY w _ Y;obtain⟨fd,hb,hF⟩:=F w mg fa _ KX G.T.g hmg;have hT:PySem.W.TabsAt (xs.filterMap (PySem.W.tabIn (K w.params))) s₁.heap:=λp hp=>by obtain⟨y,hy,e⟩:=List.mem_filterMap.mp hp;obtain⟨dr,er⟩:=Option.isSome_iff_exists.mp (hrec y hy);exact PySem.W.tab_of G.T KX er e
 refine Cb KX (hK w) hT G.T.g G.T.b G.T.builtins G.T.nolimit G.T.bmain hg hobj hints (DS hlen hn2) hr (λbase kb nb tb=>hF base kb nb λy hy=>?_) hb λH hO hS=>hsp w H a ns hlen (λy hy c T e=>hO (c,T) (List.mem_filterMap.mpr ⟨y,hy,e⟩)) hS;obtain⟨⟨c,T⟩,e⟩:=Option.isSome_iff_exists.mp (htab w y hy);obtain⟨h1,h2,h3⟩:=tb (c,T) (List.mem_filterMap.mpr ⟨y,hy,e⟩);exact⟨c,T,e,h1,h2,h3,kb,nb⟩
section
variable {prog:Program} {w:World} {A:Around} {E:Value->Shared->Prop}
def rX{it l:Addr}{ys:Array Value}(ne:l≠it):∀(n i:Nat) (s:Shared) (Q:List Value->Shared->Prop),s.heap.IsListIter it l i->s.heap.IsList l ys->i+n<=ys.size →
  (∀h',h'.IsListIter it l (i+n)->Heap.SameBut it s.heap h'->Q ((ys.toList.drop i).take n) { s with heap:=h' })->wpAny (model prog w) A (draw (.ref it) n) Q E s
 | 0,i,s,Q,gi,_,_,q=>by show wpAny _ _ (pure []) Q E s;exact Di (by simpa using q s.heap gi (Heap.SameBut.refl ..))
 | n+1,i,s,Q,gi,gl,le,q=>by
  have lt:i<ys.size:=by omega
  show wpAny _ _ (pyNext (Value.ref it) >>= _) Q E s;refine Dh (wpAny_pyNext_list_item gi gl (x:=ys[i]) (by simp[lt]) λk1 g1 b1=>?_);refine Dh (wpAny_holding (rX ne n (i+1) _ _ g1 (gl.extBut b1.extBut ne) (by omega) λk2 g2 b2=>Di ?_));have e:ys.toList.drop i=ys[i]::ys.toList.drop (i+1):=by simp[List.drop_eq_getElem_cons,lt]
  have:=q k2 (by rw[show i+(n+1)=i+1+n by omega];exact g2) (b1.trans b2);rw[e,List.take_succ_cons]at this;exact this
def xH{s:Shared}{l:Addr}{ys:Array Value}{Q:List Value->Shared->Prop}(hA:A.handled=none)(gl:s.heap.IsList l ys)
  (q:∀h',Heap.ExtBut s.heap.objs.size s.heap h'->Q ys.toList { s with heap:=h' }):wpAny (model prog w) A (unpackItems (.ref l) ys.size none) Q E s:=by
 have lt:l≠s.heap.objs.size:=by obtain⟨o,e,_⟩:=gl;exact DH (Dm e)
 unfold unpackItems;refine Dh ?_;unfold notIterableAtAll;refine Dh (wpAny_specialOf gl.typeIs slot_list_iter.lookup ?_);refine Di ?_;simp only[Ed,if_false];refine Dh (wpAny_holding (wpAny_pyIter_list gl ?_));refine Dh (wpAny_holding (rX lt ys.size 0 _ _ ⟨_,Dl _ rfl,rfl,rfl⟩ (gl.push _) (by omega) λk1 g1 b1=>?_));rw[show List.take ys.size (List.drop 0 ys.toList)=ys.toList by rw[List.drop_zero];exact List.take_of_length_le (by simp),En (by simp)];refine Dh (wpAny_holding (wpAny_pyNext_list_end hA g1 ((gl.push _).extBut b1.extBut lt) (by simp) λk2 b2=>?_));simp only[Option.isSome_none,Ed,if_false];exact Di (q k2 λb o nb e=>b2 b o nb (b1.extBut b o nb (Dk _ e)))
def xn{s:Shared}{env:Env}{es:List Expr}{k:Nat}{pos:Pos}{l:Addr}{ys:Array Value}{Q:Unit->Shared->Prop}(hA:A.handled=none)(gl:s.heap.IsList l ys)(hn:(assignEach es env).length=ys.size)(hst:(assignEach es env).findIdx? (·.1)=none)
  (h:∀h',Heap.ExtBut s.heap.objs.size s.heap h'->wpAny (model prog w) A (assignInOrder ((assignEach es env).map (·.2)) ys.toList) Q E { s with heap:=h' }):wpAny (model prog w) A (assign (.Tuple es k pos) env (.ref l)) Q E s:=by
 rw[arm_assign_Tuple];refine Dh (wpAny_standAt ?_);unfold unpack;rw[hn,hst];exact Dh (wpAny_holding (xH hA gl h))
end
section
variable {X:Cx} {pos:Pos}
def qL(K:Dj)(n:Nat)(t:df):TG:=λv σ H Q=>∃a xs,v=.ref a/\ag K H a xs/\xs.length=n/\t xs σ H Q
def wU{es:List Expr}{k:Nat}{t:df}{n:Nat}(K:Dj)(hc:X.calm=true)(h:hJ X es t)(hK:X.K=K:=by rfl)
  (hn:(assignEach es X.env).length=n:=by rfl) (hst:(assignEach es X.env).findIdx? (·.1)=none:=by rfl):PG X (.Tuple es k pos) (qL K n t):=by
 subst hK;intro pins s σ H v u Q I r hw;obtain⟨a,xs,e1,hq,hl,hw⟩:=hw;subst e1;cases r;obtain⟨its,rv,ht,hz⟩:=I.list hq;refine xn (I.ok.hd hc) ht.isList (by simp[hn,←hl,rv.length]) hst λh' hx=>?_;have I1:Inv X pins σ H { s with heap:=h' }:=I.kept (t':=s.toks) λb o e=>hx b o (DH (Dm e)) e;exact h pins _ σ H xs _ Q I1 (by simpa using rv) hw
end
def zt{K:Dj}{σ:St}{H:Hp}{n:Nat}{g:df}{a:Addr}{xs:List V}{R:St->Hp->Prop}(e:ag K H a xs)(hl:xs.length=n)(h:g xs σ H R):qL K n g (.ref a) σ H R:=⟨a,xs,rfl,e,hl,h⟩
def rd_par{i j:Nat}{ta:TA}{D:Ends}{σ:St}{H:Hp}(h:ta σ H λvs H1=>∃v w,vs=[v,w]/\D.nx ((σ.set i (some v)).set j (some w)) H1):pX i j ta D σ H:=h
def rd_par2{v w:V}{R:V->V->Prop}(h:R v w):∃a b,[v,w]=[a,b]/\R a b:=⟨v,w,rfl,h⟩
def Et(H H':Hp):Prop:=∀b o,H b=some o->(∀ps,o≠.tbl ps)->H' b=some o
def Ext.et{H H':Hp}(e:Ext H H'):Et H H':=λb o h _=>e b o h
def Et.trans{H H1 H2:Hp}(a:Et H H1)(b:Et H1 H2):Et H H2:=λx o h n=>b x o (a x o h n) n
def eP.ext{H H':Hp}(e:Ext H H'){f:Addr}{g:Bool->Bool->Bool}(h:eP H f g):eP H' f g:=by obtain⟨c,q,params,body,scope,h1,h2,r⟩:=h;exact⟨c,q,params,body,scope,e _ _ h1,e _ _ h2,r⟩
def bS(K:Dj)(x q:Str)(line col:Nat)(H:Hp):Prop:=∀c T,PySem.W.tabIn K x=some (c,T) →
 H T=some (.tbl #[])\/∃c',H T=some (.tbl #[rawInt line,rawInt col,.ref c'])/\H c'=some (cA c' q)
def bS.ext{K:Dj}{x q:Str}{line col:Nat}{H H':Hp}(e:Ext H H')(h:bS K x q line col H):bS K x q line col H':=λc T ht=>by
 rcases h c T ht with h|⟨c',h1,h2⟩
 ·exact .inl (e _ _ h)
 ·exact .inr ⟨c',e _ _ h1,e _ _ h2⟩
def kD{K:Dj}{x q:Str}{params:Arguments}{body:Expr}{scope:Scope}{H:Hp}{Q:VK}{c T:Addr}{pos:Pos}(ht:bS K x q pos.line pos.col H)(e:PySem.W.tabIn K x=some (c,T))
  (h:∀f c' H',Et H H'->bS K x q pos.line pos.col H'->(∀y q2 l2 k2,(∀c2 T2,PySem.W.tabIn K y=some (c2,T2)->T2≠T)->bS K y q2 l2 k2 H->bS K y q2 l2 k2 H')->H' f=some (dX f c' q params body scope)->H' c'=some (cA c' q)->Q (.ref f) H'):mi T pos q params body scope H Q:=by
 rcases ht c T e with hT|⟨c',hT,hc'⟩
 ·refine .inl ⟨hT,λf c' nc nf cT fT fc=>?_⟩;have old:∀b o,H b=some o->b≠T->upd (upd (upd H T (.tbl #[rawInt pos.line,rawInt pos.col,.ref c'])) c' (cA c' q)) f (dX f c' q params body scope) b=some o:=λb o hb n=>by rw[ax (bO hb nf),ax (bO hb nc),ax n];exact hb
  refine h f c' _ (λb o hb n=>old b o hb λz=>by rw[z,hT]at hb;cases hb;exact n _ rfl) (λc2 T2 e2=>.inr ⟨c',?_,?_⟩) (λy q2 l2 k2 hn hy c2 T2 e2=>?_) aJ ?_
  ·rw[e]at e2;cases e2;rw[ax (Ne.symm fT),ax (Ne.symm cT),aJ]
  ·rw[ax (Ne.symm fc),aJ]
  ·rcases hy c2 T2 e2 with g|⟨c3,g1,g2⟩
   ·exact .inl (old _ _ g (hn c2 T2 e2))
   ·exact .inr ⟨c3,old _ _ g1 (hn c2 T2 e2),old _ _ g2 λz=>by rw[z,hT]at g2;cases g2⟩
  ·rw[ax (Ne.symm fc),aJ]
 ·refine .inr ⟨c',hT,hc',λf nf=>?_⟩;have ex:Ext H (upd H f (dX f c' q params body scope)):=bJ nf;exact h f c' _ ex.et (bS.ext ex ht) (λy q2 l2 k2 _ hy=>hy.ext ex) aJ (ex _ _ hc')
section
variable {κ:Type} [DecidableEq κ]
def bF(kvs:List (κ×V))(k:κ):Option V:=(kvs.find? λkv=>decide (kv.1=k)).map (·.2)
def putK(kvs:List (κ×V))(k:κ)(v:V):List (κ×V):=
 if(kvs.any λkv=>decide (kv.1=k))=true then kvs.map (λkv=>if kv.1=k then(kv.1,v)else kv)else kvs++[(k,v)]
def jV{p:κ×V}{r:List (κ×V)}{k:κ}(e:p.1=k):bF (p::r) k=some p.2:=by simp[bF,List.find?_cons,e]
def iE{p:κ×V}{r:List (κ×V)}{k:κ}(e:¬p.1=k):bF (p::r) k=bF r k:=by simp[bF,List.find?_cons,e]
def mD(k:κ):∀kvs:List (κ×V),(kvs.any λkv=>decide (kv.1=k))=(bF kvs k).isSome
 | []=>rfl
 | p::r=>by
  rw[List.any_cons];by_cases e:p.1=k
  ·simp only[jV e,Em e,Bool.true_or,Option.isSome_some]
  ·rw[iE e,El e,Bool.false_or];exact mD k r
def tX(kvs:List (κ×V))(k:κ)(v:V):(putK kvs k v).length<=kvs.length+1:=by
 unfold putK;split
 ·rw[Dn];omega
 ·rw[DG,DP,List.length_nil];omega
def BH{kvs:List (κ×V)}{k:κ}(v:V)(h:bF kvs k=none):putK kvs k v=kvs++[(k,v)]:=by unfold putK;rw[mD,h];exact En (by decide)
def eD.isSome_eq{o:Option V}{u:Option Value}(r:eD o u):o.isSome=u.isSome:=by
 cases o with
 | none=>cases u with
  | none=>rfl
  | some _=>exact(show False from r).elim
 | some _=>cases u with
  | none=>exact(show False from r).elim
  | some _=>rfl
def KV.val{kvs:List (κ×V)}{vs:List (κ×Value)}(r:KV kvs vs)(k:κ):eD (bF kvs k) (valueAt vs k):=by
 unfold KV at r;induction r with
 | nil=>exact True.intro
 | @cons p q ps qs h t ih=>
  obtain⟨h1,h2⟩:=h;by_cases e:p.1=k
  ·have e':q.1=k:=h1.symm.trans e;have b:valueAt (q::qs) k=some q.2:=by simp[valueAt,List.find?_cons,e']
   rw[jV e,b];exact h2
  ·have e':¬q.1=k:=λz=>e (h1.trans z);have b:valueAt (q::qs) k=valueAt qs k:=by simp[valueAt,List.find?_cons,e']
   rw[iE e,b];exact ih
def KV.any{kvs:List (κ×V)}{vs:List (κ×Value)}(r:KV kvs vs)(k:κ):(kvs.any λkv=>decide (kv.1=k))=vs.any λkv=>decide (kv.1=k):=by
 unfold KV at r;induction r with
 | nil=>rfl
 | cons h t ih=>rw[List.any_cons,List.any_cons,ih,h.1]
def KV.repl{kvs:List (κ×V)}{vs:List (κ×Value)}(r:KV kvs vs)(k:κ){y:V}{u:Value}(ry:RelV y u):
  KV (kvs.map λkv=>if kv.1=k then(kv.1,y)else kv) (vs.map λkv=>if kv.1=k then(kv.1,u)else kv):=by
 unfold KV at r ⊢;induction r with
 | nil=>exact .nil
 | @cons p q ps qs h t ih=>
  rw[List.map_cons,List.map_cons];refine .cons ?_ ih;obtain⟨h1,h2⟩:=h;by_cases e:p.1=k
  ·rw[Eo e,Eo (h1.symm.trans e)];exact⟨h1,ry⟩
  ·rw[En e,En (λz=>e (h1.trans z))];exact⟨h1,h2⟩
def KV.put{kvs:List (κ×V)}{vs:List (κ×Value)}(r:KV kvs vs)(k:κ){y:V}{u:Value}(ry:RelV y u):KV (putK kvs k y) (stored vs k u):=by
 unfold putK stored;rw[r.any k];by_cases e:(vs.any λkv=>decide (kv.1=k))=true
 ·rw[Eo e,Eo e];exact r.repl k ry
 ·rw[En e,En e];exact Paired.snoc r ⟨rfl,ry⟩
def KV.keys{kvs:List (κ×V)}{vs:List (κ×Value)}(r:KV kvs vs):kvs.map (·.1)=vs.map (·.1):=by
 unfold KV at r;induction r with
 | nil=>rfl
 | cons h t ih=>rw[List.map_cons,List.map_cons,ih,h.1]
def KV.length{kvs:List (κ×V)}{vs:List (κ×Value)}(r:KV kvs vs):kvs.length=vs.length:=Paired.length r
end
def iL{P:Program}{w:World}{k:Key}{u:Value}(r:RelV (kV k) u):(bV P w).is k u=true:=by
 cases k with
 | inl i=>obtain⟨t,e⟩:=(show ∃t,u=Value.int i t from r);subst e;exact zk P w i t
 | inr x=>obtain⟨t,e⟩:=(show ∃t,u=Value.str x t from r);subst e;exact lY P w x t
def nS{P:Program}{w:World}:∀{ks:List Key} {us:List Value},Vals (ks.map kV) us->ItemsAre (bV P w) ks us
 | [],_,r=>by rw[List.map_nil]at r;cases r;exact .nil
 | k::ks,_,r=>by
  rw[List.map_cons]at r;cases r with
  | cons h t=>exact .cons (iL h) (nS t)
abbrev KT(H:Hp):List (List Key×V)->List (List Key×Addr×Value)->Prop:=Paired λp q=>p.1=q.1/\H q.2.1=some (.tup (p.1.map kV))/\RelV p.2 q.2.2
def KT.val{H:Hp}{kvs:List (List Key×V)}{xs:List (List Key×Addr×Value)}(r:KT H kvs xs)(k:List Key):eD (bF kvs k) ((atKey xs k).map (·.2)):=by
 induction r with
 | nil=>exact True.intro
 | @cons p q ps qs h t ih=>
  obtain⟨h1,_,h2⟩:=h;by_cases e:p.1=k
  ·have e':q.1=k:=h1.symm.trans e;have b:atKey (q::qs) k=some q.2:=by simp[atKey,List.find?_cons,e']
   rw[jV e,b];exact h2
  ·have e':¬q.1=k:=λz=>e (h1.trans z);have b:atKey (q::qs) k=atKey qs k:=by simp[atKey,List.find?_cons,e']
   rw[iE e,b];exact ih
def KT.repl{H:Hp}{kvs:List (List Key×V)}{xs:List (List Key×Addr×Value)}(r:KT H kvs xs)(k:List Key){y:V}{u:Value}(ry:RelV y u):
  KT H (kvs.map λkv=>if kv.1=k then(kv.1,y)else kv) (xs.map (putAt k u)):=by
 induction r with
 | nil=>exact .nil
 | @cons p q ps qs h t ih=>
  rw[List.map_cons,List.map_cons];refine .cons ?_ ih;obtain⟨h1,h2,h3⟩:=h;unfold putAt;by_cases e:p.1=k
  ·rw[Eo e,Eo (h1.symm.trans e)];exact⟨h1,h2,ry⟩
  ·rw[En e,En (λz=>e (h1.trans z))];exact⟨h1,h2,h3⟩
def KT.put{H:Hp}{kvs:List (List Key×V)}{xs:List (List Key×Addr×Value)}(r:KT H kvs xs)(k:List Key){b:Addr}{y:V}{u:Value}(hb:H b=some (.tup (k.map kV)))(ry:RelV y u):
  KT H (putK kvs k y) (storedH xs k b u):=by
 have e:(kvs.any λkv=>decide (kv.1=k))=(atKey xs k).isSome:=by rw[mD,(r.val k).isSome_eq,Option.isSome_map]
 unfold putK storedH;rw[e];by_cases q:(atKey xs k).isSome=true
 ·rw[Eo q,Eo q];exact r.repl k ry
 ·rw[En q,En q];exact Paired.snoc r ⟨rfl,hb,ry⟩
def KT.keeps{H H':Hp}{kvs:List (List Key×V)}{xs:List (List Key×Addr×Value)}(r:KT H kvs xs)(ht:∀b ys,H b=some (.tup ys)->H' b=some (.tup ys)):KT H' kvs xs:=
 Paired.mapP r λ_ _ z=>⟨z.1,ht _ _ z.2.1,z.2.2⟩
section
variable {P:Program} {w:World} {H:Hp} {h:Heap} {a:Addr}
def tp{u:HO}(ok:aW P w H h)(e:Rd H a u):bj P w H h a u:=e.ok ok
def sx{kvs:List (Key×V)}(ok:aW P w H h)(e:Rd H a (.dK kvs)):kvs.length<=sizeLine/\(a == sysModules)=false/\∃vs,KV kvs vs/\h.DictOf (bV P w) a vs:=
 show bj P w H h a (.dK kvs)from tp ok e
def Aj{kvs:List (Key×V)}(ok:aW P w H h)(e:H a=some (.dK kvs)):kvs.length<=sizeLine/\(a == sysModules)=false/\∃vs,KV kvs vs/\h.DictOf (bV P w) a vs:=sx ok (.inl e)
def jL{ks:List Key}(ok:aW P w H h)(e:H a=some (.tup (ks.map kV))):(tupleKind (bV P w)).is h ks a:=by obtain⟨_,its,r,o,h1,h2,n,h3⟩:=(show bj P w H h a (.tup (ks.map kV))from ok a _ e);exact⟨o,its.toArray,n,h1,h2,h3,by simpa using nS r⟩
def sU{kvs:List (List Key×V)}(ok:aW P w H h)(e:Rd H a (.dT kvs)):kvs.length<=sizeLine/\(a == sysModules)=false ∧
  ∃xs,KT H kvs xs/\h.DictOfH (tupleKind (bV P w)) a xs:=by
 obtain⟨z,y,xs,r,o,es,ep,h1,h2,h3,h4,h5⟩:=(show bj P w H h a (.dT kvs)from tp ok e);refine⟨z,y,xs,r,o,es,ep,h1,h2,h3,h4,λx hx=>?_,h5⟩;have all:∀{l:List (List Key×V)} {m:List (List Key×Addr×Value)},KT H l m->∀x∈m,(tupleKind (bV P w)).is h x.1 x.2.1:=by
  intro l m q;induction q with
  | nil=>intro x hx;exact nomatch hx
  | @cons p q ps qs hq t ih=>
   intro x hx;rcases DD.mp hx with e|hx
   ·subst e;exact jL ok (by rw[←hq.1];exact hq.2.1)
   ·exact ih x hx
 exact all r x hx
def rH{kvs:List (List Key×V)}(ok:aW P w H h)(e:H a=some (.dT kvs)):kvs.length<=sizeLine/\(a == sysModules)=false ∧
  ∃xs,KT H kvs xs/\h.DictOfH (tupleKind (bV P w)) a xs:=sU ok (.inl e)
end
def gJ(H:Hp)(a:Addr)(y:V)(r:Option V):Prop:=
 (∃kvs k,Rd H a (.dK kvs)/\y=kV k/\r=bF kvs k)\/∃kvs k b,Rd H a (.dT kvs)/\y=.ref b/\H b=some (.tup (k.map kV))/\r=bF kvs k
def g9(H:Hp)(a:Addr)(y v:V)(H':Hp):Prop:=
 (∃kvs k,H a=some (.dK kvs)/\y=kV k/\kvs.length<sizeLine/\H'=upd H a (.dK (putK kvs k v))) ∨
 ∃kvs k b,H a=some (.dT kvs)/\y=.ref b/\H b=some (.tup (k.map kV))/\kvs.length<sizeLine/\H'=upd H a (.dT (putK kvs k v))
def gJ.t{H:Hp}{a b:Addr}{kvs:List (List Key×V)}{k:List Key}(e:H a=some (.dT kvs))(eb:H b=some (.tup (k.map kV))):gJ H a (.ref b) (bF kvs k):=.inr ⟨kvs,k,b,.inl e,rfl,eb,rfl⟩
def g9.t{H:Hp}{a b:Addr}{kvs:List (List Key×V)}{k:List Key}{v:V}(e:H a=some (.dT kvs))(eb:H b=some (.tup (k.map kV)))(hl:kvs.length<sizeLine):
  g9 H a (.ref b) v (upd H a (.dT (putK kvs k v))):=.inr ⟨kvs,k,b,e,rfl,eb,hl,rfl⟩
section
variable {X:Cx} {pins:List (Addr×Obj)} {σ:St} {H:Hp} {s:Shared} {a:Addr} {y v:V} {u r:Value} {o:Option V} {A:Around} {E:Value->Shared->Prop}
def Inv.big(I:Inv X pins σ H s):sysModules<s.heap.objs.size:=by have h:mainGlobals<s.heap.objs.size:=(I.mod.glob.keeps I.bk).lt;exact Nat.lt_trans (by decide) h
def CY{Q:Value->Shared->Prop}(hu:A.units+1<cLine)(I:Inv X pins σ H s)(g:gJ H a y o)(ry:RelV y u)(h:∀s',Inv X pins σ H s'->Q (.bool (!o.isSome)) s'):
  wpAny (model X.prog X.w) A (compareOp .NotIn u (.ref a)) Q E s:=by
 rcases g with⟨kvs,k,e,ey,l⟩|⟨kvs,k,b,e,ey,eb,l⟩
 ·subst ey;obtain⟨z,hd,vs,rel,dd⟩:=sx I.hok e;refine wpAny_notIn_of (iL ry) hd dd.mapOf ?_;rw[←(rel.val k).isSome_eq,←l];exact h _ (I.tok _)
 ·subst ey;cases(show u=Value.ref b from ry);obtain⟨z,hd,xs,rel,dd⟩:=sU I.hok e;refine wpAny_notIn_heap (tupleKind_room_in1 hu) (jL I.hok eb) hd dd ?_;have q:=(rel.val k).isSome_eq;rw[Option.isSome_map]at q;rw[←q,←l];exact h _ (I.tok _)
def nZ{h':Heap}{t':Nat}{ob:HO}(I:Inv X pins σ H s)(mu:i9 (H a))(hs:Heap.SameBut a s.heap h')(he:∃q,h'.get? a=some q)(new:bj X.prog X.w (upd H a ob) h' a ob):
  Inv X pins σ (upd H a ob) { s with heap:=h',toks:=t' }:=
 I.write (x:=a) (e:=a) mu (.inl rfl) (λb q hb z=>(hs.2 b hb).trans z) he new
def yV{P:Program}{w:World}{H':Hp}{h':Heap}{kvs:List (Key×V)}{vs:List (Key×Value)}(z:kvs.length<=sizeLine)(hd:(a == sysModules)=false)(rel:KV kvs vs)(dd:h'.DictOf (bV P w) a vs):
  bj P w H' h' a (.dK kvs):=⟨z,hd,vs,rel,dd⟩
def Ap{H':Hp}{Q:Unit->Shared->Prop}(hu:A.units+1<cLine)(I:Inv X pins σ H s)(g:g9 H a y v H')(ry:RelV y u)(rv:RelV v r)(h:∀s',Inv X pins σ H' s'->Q () s'):
  wpAny (model X.prog X.w) A (setItem (.ref a) u r) Q E s:=by
 rcases g with⟨kvs,k,e,ey,l,eH⟩|⟨kvs,k,b,e,ey,eb,l,eH⟩
 ·subst ey eH;obtain⟨z,hd,vs,rel,dd⟩:=Aj I.hok e;have hz:vs.length<=sizeLine:=by rw[←rel.length];exact z
  have hl:(putK kvs k v).length<=sizeLine:=by have:=tX kvs k v;omega
  refine wpAny_setItem_pairs (hsz:=hz) (iL ry) dd λh' dd' hs=>h _ ?_;have he:∃q,h'.get? a=some q:=let ⟨q,_,_,hq,_⟩:=dd';⟨q,hq⟩;exact nZ I (by rw[e];exact True.intro) hs he (yV hl hd (rel.put k rv) dd')
 ·subst ey eH;cases(show u=Value.ref b from ry);obtain⟨z,hd,xs,rel,dd⟩:=rH I.hok e;have hz:xs.length<=sizeLine:=by rw[←Paired.length rel];exact z
  have hl:(putK kvs k v).length<=sizeLine:=by have:=tX kvs k v;omega
  refine wpAny_setItem_heap (hsz:=hz) (tupleKind_room_in1 hu) (jL I.hok eb) dd λh' dd' hs=>h _ ?_;obtain⟨q,es,ep,hq,h2,h3,h4,_,h5⟩:=dd';refine nZ I (by rw[e];exact True.intro) hs ⟨q,hq⟩ ⟨hl,hd,_,(rel.put k eb rv).keeps λc ys ec=>?_,q,es,ep,hq,h2,h3,h4,h5⟩;rw[ax (eC ec e (λz=>nomatch z))];exact ec
end
section
variable {X:Cx} {pins:List (Addr×Obj)} {σ:St} {H:Hp} {s:Shared} {a:Addr} {kvs:List (Key×V)} {k:Key} {u:Value} {A:Around} {E:Value->Shared->Prop}
end
def tI(i:Expr):Prop:=∀ov iv,subscripted i false ov iv=operate [ov,iv] (getItem ov iv)
def xu{prog:Program}{w:World}{A:Around}{E:Value->Shared->Prop}{s:Shared}{env:Env}{value slice:Expr}{pos:Pos}{T id:String}{Q:Value->Shared->Prop}
  (hl:typeLookup (.type T) "__getitem__" = pure (some (.builtin id))) (hs:tI slice)
  (h:wpAny (model prog w) A (eval value env) (λo s₁=>wpAny (model prog w) A (eval slice env) (λi s₂=>s₂.TypeIs o T/\wpAny (model prog w) A (getItem o i) Q E s₂) E s₁) E s) :
  wpAny (model prog w) A (eval (.Subscript value slice pos) env) Q E s:=by
 refine Subscript_ (wpAny_mono h (λo s₁ h₁=>wpAny_mono h₁ (λi s₂ h₂=>?_) λ_ _ x=>x) λ_ _ x=>x);obtain⟨hT,h₂⟩:=h₂;unfold subscriptTail;refine Dh ?_;rw[getitemInPython_of_ne hT.not_modules];refine Dh (wpAny_specialOf hT hl ?_);have fin:wpAny (model prog w) A (subscripted slice false o i) (λr s₃=>wpAny (model prog w) A (letTemporaryGo value o r >>= λ_=>pure r) Q E s₃) E s₂:=by rw[hs o i];exact wpAny_operating (wpAny_mono h₂ (λr s₃ h₃=>Dh (wpAny_letTemporaryGo (Di h₃))) λ_ _ x=>x)
 first
  | exact Di (Dh fin)
  | exact Dh (Di (Dh fin))
  | exact Dh fin
def qB(ty td:TE):TE:=λσ H Q=>ty σ H λy H1=>td σ H1 λx H2=>∃a o,x=.ref a/\gJ H2 a y o/\Q (.bl (!o.isSome)) H2
def tF(td ty tv:TE):TS:=λD σ H=>tv σ H λv H1=>td σ H1 λx H2=>ty σ H2 λy H3=>∃a H4,x=.ref a/\g9 H3 a y v H4/\D.nx σ H4
section
variable {X:Cx} {o i e value:Expr} {pos pos' tpos:Pos} {td ty tv:TE}
def xZ(hu:X.A.units+1<cLine)(hi:PE X i ty)(ho:PE X o td):PC X .NotIn i o (qB ty td):=by intro pins s σ H Q I h;refine aw (hi pins s σ H _ I h) λiv s1 ⟨y,H1,I1,ry,q1⟩=>aw (ho pins s1 σ H1 _ I1 q1) λu s2 ⟨x,H2,I2,rx,a,ov,ex,g,q2⟩=>?_;subst ex;obtain rfl:u=Value.ref a:=rx;exact CY hu I2 g ry λs3 I3=>⟨.bl (!ov.isSome),H2,I3,rfl,q2⟩
def CO(hu:X.A.units+1<cLine)(ho:PE X o td)(hi:PE X i ty)(hv:PE X value tv)(hs:swapsWith value (some (.Subscript o i pos')) pos.line X.env=pure false):
  PS X (.Assign [.Subscript o i pos'] value pos) (tF td ty tv):=by
 intro pins s σ H D I h;refine wpAny_Assign_Subscript (aw (hv pins s σ H _ I h) λr s1 ⟨v,H1,I1,rv,q1⟩=>aw (ho pins s1 σ H1 _ I1 q1) λu s2 ⟨x,H2,I2,rx,q2⟩=>aw (hi pins s2 σ H2 _ I2 q2) λiv s3 ⟨y,H3,I3,ry,a,H4,ex,g,q3⟩=>?_) hs;subst ex;obtain rfl:u=Value.ref a:=rx;exact Ap hu I3 g ry rv λs4 I4=>⟨σ,H4,I4,q3⟩
end
def Aw{P:Program}{w:World}{H:Hp}(h:Heap)(hb:sysModules<h.objs.size):bj P w H (h.push { cls:=.type "dict",data:=.dict #[] }) h.objs.size (.dT []):=
 ⟨Nat.zero_le _,beq_eq_false_iff_ne.mpr (Ne.symm (DH hb)),[],.nil,_,#[],0,Dl _ rfl,⟨rfl,rfl,rfl⟩,rfl,rfl,List.nodup_nil⟩
section
variable {X:Cx} {pos:Pos}
end
section
variable {X:Cx} {pins:List (Addr×Obj)} {σ:St} {H:Hp} {s:Shared} {a:Addr} {y d:V} {u r:Value} {o:Option V} {A:Around} {E:Value->Shared->Prop}
end
section
variable {X:Cx} {o e f:Expr} {apos cpos:Pos} {td ty tx:TE}
end
section
variable {X:Cx} {pins:List (Addr×Obj)} {σ:St} {H:Hp} {s:Shared} {a:Addr} {kvs:List (Key×V)} {A:Around} {E:Value->Shared->Prop}
end
section
variable {X:Cx} {pins:List (Addr×Obj)} {σ:St} {H:Hp} {s:Shared} {a:Addr} {y:V} {u:Value} {A:Around} {E:Value->Shared->Prop}
end
section
variable {X:Cx}
end
section
variable {κ:Type} [DecidableEq κ]
end
section
variable {prog:Program} {w:World} {A:Around} {E:Value->Shared->Prop} {s:Shared} {dd:Option Addr}
end
section
variable {M:Model} {A:Around} {E:Value->Shared->Prop} {s:Shared} {dd:Option Addr}
end
section
variable {P:Program} {w:World} {K:Dj} {mg:Str->Option Value} {base:Heap} {N:List Str} {qual:Str} {scope:Scope} {f:Addr} {cd:Value} {A:Around} {outer:List Env} {s₀:Shared} {H₀:Hp} {E:XK}
end
section
variable {prog:Program} {w:World} {A:Around} {E:Value->Shared->Prop} {K:Dj} {x D:Addr} {ox:Obj} {s:Shared}
end
section
variable {X:Cx} {pins:List (Addr×Obj)} {σ:St} {H:Hp} {s:Shared} {x:Addr} {oe:Obj}
end
section
variable {P:Program} {w:World} {K:Dj} {mg:Str->Option Value} {base:Heap} {N:List Str} {qual:Str} {scope:Scope} {f:Addr} {cd:Value} {A:Around} {outer:List Env} {s₀:Shared} {H₀:Hp} {E:XK}
end
section
end
section
variable {P:Program} {w:World} {K:Dj} {mg:Str->Option Value} {base:Heap} {N:List Str} {qual:Str} {scope:Scope} {f:Addr} {cd:Value} {A:Around} {outer:List Env} {s₀:Shared} {H₀:Hp} {E:XK}
end
section
variable {K:Dj} {D:Ends} {σ:St} {H:Hp} {Q:VK} {E:XK} {C x:Addr}
end
section
variable {K:Dj} {D:Ends} {σ:St} {H:Hp} {E:St->XK} {C:Addr} {i:Nat} {t u tb:Ends->(St->XK)->St->Hp->Prop} {ts:Addr->Addr->Option Addr->TS} {c:TT}
end
end L2
namespace Tb
open PySem
end Tb
namespace Tb
open PySem
end Tb
namespace L2
open PySem PySem.Spec PyProof.Rows
section
variable {P:Program} {w:World} {A:Around} {E:Value->Shared->Prop} {s:Shared} {K:Type} [DecidableEq K] {knd:KeyKind P w K}
end
section
variable {P:Program} {w:World} {A:Around} {E:Value->Shared->Prop} {s:Shared}
end
section
variable {P:Program} {w:World} {A:Around} {I:Addr} {fp wr:List Addr} {G:Array GenState->Array GenState->Prop} {n:Nat} {Pz:Nat->Value->Prop} {St:Nat->Shared->Prop}
end
section
variable {P:Program} {w:World} {A:Around} {E:Value->Shared->Prop} {s:Shared}
end
namespace SF
end SF
section
variable {P:Program} {w:World} {A:Around} {E:Value->Shared->Prop} {s:Shared}
end
end L2
namespace PyProof.Rows
open PySem
section
variable {prog:Program} {w:World} {A:Around} {E:Value->Shared->Prop} {s:Shared} {κ:SortKind} {X:Keyed->Prop}
open Classical in
end
end PyProof.Rows
namespace L2
open PySem PySem.Spec PyProof.Rows
section
variable {P:Program} {w:World} {A:Around} {E:Value->Shared->Prop} {s:Shared}
open Classical in
end
section
variable {P:Program} {w:World}
end
section
variable {X:Cx} {pins:List (Addr×Obj)} {σ:St} {H:Hp} {s:Shared}
end
section
variable {X:Cx}
end
section
variable {X:Cx} {pins:List (Addr×Obj)} {σ:St} {H:Hp} {s:Shared}
end
open AutoSeq1 (wpAny_loadPart')in
section
variable {K:Dj} {σ:St} {H:Hp} {Q:VK}
end
section
variable {X:Cx}
def nT(neg:Bool):R2:=λx y H Q=>∃n p xs d ds,aQ H n x d/\y=.ref p/\H p=some (.lst xs)/\Paired (aQ H n) xs ds/\n<=50/\Q (.bl (if neg then !(ds.any λe=>PyData.eqv e d)else ds.any λe=>PyData.eqv e d)) H
def Df{k:Nat}(hr:Room k X.A):aY X (compareOp .In) (nT false):=by intro pins s σ H x y v u Q I rx ry h;obtain⟨n,p,xs,d,ds,h1,rfl,h2,h3,hn,q⟩:=h;have h4:aQ H (n+1) (.ref p) (.list ds):=.inr ⟨p,xs,ds,rfl,.inr ⟨h2,rfl⟩,h3⟩;obtain⟨as,ra⟩:=aQ.reads I n h1 rx;obtain⟨bs,rb⟩:=aQ.reads I (n+1) h4 ry;have l1:=aQ.lay n h1;have l2:=iS (λ{x d}=>aQ.lay (H:=H) n) h3;have hu:=hr.units;have hm:min (PyData.depthAll ds) d.depth<=50:=DS (Nat.min_le_right _ _) (DS l1.2 hn);exact SeqAt.in_list_reads rb ra l2.1 l1.1 (by omega) ⟨.bl _,H,I,rfl,q⟩
def rG{k:Nat}(hr:Room k X.A):aY X (compareOp .NotIn) (nT true):=by intro pins s σ H x y v u Q I rx ry h;obtain⟨n,p,xs,d,ds,h1,rfl,h2,h3,hn,q⟩:=h;have h4:aQ H (n+1) (.ref p) (.list ds):=.inr ⟨p,xs,ds,rfl,.inr ⟨h2,rfl⟩,h3⟩;obtain⟨as,ra⟩:=aQ.reads I n h1 rx;obtain⟨bs,rb⟩:=aQ.reads I (n+1) h4 ry;have l1:=aQ.lay n h1;have l2:=iS (λ{x d}=>aQ.lay (H:=H) n) h3;have hu:=hr.units;have hm:min (PyData.depthAll ds) d.depth<=50:=DS (Nat.min_le_right _ _) (DS l1.2 hn);exact SeqAt.notIn_list_reads rb ra l2.1 l1.1 (by omega) ⟨.bl _,H,I,rfl,q⟩
def qY{neg:Bool}{n:Nat}{x:V}{p:Addr}{xs:List V}{d:PyData}{ds:List PyData}{H:Hp}{Q:VK}(h1:aQ H n x d)(h2:H p=some (.lst xs))(h3:Paired (aQ H n) xs ds)(hn:n<=50)(q:Q (.bl (if neg then !(ds.any λe=>PyData.eqv e d)else ds.any λe=>PyData.eqv e d)) H):nT neg x (.ref p) H Q:=
 ⟨n,p,xs,d,ds,h1,rfl,h2,h3,hn,q⟩
end
abbrev Row3:=Str×Tok×Value
def jF(w:World)(e:Row3):DictEntry:=⟨PyData.keyHash w.params e.1,.str e.1 e.2.1,e.2.2⟩
def hG(w:World)(l:List Row3)(ep:Nat):Obj:={ cls:=.type "dict",dict:=none,data:=.dict (l.map (jF w)).toArray ep,slots:=#[] }
structure GDict(w:World)(K:Dj)(a:Addr)(kvs:List (Key×V)):Prop where
 has:∃l ep,K.lookup a=some (hG w l ep)/\KV kvs (l.map λe=>((Sum.inr e.1:Key),e.2.2))
 nd:(kvs.map (·.1)).Nodup
 sm:(a == sysModules)=false
def pF{P:Program}{w:World}:∀l:List Row3,Pairs (bV P w) (l.map (jF w)) (l.map λe=>((Sum.inr e.1:Key),e.2.2))
 | []=>.nil
 | e::l=>.cons (lY P w e.1 e.2.1) rfl (pF l)
def CK{P:Program}{w:World}(l:List Row3):KeysOf (bV P w) (l.map (jF w)).toArray:=λe he=>by
 have he':e∈l.map (jF w):=by simpa using he
 obtain⟨x,_,rfl⟩:=List.mem_map.mp he';exact⟨.inr x.1,lY P w x.1 x.2.1,rfl⟩
def GDict.at{X:Cx}{pins:List (Addr×Obj)}{σ:St}{H:Hp}{s:Shared}{a:Addr}{kvs:List (Key×V)}(D:GDict X.w X.K a kvs)(I:Inv X pins σ H s):∃vs,KV kvs vs/\s.heap.DictOf (bV X.prog X.w) a vs:=by obtain⟨l,ep,hl,r⟩:=D.has;refine⟨_,r,hG X.w l ep,_,ep,I.kIn _ _ hl,⟨rfl,rfl,rfl⟩,rfl,CK l,pF l,?_⟩;rw[←r.keys];exact D.nd
section
variable {X:Cx} {x:Str} {a:Addr} {kvs:List (Key×V)} {i:Expr} {ty:TE} {p pos:Pos}
def qp(kvs:List (Key×V))(ty:TE):TE:=λσ H Q=>ty σ H λy H1=>∃k v,y=kV k/\bF kvs k=some v/\Q v H1
def rV(neg:Bool)(kvs:List (Key×V))(ty:TE):TE:=λσ H Q=>ty σ H λy H1=>∃k,y=kV k/\Q (.bl (if neg then !(bF kvs k).isSome else(bF kvs k).isSome)) H1
def yL(hg:Gl X x)(hm:X.mg x=some (.ref a))(D:GDict X.w X.K a kvs)(hi:PE X i ty)(hs:tI i)(hd:(x == ("__debug__":Str))=false:=by decide):PE X (.Subscript (.Name x p) i pos) (qp kvs ty):=by intro pins s σ H Q I h;refine xu PySem.F.slot_dict_getitem.lookup hs (iK I hg hm (aw (hi pins s σ H _ I h) λiv s2 ⟨y,H2,I2,ry,k,v,ey,hv,q⟩=>?_) hd);subst ey;obtain⟨vs,rel,dd⟩:=D.at I2;obtain⟨w',hw,rw'⟩:=eD.some_of (v:=v) (o:=valueAt vs k) (by rw[←hv];exact rel.val k);exact⟨dd.typeIs,wpAny_getItem_of (iL ry) dd.mapOf hw ⟨v,H2,I2.tok _,rw',q⟩⟩
def AY(hg:Gl X x)(hm:X.mg x=some (.ref a))(D:GDict X.w X.K a kvs)(hi:PE X i ty)(hd:(x == ("__debug__":Str))=false:=by decide):PC X .In i (.Name x p) (rV false kvs ty):=by intro pins s σ H Q I h;refine aw (hi pins s σ H _ I h) λiv s1 ⟨y,H1,I1,ry,k,ey,q⟩=>iK I1 hg hm ?_ hd;subst ey;obtain⟨vs,rel,dd⟩:=D.at I1;refine wpAny_in_of (iL ry) D.sm dd.mapOf ?_;rw[←(rel.val k).isSome_eq];exact⟨.bl (bF kvs k).isSome,H1,I1.tok _,rfl,q⟩
def rd_gget{σ:St}{H:Hp}{Q:VK}(h:ty σ H λy H1=>∃k v,y=kV k/\bF kvs k=some v/\Q v H1):qp kvs ty σ H Q:=h
def rd_gin{neg:Bool}{σ:St}{H:Hp}{Q:VK}(h:ty σ H λy H1=>∃k,y=kV k/\Q (.bl (if neg then !(bF kvs k).isSome else(bF kvs k).isSome)) H1):rV neg kvs ty σ H Q:=h
def CZ{R:V->Prop}{z:Str}{v:V}(hv:bF kvs (.inr z)=some v)(h:R v):∃k v,V.str z=kV k/\bF kvs k=some v/\R v:=⟨.inr z,v,rfl,hv,h⟩
def sr:R2:=λx y H Q=>∃a b,x=.str a/\y=.str b/\Q (.bl (!decide (b.cps.toList<a.cps.toList))) H
def pI:aY X (compareOp .LtE) sr:=by intro pins s σ H x y v u Q I rx ry h;obtain⟨a,b,rfl,rfl,q⟩:=h;obtain⟨t,rfl⟩:=rx;obtain⟨t',rfl⟩:=ry;exact PySem.P.le_str ⟨.bl _,H,I,rfl,q⟩
def rd_leS{a b:Str}{H:Hp}{Q:VK}(h:Q (.bl (!decide (b.cps.toList<a.cps.toList))) H):sr (.str a) (.str b) H Q:=⟨a,b,rfl,rfl,h⟩
def m7{α β:Type}{f g:α->Option β}:∀{l:List α},(∀x∈l,f x=g x)->l.filterMap f=l.filterMap g
 | [],_=>rfl
 | x::l,h=>by rw[List.filterMap_cons,List.filterMap_cons,h x Dv,m7 λy hy=>h y (Ds _ hy)]
def AQ(n:Nat)(xs:List Value)(h:xs.length=n):(Ek n).filterMap (λi:Nat=>xs[((n:Int)-1+(i:Int)*(-1)).toNat]?)=xs.reverse:=by
 refine List.ext_getElem? λi=>?_;have e:(Ek n).filterMap (λi:Nat=>xs[((n:Int)-1+(i:Int)*(-1)).toNat]?)=(Ek n).map (λi:Nat=>xs.reverse.getD i .none):=by
  rw[←List.filterMap_eq_map];refine m7 λi hi=>?_;have hi:=List.mem_range.mp hi;have:((n:Int)-1+(i:Int)*(-1)).toNat=n-1-i:=by omega
  rw[this,Function.comp_apply,List.getD_eq_getElem?_getD,List.getElem?_reverse (by omega),h,Dp (show n-1-i<xs.length by omega)];rfl
 rw[e,Dr];by_cases hi:i<n
 ·rw[Dp (by simpa using hi),Dp (by simpa[h]using hi)];simp[List.getD_eq_getElem?_getD,h,hi]
 ·rw[List.getElem?_eq_none (by simpa using hi),List.getElem?_eq_none (by simpa[h]using hi)];rfl
def Ax(its:List Value):slicePick its.toArray none none (some (-1))=its.reverse.toArray:=by
 unfold slicePick;have e:sliceBounds none none (some (-1)) its.toArray.size=((its.length:Int)-1,-1,-1):=by unfold sliceBounds;simp
 rw[e];refine congrArg List.toArray ?_;rw[←AQ its.length its rfl];unfold sliceRange;simp only;rw[En (by decide),List.filterMap_map];have el:(if(its.length:Int)-1 > -1 then((its.length:Int)-1 - -1 - -1-1) / - -1 else 0).toNat=its.length:=by rw[show (- -1:Int)=1 by decide,Int.ediv_one];split<;>omega
 rw[el];refine m7 λi hi=>?_;rw[Function.comp_apply,show (its.length:Int)-1 + -1*(i:Int)=(its.length:Int)-1+(i:Int) * -1 by omega];simp
def Vals.rev{xs:List V}{us:List Value}(r:Vals xs us):Vals xs.reverse us.reverse:=by
 induction r with
 | nil=>exact .nil
 | cons h t ih=>
  rw[List.reverse_cons,List.reverse_cons];exact Vals.append ih (.cons h .nil)
def ow(K:Dj):V->Hp->VK->Prop:=λx H Q=>∃a xs,x=.ref a/\ag K H a xs/\dY H (.lst xs.reverse) Q
def pO(K:Dj)(te:TE)(ts:TO):TE:=λσ H Q=>te σ H λx H1=>ts σ H1 λk H2=>k=some (-1)/\ow K x H2 Q
def xF{e st:Expr}{te:TE}{ts:TO}{p2:Pos}(K:Dj)(he:PE X e te)(hs:PO X (some st) ts)(hK:X.K=K:=by rfl):PE X (.Subscript e (.Slice none none (some st) p2) pos) (pO K te ts):=by
 subst hK;intro pins s σ H Q I h;refine Subscript_ (aw (he pins s σ H _ I h) λv s1 ⟨x,H1,I1,r1,q1⟩=>?_);refine wpAny_Slice ?_;rw[evalPart_none];refine Di (Di ?_);refine aw (hs pins s1 σ H1 _ I1 q1) λvs s2 ⟨k,H2,I2,pk,q2⟩=>?_;obtain⟨rfl,a,xs,rfl,hx,q⟩:=q2;cases pk with
 | int i tk=>
 cases r1;have I3:Inv X pins σ H2 { s2 with heap:=s2.heap.push { cls:=.type "slice",data:=.fields #[.none,.none,.int (-1) tk] } }:=I2.kept (t':=s2.toks) λb ob q=>Dk _ q;obtain⟨its,r,ht,hz⟩:=I3.list hx;have hlen:=r.length;show wpAny (model X.prog X.w) X.A (subscriptTail e (.Slice none none (some st) p2) (.ref a) (.ref s2.heap.objs.size)) (EP X pins σ Q) X.xe { s2 with heap:=s2.heap.push { cls:=.type "slice",data:=.fields #[.none,.none,.int (-1) tk] } };refine tail_any (ops:=[.ref a,.ref s2.heap.objs.size]) ht.isList.typeIs slot_list_getitem.lookup (wpAny_getItem_list_slice ht.isList (Heap.IsSliceOf.new ..) .none .none (.int (-1) tk) (by decide) ?_ (by rw[Du];omega)) (by with_unfolding_all rfl);rw[Ax];exact⟨.ref _,_,I3.laid (t':=s2.toks) (o:=.lst xs.reverse) (λb ob e=>Dk _ e) (DI _) ⟨by rw[List.length_reverse];exact hz,_,0,r.rev,Dl _ rfl⟩,rfl,q _ (I3.hok.fresh (DI _))⟩
def rd_revL{K:Dj}{te:TE}{ts:TO}{σ:St}{H:Hp}{Q:VK}(h:te σ H λx H1=>ts σ H1 λk H2=>k=some (-1)/\ow K x H2 Q):pO K te ts σ H Q:=h
def yr{K:Dj}{H:Hp}{Q:VK}{a:Addr}{xs:List V}(e:ag K H a xs)(h:dY H (.lst xs.reverse) Q):ow K (.ref a) H Q:=⟨a,xs,rfl,e,h⟩
end
section
variable {prog:Program} {w:World} {A:Around} {E:Value->Shared->Prop} {s:Shared} {r d:Addr}
end
section
variable {X:Cx}
def sZ(tk tv:TE):TE:=λσ H Q=>∀p,H p=none->tk σ (upd H p (.dT [])) λx H1=>tv σ H1 λv H2=>∃b k,x=.ref b/\H2 b=some (.tup (List.map kV k))/\H2 p=some (.dT [])/\Q (.ref p) (upd H2 p (.dT [(k,v)]))
def B9{ek ev:Expr}{tk tv:TE}{pos:Pos}(hu:X.A.units+1<cLine)(hk:PE X ek tk)(hv:PE X ev tv):PE X (.Dict [some ek] [ev] pos) (sZ tk tv):=by
 intro pins s σ H Q I q;have hn:=I.hok.fresh (DI s.heap.objs.size);have I1:=I.laid (a:=s.heap.objs.size) (o:=.dT []) (h':=s.heap.push { cls:=.type "dict",data:=.dict #[] }) (t':=s.toks) (λ_ _ q=>Dk _ q) (DI _) (Aw s.heap I.big);refine wpAny_Dict_any rfl rfl (by simp) (by simp) ?_;refine pairTrees_cons_walk (aw (hk pins _ σ _ _ I1 (q _ hn)) λu s1 ⟨x,H1,I1,rx,q1⟩=>aw (hv pins s1 σ H1 _ I1 q1) λw2 s2 ⟨v,H2,I2,ry,q2⟩=>pairTrees_nil_walk ?_);obtain⟨b,k,rfl,hb,e,q3⟩:=q2;cases(show u=Value.ref b from rx);obtain⟨z,hd,xs,rel,dd⟩:=rH I2.hok e;have hz:xs.length<=sizeLine:=by rw[←Paired.length rel];exact Nat.zero_le _
 unfold storeAll;rw[List.forIn_cons];refine Dh (Dh (wpAny_dictSet_heap (hsz:=hz) (show(tupleKind (bV X.prog X.w)).room X.A from Nat.lt_of_succ_lt hu) (jL I2.hok hb) dd λh' dd' hs=>Di ?_));dsimp only;rw[List.forIn_nil];refine Di ⟨.ref s.heap.objs.size,_,?_,rfl,q3⟩;obtain⟨q,es,ep,hq,h2,h3,h4,_,h5⟩:=dd';refine nZ I2 (by rw[e];exact True.intro) hs ⟨q,hq⟩ ⟨by rw[sizeLine_eq];simp,hd,_,(rel.put k hb ry).keeps λc ys ec=>?_,q,es,ep,hq,h2,h3,h4,h5⟩;rw[ax (eC ec e (λz=>nomatch z))];exact ec
def rd_disp1{tk tv:TE}{σ:St}{H:Hp}{Q:VK}(h:∀p,H p=none->tk σ (upd H p (.dT [])) λx H1=>tv σ H1 λv H2=>∃b k,x=.ref b/\H2 b=some (.tup (List.map kV k))/\H2 p=some (.dT [])/\Q (.ref p) (upd H2 p (.dT [(k,v)]))):sZ tk tv σ H Q:=h
def rd_dnin{ty td:TE}{σ:St}{H:Hp}{Q:VK}(h:ty σ H λy H1=>td σ H1 λx H2=>∃a o,x=.ref a/\gJ H2 a y o/\Q (.bl (!o.isSome)) H2):qB ty td σ H Q:=h
def rd_dput{td ty tv:TE}{D:Ends}{σ:St}{H:Hp}(h:tv σ H λv H1=>td σ H1 λx H2=>ty σ H2 λy H3=>∃a H4,x=.ref a/\g9 H3 a y v H4/\D.nx σ H4):tF td ty tv D σ H:=h
def LitE.pe{e:Expr}{te:TE}(h:LitE e te):PE X e te:=
 LitE.rec (motive_1:=λe te _=>PE X e te) (motive_2:=λes ta _=>PA X es ta) i6 bA af aO (λ_ ih=>bz ih) ae (λh _ ih1 ih2=>aa ih1 ih2 (h.star _ _)) h
def yj{e:Expr}{te:TE}{es:List Expr}{t:TA}(h:LitE e te)(hr:PA X es t):PA X (e::es) (jG te t):=aa h.pe hr (h.star _ _)
end
section
variable {X:Cx} {tg:Expr}
end
section
variable {prog:Program} {w:World} {A:Around} {E:Value->Shared->Prop} {s:Shared}
end
section
variable {X:Cx} {tg:Expr}
end
section
variable {X:Cx}
end
def yo(K:Dj):List V->Hp->VK->Prop:=λxs H Q=>∃(p:Addr) (bs:List Bool),xs=[.ref p]/\ag K H p (bs.map V.bl)/\Q (.bl (bs.any id)) H
def any_range(bs:List Bool):((Ek bs.length).any λi=>bs.getD i false)=bs.any id:=by
 rw[DW,DV,DV];constructor
 ·rintro⟨i,hi,h⟩;have hi':=List.mem_range.mp hi;rw[List.getD_eq_getElem?_getD,Dp hi']at h;exact⟨_,DO hi',h⟩
 ·rintro⟨b,hb,h⟩;obtain⟨i,hi,e⟩:=List.mem_iff_getElem.mp hb;refine⟨i,List.mem_range.mpr hi,?_⟩;rw[List.getD_eq_getElem?_getD,Dp hi,e];exact h
def xQ{X:Cx}(K:Dj)(hc:X.calm=true)(hK:X.K=K:=by rfl):b9 X (.builtin "any") (yo K):=by
 subst hK;intro pins s σ H xs us Q I r h;obtain⟨p,bs,rfl,hq,q⟩:=h;obtain⟨u,rfl,rx⟩:=vals1 r;cases rx;obtain⟨its,rv,pl,hz⟩:=I.list hq;have eb:=lM rv;have hne:p≠s.heap.objs.size:=DH (by obtain⟨o,n,e,_⟩:=pl;exact Dm e);refine call_any_walk (wpAny_pyIter_list pl.isList ?_);have I1:Inv X pins σ H { s with heap:=s.heap.push { cls:=.type "list_iterator",data:=.fields #[.ref p,.int 0 0] } }:=I.kept (t':=s.toks) λb o e=>Dk _ e;have hf:=I.fpOk (H':=H) (DI s.heap.objs.size) I.fresh;refine⟨s.heap.objs.size,_,_,_,_,_,(λi=>bs.getD i false),rfl,Walks.list (A:=X.A.in1) (I.ok.hd hc) _ p hne its.toArray,⟨⟨_,Dl _ rfl,rfl,rfl⟩,?_⟩,?_,λh' tk hk=>?_⟩
 ·exact pl.isList.push _
 ·intro i v s' Q' E' hv hQ;rw[eb]at hv;have hv':(bs.map Value.bool)[i]?=some v:=by simpa using hv
  rw[Dr]at hv';cases eg:bs[i]? with
  | none=>rw[eg]at hv';cases hv'
  | some b=>
   rw[eg]at hv';cases hv';have eb':bs.getD i false=b:=by rw[List.getD_eq_getElem?_getD,eg];rfl
   have hQ':Q' (bs.getD i false) s':=hQ;rw[eb']at hQ';exact wpAny_truthy_bool hQ'
 ·obtain⟨f0,f1,f2,f3,f4,f5⟩:=hf;have hl:=rv.length;rw[Dn]at hl;refine⟨.bl (bs.any id),H,I1.turned (it:=s.heap.objs.size) (λb o hb e=>hk b o (by simpa using hb) e) f0 f1 f3 f4 f5,?_,q⟩;show Value.bool _=Value.bool _;rw[Du,←hl,any_range]
section
variable {X:Cx}
end
section
variable {P:Program} {w:World} {K:Dj} {mg:Str->Option Value} {base:Heap}
end
section
variable {X:Cx}
end
section
variable {P:Program} {w:World} {A:Around} {E:Value->Shared->Prop} {s:Shared}
end
section
variable {X:Cx} {pins:List (Addr×Obj)} {σ:St} {H:Hp} {s:Shared}
end
section
variable {X:Cx}
end
section
variable {P:Program} {w:World} {A:Around} {E:Value->Shared->Prop} {s:Shared}
end
section
variable {X:Cx}
end
section
variable {X:Cx} {pins:List (Addr×Obj)} {σ:St} {H:Hp} {s:Shared}
end
section
variable {X:Cx}
end
section
variable {X:Cx} {x:Addr} {oe:Obj}
end
section
variable {prog:Program} {w:World} {A:Around} {E:Value->Shared->Prop} {s:Shared} {dd:Option Addr}
end
section
variable {X:Cx} {x:Addr} {oe:Obj}
end
section
variable {X:Cx}
end
section
variable {prog:Program} {w:World} {A:Around} {E:Value->Shared->Prop} {K:Dj} {x D:Addr} {ox:Obj} {h:Heap} {g:Array GenState} {dr:Drawn} {t:Nat} {os:OsState}
variable {nm q:Str} {N:Addr} {bs bm bmB:List Value} {sn:List Str} {sub:List Value} {ab:Bool} {col:Option Bool} {dd:Option Addr} {k0 k1 k2 k3 k5:Option Value} {newId:String} {name:Str} {v:Value}
end
section
variable {prog:Program} {w:World} {A:Around} {E:Value->Shared->Prop} {h:Heap} {g:Array GenState} {d:Drawn} {t:Nat} {os:OsState}
variable {nm q:Str} {C N:Addr} {bs bm bmB:List Value} {hdct:Bool} {sn:List Str} {sub:List Value} {ab:Bool} {col:Option Bool} {dd:Option Addr} {k0 k1 k2 k3 k5:Option Value} {B newId initId:String} {K:Dj}
end
section
variable {P:Program} {w:World} {A:Around} {E:Value->Shared->Prop} {K:Dj} {s:Shared} {e C:Addr} {oe:Obj} {v:Value}
end
section
variable {M:Model} {A:Around} {E:Value->Shared->Prop} {env:Env} {nm q:Str} {C N:Addr} {bs bm bmB:List Value} {hdct:Bool} {sn:List Str} {sub:List Value} {ab:Bool} {col:Option Bool} {dd:Option Addr} {k0 k1 k2 k3 k5:Option Value} {newId:String}
end
section
variable {prog:Program} {w:World} {A:Around} {E:Value->Shared->Prop} {s:Shared} {env:Env} {K:Dj} {nm q:Str} {C N:Addr} {bs bm bmB:List Value} {hdct:Bool} {sn:List Str} {sub:List Value} {ab:Bool} {col:Option Bool} {dd:Option Addr} {k0 k1 k2 k3 k5:Option Value} {B newId initId:String}
end
section
variable {P:Program} {w:World} {K:Dj} {mg:Str->Option Value} {base:Heap} {N:List Str} {qual:Str} {scope:Scope} {f:Addr} {cd:Value} {A:Around} {outer:List Env} {s₀:Shared} {H₀:Hp} {E:XK}
end
section
variable {P:Program} {w:World} {K:Dj} {mg:Str->Option Value} {base:Heap}
end
section
variable {Y:Cx} {x:Addr} {oe:Obj}
end
section
variable {prog:Program} {w:World} {A:Around} {E:Value->Shared->Prop} {K:Dj} {x D:Addr} {ox:Obj} {od:Option Obj} {name:Str} {v:Value}
end
section
variable {X:Cx} {x D:Addr} {oe:Obj} {da:Option Addr}
end
section
variable {P:Program} {w:World} {A:Around} {E:Value->Shared->Prop} {s:Shared}
end
section
variable {X:Cx}
end
section
variable {prog:Program} {w:World} {A:Around} {E:Value->Shared->Prop} {s:Shared}
end
section
variable {X:Cx}
end
def gg{x:Str}{c:Addr}:∀(names:List (Str×NameKind)) (n:Nat) (acc:List (Str×Addr)),(cellsFrom n names acc).lookup x=some c->acc.lookup x=some c\/(n<=c/\(x,NameKind.cell)∈names)
 | [],_,_,h=>.inl h
 | (y,k)::r,n,acc,h=>by
  unfold cellsFrom at h;by_cases hk:(k == NameKind.cell)=true
  ·rw[Eo hk]at h;have hk':k=.cell:=by simpa using hk
   subst hk';rcases gg r (n+1) ((y,n)::acc) h with h|⟨h1,h2⟩
   ·rw[Eg]at h;cases hb:x == y with
    | true=>
     rw[hb]at h;cases h;rw[beq_iff_eq.mp hb];exact .inr ⟨DI _,Dv⟩
    | false=>rw[hb]at h;exact .inl h
   ·exact .inr ⟨Nat.le_of_succ_le h1,Ds _ h2⟩
  ·rw[En hk]at h;rcases gg r n acc h with h|⟨h1,h2⟩
   ·exact .inl h
   ·exact .inr ⟨h1,Ds _ h2⟩
def j8{x y:Str}{c:Addr}:∀(names:List (Str×NameKind)) (n:Nat) (acc:List (Str×Addr)),(∀x c,acc.lookup x=some c->@LT.lt Nat _ c n)->(∀x y c,acc.lookup x=some c->acc.lookup y=some c->x=y)->(cellsFrom n names acc).lookup x=some c->(cellsFrom n names acc).lookup y=some c->x=y
 | [],_,_,_,hi,h1,h2=>hi _ _ _ h1 h2
 | (z,k)::r,n,acc,hb,hi,h1,h2=>by
  unfold cellsFrom at h1 h2;by_cases hk:(k == NameKind.cell)=true
  ·rw[Eo hk]at h1 h2;refine j8 r (n+1) ((z,n)::acc) (λx c h=>?_) (λx y c h1 h2=>?_) h1 h2
   ·rw[Eg]at h;cases e:x == z with
    | true=>rw[e]at h;cases h;exact Nat.lt_succ_self _
    | false=>rw[e]at h;exact Nat.lt_succ_of_lt (hb x c h)
   ·rw[Eg]at h1 h2;cases e1:x == z with
    | true=>
     rw[e1]at h1;cases h1;cases e2:y == z with
     | true=>rw[beq_iff_eq.mp e1,beq_iff_eq.mp e2]
     | false=>rw[e2]at h2;exact absurd (hb _ _ h2) (Nat.lt_irrefl _)
    | false=>
     rw[e1]at h1;cases e2:y == z with
     | true=>rw[e2]at h2;cases h2;exact absurd (hb _ _ h1) (Nat.lt_irrefl _)
     | false=>rw[e2]at h2;exact hi _ _ _ h1 h2
  ·rw[En hk]at h1 h2;exact j8 r n acc hb hi h1 h2
def oJ{x:Str}{c:Addr}:∀(names:List (Str×NameKind)) (h:Heap) (acc:List (Str×Addr)),(cellsFrom h.objs.size names acc).lookup x=some c->acc.lookup x=some c\/(pushCells h names).IsCell c none
 | [],_,_,e=>.inl e
 | (y,k)::r,h,acc,e=>by
  unfold cellsFrom at e;unfold pushCells;by_cases hk:(k == NameKind.cell)=true
  ·rw[Eo hk]at e ⊢;rw[←Heap.size_push h { cls:=.type "cell",data:=.cell none }]at e;rcases oJ r (h.push { cls:=.type "cell",data:=.cell none }) ((y,h.objs.size)::acc) e with e|e
   ·rw[Eg]at e;cases hb:x == y with
    | true=>
     rw[hb]at e;cases e;exact .inr ⟨_,pushCells_keeps _ _ _ _ (Dl _ rfl),rfl⟩
    | false=>rw[hb]at e;exact .inl e
   ·exact .inr e
  ·rw[En hk]at e ⊢;exact oJ r h acc e
section
variable {M:Model} {A:Around} {E:Value->Shared->Prop} {s:Shared}
def AB{scope:Scope}{globals:Addr}{closure:List (Str×Addr)}{qual:Str}{func:Option Addr}{code:Value}{outer:Env}{builtins:Addr}{Q:Env->Shared->Prop}
  (hQ:Q (newEnv scope s.heap.objs.size globals (cellsFrom (s.heap.objs.size+1) scope.names closure) qual func code (some outer) builtins) { s with heap:=pushCells (s.heap.push { cls:=.type "dict",data:=.dict #[] }) scope.names }) :
  wpAny M A (newFunctionEnv scope globals closure [] qual func code (some outer) builtins) Q E s:=by
 simp only[newFunctionEnv,Option.isSome_some,if_true];refine Dh (wpAny_alloc ?_);refine Dh (wpAny_layCells _ (λname kind cells=>by cases hkc:kind == NameKind.cell<;>simp[hkc]) _ _ _ _ ?_);rw[show ({ s with heap:=s.heap.push { cls:=.type "dict",data:=.dict #[] } }:Shared).heap.objs.size=s.heap.objs.size+1 from Heap.size_push ..];refine Dh ?_;rw[List.forIn_nil];exact Di (Di hQ)
end
def gj(X:Cx)(sc:Scope)(C:Addr):List (Str×Addr):=cellsFrom (Nat.succ C) sc.names (cG sc.names X.env.cells)
def cg(X:Cx)(sc:Scope)(own:List Str)(js:List Nat)(z:Blk):Cx where
 prog:=X.prog
 w:=X.w
 K:=X.K
 mg:=X.mg
 base:=X.base
 A:=X.A
 N:=own++js.map λj=>X.N.getD j ""
 s₀:=z.s
 H₀:=z.H
 env:=compEnvC sc (gj X sc z.C) z.C X.env
 outer:=X.stack
 stack:=X.stack
 ex:=z.fp
 fn:=λx=>sc.names.lookup x == some .cell
 calm:=X.calm
 pn:=[]
 xe:=λ_ _=>False
def dw(sc out:Scope):Bool:=sc.names.all λp=>(p.2 != .cell || sc.names.lookup p.1 == some .cell) && (p.2 != .local || sc.names.lookup p.1 == some .local) && (p.2 != .free || out.names.lookup p.1 == some .cell || out.names.lookup p.1 == some .free) && (p.2 != .free || sc.names.lookup p.1 == some .free)
def j4{sc out:Scope}(h:dw sc out=true){p:Str×NameKind}(hp:p∈sc.names)(hf:p.2=.free):out.names.lookup p.1=some .cell\/out.names.lookup p.1=some .free:=by have:=DU.mp h p hp;simp[hf]at this;exact this.1
def xf{sc out:Scope}(h:dw sc out=true){x:Str}(hp:(x,NameKind.free)∈sc.names)(h2:sc.names.lookup x=some .cell):False:=by have:=DU.mp h _ hp;simp[h2]at this
def yN{sc out:Scope}(h:dw sc out=true){p:Str×NameKind}(hp:p∈sc.names)(hf:p.2=.cell):sc.names.lookup p.1=some .cell:=by have:=DU.mp h p hp;simp[hf]at this;exact this
def pZ{sc out:Scope}(h:dw sc out=true){p:Str×NameKind}(hp:p∈sc.names)(hf:p.2=.local):sc.names.lookup p.1=some .local:=by have:=DU.mp h p hp;simp[hf]at this;exact this
section
variable {X:Cx} {pins:List (Addr×Obj)} {σ:St} {H:Hp} {s:Shared}
def iQ(ok:X.Ok){sc:Scope}(hb:dw sc X.env.scope=true){x:Str}{c:Addr}(h:(cG sc.names X.env.cells).lookup x=some c):X.env.cells.lookup x=some c:=by
 rcases kx X.env.cells sc.names [] x c h with⟨h1,h2⟩|h1
 ·obtain⟨d,hd⟩:=ok.has x (j4 hb h1 rfl);rw[hd]at h2 ⊢;rw[h2];rfl
 ·simp at h1
def gN(ok:X.Ok){sc:Scope}(hb:dw sc X.env.scope=true){C:Addr}{x:Str}{c:Addr}(h:(gj X sc C).lookup x=some c):X.env.cells.lookup x=some c\/(@LT.lt Nat _ C c/\sc.names.lookup x=some .cell):=by
 rcases gg _ _ _ h with h|⟨h1,h2⟩
 ·exact .inl (iQ ok hb h)
 ·exact .inr ⟨h1,yN hb h2 rfl⟩
def mM{sc:Scope}{x:Str}{C:Addr}(h:(x,NameKind.free)∈sc.names):∃c,(gj X sc C).lookup x=some c:=by obtain⟨c,hc⟩:=pG (cells:=X.env.cells) h;exact Option.isSome_iff_exists.mp (PySem.W.cellsFrom_some sc.names _ _ (.inr (by rw[hc];rfl)))
def xi(I:Inv X pins σ H s){sc:Scope}(hb:dw sc X.env.scope=true){x:Str}{c:Addr}(h:(cG sc.names X.env.cells).lookup x=some c):@LT.lt Nat _ c s.heap.objs.size:=I.cell_lt (iQ I.ok hb h)
def xA(I:Inv X pins σ H s){sc:Scope}{own:List Str}{js:List Nat}{fp:List Addr}{C:Nat}(hk:sc.kind=.function)(hb:dw sc X.env.scope=true)
  (hfp:∀b∈fp,bW X pins H b) (hC:s.heap.objs.size<=C) (hlt:∀b∈fp,b<s.heap.objs.size):(cg X sc own js ⟨s,H,fp,C⟩).Ok where
 mod:=I.ok.mod
 kind:=hk
 glob:=I.ok.glob
 blt:=I.ok.blt
 above:=hC
 inj:=λx y c h1 h2=>j8 sc.names _ _ (λx c e=>Nat.lt_succ_of_le (DS (Nat.le_of_lt (xi I hb e)) hC)) (λx y c e1 e2=>I.ok.inj x y c (iQ I.ok hb e1) (iQ I.ok hb e2)) h1 h2
 has:=λx hx=>by
  have hx':(relabel sc X.env).names.lookup x=some .cell\/(relabel sc X.env).names.lookup x=some .free:=hx;have go:∀k,(relabel sc X.env).names.lookup x=some k->(k=.cell\/k=.free)->∃c,(gj X sc C).lookup x=some c:=λk h hkk=>by
   obtain⟨k',h1,h2⟩:=kc (sc:=sc) (env:=X.env) h;have m:=gL h1;rcases h2 with h2|⟨h2,_⟩
   ·subst h2;rcases hkk with e|e
    ·rw[e]at h1;exact Option.isSome_iff_exists.mp (PySem.W.cellsFrom_some sc.names _ _ (.inl h1))
    ·rw[e]at m;exact mM m
   ·rw[h2]at m;exact mM m
  rcases hx' with h|h
  ·exact go _ h (.inl rfl)
  ·exact go _ h (.inr rfl)
 cab:=λx c h e=>by
  have hx:sc.names.lookup x=some .cell:=by simpa[cg]using h
  have e':(gj X sc C).lookup x=some c:=e;rcases gg _ _ _ e' with e1|⟨e1,_⟩
  ·rcases kx X.env.cells sc.names [] x c e1 with⟨h1,_⟩|h1
   ·exact(xf hb h1 hx).elim
   ·simp at h1
  ·exact DS hC (Nat.le_of_succ_le e1)
 hd:=I.ok.hd
 frames:=I.ok.frames
 stk:=.inl rfl
 exf:=λb hb'=>⟨DH (DR (hlt b hb') hC),λx c e=>by
  rcases gN I.ok hb (C:=C) e with e|⟨e,_⟩
  ·exact(hfp b hb').2.2.2.2.1 x c e
  ·exact Nat.ne_of_gt (Nat.lt_trans (DR (hlt b hb') hC) e)⟩
 bs:=I.bs
 bsz:=DS I.ok.bsz I.sz
 noex:=λb o e hb'=>by
  rcases(hfp b hb').2.2.2.1 with z|z
  ·exact I.ok.noex b o e z
  ·exact absurd (DR (Dm e) (DS I.ok.bsz z)) (Nat.lt_irrefl _)
 exfs:=λb hb' hm=>by
  rcases DD.mp (I.stkSub b hm)with e|h
  ·exact(hfp b hb').2.1 e
  ·exact(hfp b hb').2.2.1 h
 funs:=I.stack
 frf:=I.stkFree
def AO(I:Inv X pins σ H s){sc:Scope}{own:List Str}{js:List Nat}{fp:List Addr}{C D:Nat}{h1:Heap}{tk:Nat}{o:Obj}{m:Str->Option Value}(hk:sc.kind=.function)(hb:dw sc X.env.scope=true)(hj:jr sc X.N js=true)
  (hfp:∀b∈fp,bW X pins H b) (hlt:∀b∈fp,b<s.heap.objs.size) (hD:D=s.heap.objs.size) (hC:C=s.heap.objs.size+1) (old:∀b o,s.heap.get? b=some o->h1.get? b=some o)
  (hDo:h1.get? D=some o) (hod:∀v,o.data≠.cell v) (hm:h1.Ns C m) (hcl:∀x c,(gj X sc C).lookup x=some c->(cG sc.names X.env.cells).lookup x=some c\/h1.IsCell c none) :
  Inv (cg X sc own js ⟨s,H,fp,C⟩) [(D,o)] (cD own.length js σ) H { s with heap:=h1,toks:=tk } where
 ok:=xA I hk hb hfp (show @LE.le Nat _ s.heap.objs.size C by omega) hlt
 os:=rfl
 bare:=I.bare
 base:=Un.kept old
 loc:=by
  refine⟨m,hm,λi x v e1 e2 e3=>?_⟩;obtain⟨k,j,rfl,ej,es⟩:=qi e2;have e1':(own++js.map λj=>X.N.getD j "")[own.length+k]?=some x:=e1;rw[DM (by omega),Nat.add_sub_cancel_left,Dr,ej]at e1';have ex:X.N.getD j "" = x:=by simpa using e1'
  have hjj:=DU.mp hj j (Dy ej);simp only[DX,decide_eq_true_eq,beq_iff_eq]at hjj;have exN:X.N[j]?=some x:=by rw[←ex,List.getD_eq_getElem?_getD,Dp hjj.1];rfl
  have hfree:sc.names.lookup x=some .free:=by rw[←ex];exact hjj.2
  have hmem:=gL hfree;have hout:=j4 hb hmem rfl;obtain⟨m0,hn0,hl0⟩:=I.loc;obtain⟨u,r,l⟩:=hl0 j x v exN es (by rcases hout with z|z;exact .inr (.inl z);exact .inr (.inr z));refine⟨u,r,?_⟩;obtain⟨c,hc⟩:=mM (X:=X) (C:=C) hmem;have hc':X.env.cells.lookup x=some c:=by
   rcases gN I.ok hb hc with e|⟨_,e⟩
   ·exact e
   ·rw[hfree]at e;cases e
  have hcell:s.heap.IsCell c (some u):=by
   rcases l with⟨z,_⟩|⟨_,c',e',q⟩
   ·have z':X.env.scope.names.lookup x=some .local:=z;rcases hout with w|w<;>(rw[z']at w;cases w)
   ·rw[hc']at e';cases e';exact q
  have hcell1:h1.IsCell c (some u):=by obtain⟨oc,ho,hd⟩:=hcell;exact⟨oc,old c oc ho,hd⟩
  right;refine⟨?_,c,hc,hcell1⟩;have e3':(relabel sc X.env).names.lookup x=some .local\/(relabel sc X.env).names.lookup x=some .cell\/(relabel sc X.env).names.lookup x=some .free:=e3;rcases e3' with z|z
  ·obtain⟨k',z1,z2⟩:=kc (sc:=sc) (env:=X.env) z;rw[hfree]at z1;rcases z2 with z2|⟨_,z2⟩
   ·rw[z2]at z1;cases z1
   ·cases z2
  ·exact z
 cell:=λx c e=>by
  rcases hcl x c e with e|e
  ·obtain⟨v,oc,ho,hd⟩:=I.cell x c (iQ I.ok hb e);exact⟨v,oc,old c oc ho,hd⟩
  ·exact⟨none,e⟩
 free:=I.hok.fresh (show @LE.le Nat _ s.heap.objs.size C by omega)
 freeC:=λx c e=>by
  rcases gN I.ok hb (C:=C) e with e|⟨e,_⟩
  ·exact I.freeC x c e
  ·exact I.hok.fresh (show @LE.le Nat _ s.heap.objs.size c by omega)
 pin:=λp hp=>by
  have e:p=(D,o):=by simpa[cg]using hp
  subst e;refine⟨hDo,I.hok.fresh (show @LE.le Nat _ s.heap.objs.size D by omega),?_,λz=>?_,hod⟩
  ·exact DH (show @LT.lt Nat _ D C by omega)
  ·have h9:@LT.lt Nat _ D s.heap.objs.size:=I.stk_lt (b:=D) z;omega
 hok:=I.hok.kept old
 len:=by show(cD own.length js σ).length=(own++js.map λj=>X.N.getD j "").length;simp[cD]
def vn{elt tg iter:Expr}{ifs:List Expr}{sc:Scope}{pos:Pos}{own:List Str}{js:List Nat}{g:TG}{tc:TT}{te:TE}{J:It}{it:Addr}{fp:List Addr}{tn:Nat->Heap->Prop}{RR:Value->Addr->Result->Shared->Prop}{E:Value->Shared->Prop}
  {Q:VK} {W:Nat->Nat->List V->Hp->Prop} (hk:sc.kind=.function) (hb:dw sc X.env.scope=true) (hj:jr sc X.N js=true)
  (hg:∀C,PG (cg X sc own js ⟨s,H,fp,C⟩) tg g) (ht:∀C,iF (cg X sc own js ⟨s,H,fp,C⟩) ifs tc) (he:∀C,PE (cg X sc own js ⟨s,H,fp,C⟩) elt te)
  (I:Inv X pins σ H s) (T:∀C,TurnAt (cg X sc own js ⟨s,H,fp,C⟩) tg J fp it tn) (st:tn 0 s.heap) (hfp:∀b∈fp,bW X pins H b) (w0:∃m,W 0 m [] H)
  (turn:∀i m ys H',W i m ys H'->(J.stop i H'/\∀p,H' p=none->Q (.ref p) (upd H' p (.lst ys))) ∨
   (J.go i H'/\ys.length<sizeLine/\∃N:List V->Hp->Prop,(∀ys' H2,N ys' H2->∃m',m'<m/\W (i+1) m' ys' H2)/\∀x H2,J.yld i H' x H2->g x (cD own.length js σ) H2 λσ2 H3=>tc σ2 H3 λb H4=>
    if b=true then te σ2 H4 λv H5=>N (ys++[v]) H5 else N ys H4))
  (fin:∀D C s' ys H',H' D=none->Inv X pins σ (upd H' D (.lst ys)) s'->bW X pins (upd H' D (.lst ys)) C->(∃m,s'.heap.Ns C m)->s.heap.objs.size<=C->Q (.ref D) (upd H' D (.lst ys))->RR (.ref D) C (.ok .next) s') :
  wpAny (model X.prog X.w) X.A (newList []) (λacc s₃=>wpAny (model X.prog X.w) X.A (newFunctionEnv sc X.env.globals (cG sc.names X.env.cells) [] X.env.qual none .none (some X.env)) (λcenv s₄=>
   codeAny (model X.prog X.w) X.A (.compStart (.ListComp elt [⟨tg,iter,ifs,0⟩] sc pos) 0 (.ref it) acc { cenv with scope:=relabel sc X.env }) (RR acc cenv.locals) s₄) E s₃) E s:=by
 have hlt:∀b∈fp,b<s.heap.objs.size:=λb hb'=>by obtain⟨o,e,_⟩:=(T 0).obj 0 s.heap st b hb';exact Dm e
 refine wpAny_newObj_type (AB ?_);dsimp only;generalize hH2:s.heap.push { cls:=.type "list",dict:=none,data:=.seq ([]:List Value).toArray }=H2 at *;have hCs:H2.objs.size=s.heap.objs.size+1:=by rw[←hH2,Heap.size_push]
 have hns₁:(pushCells (H2.push { cls:=.type "dict",data:=.dict #[] }) sc.names).Ns H2.objs.size (λ_=>none):=(Heap.Ns.new H2 (.type "dict")).keeps (pushCells_keeps _ _);have hcl₁:∀x c,(gj X sc H2.objs.size).lookup x=some c->(cG sc.names X.env.cells).lookup x=some c\/(pushCells (H2.push { cls:=.type "dict",data:=.dict #[] }) sc.names).IsCell c none:=λx c e=>by have e':(cellsFrom (H2.objs.size+1) sc.names (cG sc.names X.env.cells)).lookup x=some c:=e;rw[←Heap.size_push H2 { cls:=.type "dict",data:=.dict #[] }]at e';exact oJ _ _ _ e'
 have old:∀b o,s.heap.get? b=some o->(pushCells (H2.push { cls:=.type "dict",data:=.dict #[] }) sc.names).get? b=some o:=λb o e=>pushCells_keeps _ _ b o (Dk _ (hH2 ▸ Dk _ e));have hDo:(pushCells (H2.push { cls:=.type "dict",data:=.dict #[] }) sc.names).get? s.heap.objs.size=some (di [] 0):=pushCells_keeps _ _ _ _ (Dk _ (hH2 ▸ Dl _ rfl));generalize pushCells (H2.push { cls:=.type "dict",data:=.dict #[] }) sc.names=h₁ at *;generalize hCe:H2.objs.size=C at *;have below:∀b:Nat,b<s.heap.objs.size->b≠C:=λb hb'=>by omega
 generalize hDe:s.heap.objs.size=D at *;let Y:Cx:=cg X sc own js ⟨s,H,fp,C⟩;have J0:Inv Y [(D,di [] 0)] (cD own.length js σ) H { s with heap:=h₁ }:=
  AO I hk hb hj hfp (by rw[hDe];exact hlt) hDe.symm (by rw[hDe];exact hCs) old hDo (λv z=>by cases z) hns₁ hcl₁
 have ndC:@Ne Nat D C:=by omega
 have statF:∀{P':List (Addr×Obj)} {H':Hp},(∀b∈fp,H' b=none)->(∀p∈P',p.1∉fp)->∀b∈fp,bW Y P' H' b:=λ{P' H'} hn hp b hb'=>by
  obtain⟨f0,f1,f2,f3,f4,f5⟩:=hfp b hb';refine⟨hn b hb',λz=>below b (hlt b hb') z,λz=>?_,.inl hb',λx c e=>?_,λp hp' z=>?_⟩
  ·rcases DD.mp (I.stkSub b z)with e|h
   ·exact f1 e
   ·exact f2 h
  ·rcases gN I.ok hb (C:=C) e with e|⟨e,_⟩
   ·exact f4 x c e
   ·have h9:@LT.lt Nat _ b s.heap.objs.size:=by rw[hDe];exact hlt b hb'
    exact Nat.ne_of_gt (show @LT.lt Nat _ b c by omega)
  ·have:p∈P':=by simpa[Y,cg]using hp'
   exact hp p this (by rw[z];exact hb')
 have Dfp:D∉fp:=λz=>by have h9:@LT.lt Nat _ D D:=hlt D z;omega
 have st1:tn 0 h₁:=(T 0).keep 0 s.heap h₁ st λb _ o e=>old b o e;have loop:∀s₃:Shared,s₃={ s with heap:=h₁ } →
   codeAny (model X.prog X.w) X.A (.compLoop (.ListComp elt [⟨tg,iter,ifs,0⟩] sc pos) 0 (.ref it) (.ref D) Y.env) (RR (.ref D) C) s₃:=by
  rintro s₃ rfl;obtain⟨m0,w0⟩:=w0;refine CA (λn s'=>∃i ys its q H',Inv Y [(D,di its q)] (cD own.length js σ) H' s'/\Vals ys its/\ys.length<=sizeLine/\tn i s'.heap/\(∀b∈fp,H' b=none)/\W i n ys H') ?_ m0
   ⟨0,[],[],0,H,J0,.nil,Nat.zero_le _,st1,λb hb'=>(hfp b hb').1,w0⟩
  rintro n s3 ⟨i,ys,its,q,H3,I3,rv,hz,st3,fr3,w3⟩;have pD:∀p∈[(D,di its q)],p.1∉fp:=λp hp=>by
   have e:p=(D,di its q):=by simpa using hp
   rw[e];exact Dfp
  rcases turn i n ys H3 w3 with⟨stop,qn⟩|⟨go,hlen,N,hN,step⟩
  ·refine aw ((T C).done i _ s3 _ H3 _ I3 (statF fr3 pD) st3 stop) λr s4 ⟨hr,I4⟩=>?_;subst hr;show RR (.ref D) C (.ok .next) s4;have hDp:=I4.pin (D,di its q) (Ea _ (Dz.mpr rfl));have hD4:s4.heap.get? D=some (di its q):=hDp.1;have nD:H3 D=none:=hDp.2.1;have U:Un (cB X.stack) fp H H3 s.heap s4.heap:=I4.base;have neD:∀b o,s.heap.get? b=some o->b≠D:=λb o e=>DH (by have h9:@LT.lt Nat _ b s.heap.objs.size:=Dm e;omega);have neDH:∀b o,H b=some o->b≠D:=λb o e=>DH (by have h9:@LT.lt Nat _ b s.heap.objs.size:=I.hok.lt e;omega);have U2:Un (cB X.stack) fp H (upd H3 D (.lst ys)) s.heap s4.heap:=
    ⟨U.keep,U.slot,λb o e n hx=>by rw[ax (neD b o e)];exact U.free b o e n hx,U.there,λb xs e=>by rw[ax (neDH b _ e)];exact U.tups b xs e,
     λb o u e=>by rw[ax (neDH b _ e)];exact U.frzs b o u e,λb ps e=>by rw[ax (neDH b _ e)];exact U.tbls b ps e⟩
   have hok2:aW X.prog X.w (upd H3 D (.lst ys)) s4.heap:=λb o e=>by
    by_cases hb':b=D
    ·subst hb';rw[aJ]at e;cases e;exact⟨hz,its,q,rv,hD4⟩
    ·rw[ax hb']at e;exact(I4.hok b o e).stay (λc u _ z=>z) (λc z=>by rw[ax (bO z nD)];exact z) λc xs z=>by rw[ax (bO z nD)];exact z
   have IX:Inv X pins σ (upd H3 D (.lst ys)) s4:=I.call' (ch:=fp) I4.os U2 hok2 I4.bare λb hb'=>by obtain⟨f0,f1,f2,f3,f4,f5⟩:=hfp b hb';exact⟨f3,f1,f4,f5⟩
   obtain⟨m4,hn4,_⟩:=I4.loc;have nC:H3 C=none:=I4.free;refine fin D C s4 ys H3 nD IX ?_ ⟨m4,hn4⟩ (show @LE.le Nat _ D C by omega) (qn D nD);refine⟨by rw[ax (Ne.symm ndC)];exact nC,?_,?_,?_,?_,?_⟩
   ·have h9:@LT.lt Nat _ X.env.locals s.heap.objs.size:=I.lt;exact Nat.ne_of_gt (show @LT.lt Nat _ X.env.locals C by omega)
   ·exact I.nofs (show @LE.le Nat _ s.heap.objs.size C by omega)
   ·right;have h9:@LE.le Nat _ X.s₀.heap.objs.size s.heap.objs.size:=I.sz;exact(show @LE.le Nat _ X.s₀.heap.objs.size C by omega)
   ·intro x c e;have h9:@LT.lt Nat _ c s.heap.objs.size:=I.cell_lt e;exact DH (show @LT.lt Nat _ c C by omega)
   ·intro p hp;have h9:@LT.lt Nat _ p.1 s.heap.objs.size:=I.pin_lt hp;exact DH (show @LT.lt Nat _ p.1 C by omega)
  ·refine aw ((T C).item i _ s3 _ H3 _ I3 (statF fr3 pD) st3 go) λr s4 ⟨u,hr,h4⟩=>?_;subst hr;refine aw h4 λ_ s5 ⟨x,H5,I5,r5,y5,st5,fr5⟩=>?_;have I5':=I5.pinned (statF fr5 pD) ((T 0).obj _ _ st5);refine aw (hg _ _ s5 _ H5 x u _ I5' r5 (step x H5 y5)) λ_ s6 ⟨σ6,H6,I6,q6⟩=>?_;refine aw (ht _ _ s6 σ6 H6 _ I6 q6) λok s7 ⟨H7,I7,q7⟩=>?_;have back:∀{s':Shared} {σ':St} {H':Hp} {ys':List V} {its':List Value} {q':Nat},Inv Y ([(D,di its' q')]++fE fp s5.heap) σ' H' s'->Vals ys' its'->ys'.length<=sizeLine->N ys' H' →
     ∃m,m<n/\∃i ys its q H',Inv Y [(D,di its q)] (cD own.length js σ) H' s'/\Vals ys its/\ys.length<=sizeLine/\tn i s'.heap/\(∀b∈fp,H' b=none)/\W i m ys H':=by
    intro s' σ' H' ys' its' q' I' rv' hz' nn;obtain⟨m',hm,w'⟩:=hN ys' H' nn;have hpin:∀b∈fp,∀o,s5.heap.get? b=some o->s'.heap.get? b=some o/\H' b=none:=λb hb' o e=>by have:=I'.pin (b,o) (Ea _ (Ea _ (lQ hb' e)));exact⟨this.1,this.2.1⟩
    refine⟨m',hm,i+1,ys',its',q',H',?_,rv',hz',(T 0).keep _ _ _ st5 λb hb' o e=>(hpin b hb' o e).1,λb hb'=>?_,w'⟩
    ·have I'':=I'.unpinned;obtain⟨mm,hmm,_⟩:=id I''.loc;refine⟨I''.ok,I''.os,I''.bare,I''.base,⟨mm,hmm,λk x v e1 e2 e3=>?_⟩,I''.cell,I''.free,I''.freeC,I''.pin,I''.hok,?_⟩
     ·obtain⟨m1,hn1,hl1⟩:=J0.loc;obtain⟨u1,r1,l1⟩:=hl1 k x v e1 e2 e3;refine⟨u1,r1,?_⟩;obtain⟨k',j,rfl,ej,es⟩:=qi e2;have e1':(own++js.map λj=>X.N.getD j "")[own.length+k']?=some x:=e1;rw[DM (by omega),Nat.add_sub_cancel_left,Dr,ej]at e1';have ex:X.N.getD j "" = x:=by simpa using e1'
      have hjj:=DU.mp hj j (Dy ej);simp only[DX,decide_eq_true_eq,beq_iff_eq]at hjj;have hfree:sc.names.lookup x=some .free:=by rw[←ex];exact hjj.2
      rcases l1 with⟨z,zz⟩|⟨z,c,e,zz⟩
      ·exfalso;obtain⟨k2,z1,z2⟩:=kc (sc:=sc) (env:=X.env) (show(relabel sc X.env).names.lookup x=some .local from z);rw[hfree]at z1;rcases z2 with z2|⟨_,z2⟩
       ·rw[z2]at z1;cases z1
       ·cases z2
      ·refine .inr ⟨z,c,e,?_⟩;have hcs:X.env.cells.lookup x=some c:=by
        rcases gN I.ok hb (C:=C) e with e|⟨_,e⟩
        ·exact e
        ·rw[hfree]at e;cases e
       obtain⟨ov,oc,hoc,hdc⟩:=I.cell x c hcs;have hoc1:=old c oc hoc;obtain⟨oz,hoz,hdz⟩:=zz;have hoz':h₁.get? c=some oz:=hoz;rw[hoc1]at hoz';cases hoz';have cnf:c∉fp:=λz'=>(hfp c z').2.2.2.2.1 x c hcs rfl;obtain⟨sl,hh⟩:=I''.base.any hoc (I.freeC x c hcs) cnf;exact⟨_,hh,hdz⟩
     ·show(cD own.length js σ).length=_;exact J0.len
    ·obtain⟨o,e,d⟩:=(T 0).obj _ _ st5 b hb';exact(hpin b hb' o e).2
   cases ok with
   | false=>
    rw[En DE]at q7 ⊢;exact back I7 rv hz q7
   | true=>
    rw[Eo rfl]at q7 ⊢;refine aw (he _ _ s7 σ6 H7 _ I7 q7) λxv s8 ⟨v,H8,I8,r8,q8⟩=>?_;have hDp:=I8.pin (D,di its q) (Ea _ (Eb _ (Dz.mpr rfl)));have hD8:s8.heap.get? D=some { cls:=.type "list",data:=.seq its.toArray q }:=hDp.1;have hl:=rv.length;refine call_meets F.slot_list_append ⟨_,hD8,rfl⟩ F.entry_list_append (F.args_list_append_2 _ _) (PySem.list_append D its.toArray q xv (by rw[Du];omega)) ⟨hD8,?_⟩;have qq:=PySem.IsL.update hD8 (λa=>a.push xv);have eqs:its.toArray.push xv=(its++[xv]).toArray:=by simp
    rw[eqs]at qq;obtain⟨q2,hq2⟩:∃q2,(s8.heap.update D (Obj.mapSeq λa=>a.push xv)).get? D=some (di (its++[xv]) q2):=⟨_,qq⟩;have I8a:Inv Y (fE fp s5.heap) σ6 H8 s8:=I8.pins_of λp hp=>I8.pin p (Ea _ (Ea _ hp));have nD8:H8 D=none:=hDp.2.1;have I9:Inv Y (fE fp s5.heap) σ6 H8 { s8 with heap:=s8.heap.update D (Obj.mapSeq λa=>a.push xv),toks:=s8.toks }:=by
     refine I8a.turned (it:=D) (λb o hb' e=>(Heap.get?_update_other s8.heap (Obj.mapSeq λa=>a.push xv) (Ne.symm hb')).trans e) nD8 ndC (.inr (show @LE.le Nat _ s.heap.objs.size D by omega)) (λx c e=>?_) λp hp=>?_
     ·rcases gN I.ok hb (C:=C) e with e|⟨e,_⟩
      ·have h9:@LT.lt Nat _ c s.heap.objs.size:=I.cell_lt e;exact DH (show @LT.lt Nat _ c D by omega)
      ·exact Nat.ne_of_gt (show @LT.lt Nat _ D c by omega)
     ·have hp':p∈fE fp s5.heap:=by simpa[Y,cg]using hp
      obtain⟨h1,_⟩:=qF hp';exact λz=>Dfp (z ▸ h1)
    refine back (ys':=ys++[v]) (its':=its++[xv]) (q':=q2) (I9.pins_of λp hp=>?_) (rv.append (.cons r8 .nil)) (by rw[DG,List.length_singleton];omega) q8;rcases DL.mp hp with hp|hp
    ·have e:p=(D,di (its++[xv]) q2):=by simpa using hp
     subst e;refine⟨hq2,nD8,ndC,λz=>?_,λv z=>by cases z⟩;have h9:@LT.lt Nat _ D s.heap.objs.size:=I.stk_lt (b:=D) z;omega
    ·exact I9.pin p (Ea _ hp)
 exact codeAny_compStart_list (loop _ rfl) ((T 0).self X.A 0 { s with heap:=h₁ } _ _ st1 (loop _ rfl))
def dZ{elt tg iter:Expr}{ifs:List Expr}{sc:Scope}{pos:Pos}(own:List Str)(js:List Nat){wi:TI}{g:TG}{tc:TT}{te:TE}(hi:PI X tg iter wi)(hg:∀z,PG (cg X sc own js z) tg g)(ht:∀z,iF (cg X sc own js z) ifs tc)
  (he:∀z,PE (cg X sc own js z) elt te) (hc:X.calm=true:=by rfl) (hk:sc.kind=.function:=by rfl) (hb:dw sc X.env.scope=true:=by rfl) (hj:jr sc X.N js=true:=by rfl)
  (hs:∀x,foldedSetIterable iter X.env x=pure x:=by intro _;rfl):PE X (.ListComp elt [⟨tg,iter,ifs,0⟩] sc pos) (o5 own.length js wi g tc te):=by
 intro pins s σ H Q I h;rw[eval_ListComp];refine wpAny_comprehension_free (use:=none) rfl hs (nj λp hp hf=>I.ok.has p.1 (j4 hb hp hf)) hk (λp hp hl=>pZ hb hp hl) (aw (hi pins s σ H _ I h) λv s1 h1=>aw h1 λitv s2 h2=>?_);obtain⟨it,fp,tn,J,H2,e,I2,T,st2,f2,W,w0,turn⟩:=h2;subst e;refine vn (RR:=λacc C=>compPost (model X.prog X.w) X.A X.xe none (EP X pins σ Q) acc C) hk hb hj (λ_=>hg _) (λ_=>ht _) (λ_=>he _) I2 (λC=>Turn.at_ (Y:=cg X sc own js ⟨_,_,_,C⟩) T hc) st2 f2 w0 turn ?_;intro D C s' ys H' nD I' hC ⟨m,hm⟩ _ q;refine⟨m,hm,λh' hs'=>?_⟩;obtain⟨f0,f1,f2,f3,f4,f5⟩:=hC;exact⟨.ref D,_,I'.turned (t':=s'.toks) (it:=C) (λb o hb' e=>(hs'.2 b hb').trans e) f0 f1 f3 f4 f5,rfl,q⟩
end
def cI(c:Addr)(o:Obj):HO:=.ext λh=>h.get? c=some o
def yF{P:Program}{w:World}{H:Hp}{h:Heap}{c:Addr}{o:Obj}(r:h.get? c=some o):bj P w H h c (cI c o):=⟨r,⟨o,r⟩,λh1 h2 r1 k=>k o r1⟩
def bB(cs:List (Addr×Obj))(H:Hp):Hp:=λb=>match cs.lookup b with|some o=>some (cI b o)|none=>H b
def aU(cs:List (Addr×Obj))(H:Hp):Hp:=λb=>match cs.lookup b with|some _=>none|none=>H b
section
variable {cs:List (Addr×Obj)} {H H':Hp} {b:Addr} {o:Obj} {P:Program} {w:World} {h h':Heap} {fs ex:List Addr}
def dz(q:cs.lookup b=some o):bB cs H b=some (cI b o):=by unfold bB;rw[q]
def cn(q:cs.lookup b=none):bB cs H b=H b:=by unfold bB;rw[q]
def fK(q:cs.lookup b=some o):aU cs H b=none:=by unfold aU;rw[q]
def bY(q:cs.lookup b=none):aU cs H b=H b:=by unfold aU;rw[q]
def y7{u:HO}(q:aU cs H b=some u):cs.lookup b=none/\H b=some u:=by
 cases e:cs.lookup b with
 | none=>rw[bY e]at q;exact⟨rfl,q⟩
 | some o=>rw[fK e]at q;cases q
def mI{u:HO}(hc:∀b o,cs.lookup b=some o->H b=none)(q:H b=some u):bB cs H b=some u:=by
 cases e:cs.lookup b with
 | none=>rw[cn e];exact q
 | some o=>rw[hc b o e]at q;cases q
def vN(hok:aW P w H h)(hc:∀b o,cs.lookup b=some o->h.get? b=some o)(hn:∀b o,cs.lookup b=some o->H b=none):aW P w (bB cs H) h:=λb u e=>by
 cases q:cs.lookup b with
 | some o=>rw[dz q]at e;cases e;exact yF (hc b o q)
 | none=>
  rw[cn q]at e;exact(hok b u e).stay (λd v _ g=>g) (λd hd=>mI hn hd) λd xs hd=>mI hn hd
def vK(hok:aW P w H h)(hc:∀b o,cs.lookup b=some o->H b=some (cI b o)):aW P w (aU cs H) h:=λb u e=>by
 obtain⟨q,e⟩:=y7 e;have nt:∀d x,H d=some x->(∀f,x≠.ext f)->aU cs H d=some x:=λd x hd nx=>by
  cases z:cs.lookup d with
  | none=>rw[bY z];exact hd
  | some o'=>rw[hc d o' z]at hd;cases hd;exact absurd rfl (nx _)
 exact(hok b u e).stay (λd v _ g=>g) (λd hd=>nt d _ hd λf z=>by cases z) λd xs hd=>nt d _ hd λf z=>by cases z
def AU(u:Un fs ex (bB cs H) H' h h')(hok':aW P w H' h')(hc:∀b o,cs.lookup b=some o->h.get? b=some o)(hn:∀b o,cs.lookup b=some o->H b=none)(hc':∀b o,cs.lookup b=some o->H' b=some (cI b o)):Un fs ex H (aU cs H') h h' where
 keep:=λb o e n nf nx=>by
  cases q:cs.lookup b with
  | none=>exact u.keep b o e (by rw[cn q];exact n) nf nx
  | some o'=>
   rw[hc b o' q]at e;cases e;exact(hok' b _ (hc' b _ q)).1
 slot:=λb o e n nf nx=>by
  cases q:cs.lookup b with
  | none=>exact u.slot b o e (by rw[cn q];exact n) nf nx
  | some o'=>
   rw[hc b o' q]at e;cases e;exact⟨_,(hok' b _ (hc' b _ q)).1⟩
 free:=λb o e n nx=>by
  cases q:cs.lookup b with
  | none=>rw[bY q];exact u.free b o e (by rw[cn q];exact n) nx
  | some o'=>exact fK q
 there:=u.there
 tups:=λb xs e=>by
  cases q:cs.lookup b with
  | none=>rw[bY q];exact u.tups b xs (by rw[cn q];exact e)
  | some o'=>rw[hn b o' q]at e;cases e
 frzs:=λb o x e=>by
  cases q:cs.lookup b with
  | none=>rw[bY q];exact u.frzs b o x (by rw[cn q];exact e)
  | some o'=>rw[hn b o' q]at e;cases e
 tbls:=λb ps e=>by
  cases q:cs.lookup b with
  | none=>rw[bY q];exact u.tbls b ps (by rw[cn q];exact e)
  | some o'=>rw[hn b o' q]at e;cases e
def yI(u:Un fs ex (aU cs H) H' h h')(hc:∀b o,cs.lookup b=some o->H b=some (cI b o)):Un fs ex H (bB cs H') h h' where
 keep:=λb o e n nf nx=>by
  cases q:cs.lookup b with
  | none=>exact u.keep b o e (by rw[bY q];exact n) nf nx
  | some o'=>rw[hc b o' q]at n;cases n
 slot:=λb o e n nf nx=>by
  cases q:cs.lookup b with
  | none=>exact u.slot b o e (by rw[bY q];exact n) nf nx
  | some o'=>rw[hc b o' q]at n;cases n
 free:=λb o e n nx=>by
  cases q:cs.lookup b with
  | none=>rw[cn q];exact u.free b o e (by rw[bY q];exact n) nx
  | some o'=>rw[hc b o' q]at n;cases n
 there:=u.there
 tups:=λb xs e=>by
  cases q:cs.lookup b with
  | none=>rw[cn q];exact u.tups b xs (by rw[bY q];exact e)
  | some o'=>rw[hc b o' q]at e;cases e
 frzs:=λb o x e=>by
  cases q:cs.lookup b with
  | none=>rw[cn q];exact u.frzs b o x (by rw[bY q];exact e)
  | some o'=>rw[hc b o' q]at e;cases e
 tbls:=λb ps e=>by
  cases q:cs.lookup b with
  | none=>rw[cn q];exact u.tbls b ps (by rw[bY q];exact e)
  | some o'=>rw[hc b o' q]at e;cases e
end
structure FunR(P:Program)(w:World)(K:Dj)(mg:Str->Option Value)(base:Heap)(k:Nat)(f:Addr)(pre:Hp->Prop)(R:List V->Hp->VK->Prop):Prop where
 at_:∀H h,aW P w H h->pre H->PySem.W.FnAt f h
 run:∀(A:Around) (outer:List Env) (s:Shared) (H:Hp) (us:List Value) (vs:List V) (Q:VK),Room k A->Env0 P w K mg base A outer s H->pre H->Vals vs us->R vs H Q →
  codeAny (model P w) A (.call (.ref f) ⟨us,[]⟩) (CR cy outer P w H s Q E0) s
def vE(P:Program)(w:World)(K:Dj)(mg:Str->Option Value)(base:Heap)(k:Nat)(tf:TE)(ta:TA):TE:=λσ H Q=>tf σ H λfv H1=>∃f pre R,fv=.ref f/\FunR P w K mg base k f pre R/\pre H1/\ta σ H1 λvs H2=>pre H2/\R vs H2 Q
def vF{X:Cx}{P:Program}{w:World}{K:Dj}{mg:Str->Option Value}{base:Heap}{k:Nat}{x:Str}{p pos:Pos}{e:Expr}{es:List Expr}{tf:TE}{ta:TA}{A0:Around}(hr:Room k A0)(hf:PE X (.Name x p) tf)(ha:PA X (e::es) ta)(hA:X.A=A0:=by rfl)(hP:X.prog=P:=by rfl)(hw:X.w=w:=by rfl)(hK:X.K=K:=by rfl)(hm:X.mg=mg:=by rfl)(hB:X.base=base:=by rfl)
  (he:starEach (e::es) X.env=(false,eval e X.env)::starEach es X.env:=by rfl) (hpl:(backTo pos (starEach es X.env)).any (·.1)=false:=by rfl):PE X (.Call (.Name x p) (e::es) [] pos) (vE P w K mg base k tf ta):=by
 subst hA;subst hP;subst hw;subst hK;subst hm;subst hB;intro pins s σ H Q I h;refine wpAny_Call_Name_kw (aw (hf pins s σ H _ I h) λfv s1 ⟨v,H1,I1,r1,⟨f,pre,R,ev,F,hp,q1⟩⟩=>?_);subst ev;cases r1;refine PySem.W.callWith_F (first:=[]) (F.at_ _ _ I1.hok hp) (aw (ha pos pins s1 σ H1 _ I1 q1) λus s2 ⟨vs,H2,I2,r2,⟨hp2,q2⟩⟩=>?_) he hpl;refine⟨F.at_ _ _ I2.hok hp2,?_⟩;refine wpAny_call (codeAny_mono (F.run X.A X.stack s2 H2 us vs Q hr I2.env0 hp2 r2 q2) λr s' hq=>?_);cases r with
 | error e=>exact False.elim hq
 | ok fl=>
  cases fl with
  | ret u=>exact I2.after hq
  | next=>exact False.elim hq
  | brk=>exact False.elim hq
  | cont=>exact False.elim hq
structure Cap where
 n:Str
 c:Addr
 o:Obj
 v:V
abbrev cellsOf(cp:List Cap):List (Addr×Obj):=cp.map λe=>(e.c,e.o)
structure CapAt(X:Cx)(σ:St)(h:Heap)(js:List Nat)(cp:List Cap):Prop where
 len:cp.length=js.length
 at_:∀(i j:Nat) (e:Cap),js[i]?=some j->cp[i]?=some e->X.N[j]?=some e.n/\X.env.cells.lookup e.n=some e.c/\σ[j]?=some (some e.v)/\h.get? e.c=some e.o/\∃u,e.o.data=.cell (some u)/\RelV e.v u
def fC{cp:List Cap}{b:Addr}{o:Obj}(h:(cellsOf cp).lookup b=some o):∃e∈cp,e.c=b/\e.o=o:=by
 have hm:(b,o)∈cellsOf cp:=by
  have go:∀{l:List (Addr×Obj)},l.lookup b=some o->(b,o)∈l:=by
   intro l;induction l with
   | nil=>intro h;cases h
   | cons x r ih=>
    intro h;obtain⟨y,z⟩:=x;rw[Eg]at h;cases hb:b == y with
    | true=>rw[hb]at h;cases h;rw[beq_iff_eq.mp hb];exact Dv
    | false=>rw[hb]at h;exact Ds _ (ih h)
  exact go h
 obtain⟨e,he,eq⟩:=List.mem_map.mp hm;cases eq;exact⟨e,he,rfl,rfl⟩
def yK{cp:List Cap}{e:Cap}(h:e∈cp):∃o,(cellsOf cp).lookup e.c=some o:=by
 induction cp with
 | nil=>cases h
 | cons x r ih=>
  show ∃o,List.lookup e.c ((x.c,x.o)::cellsOf r)=some o;rw[Eg];cases hb:e.c == x.c with
  | true=>exact⟨_,rfl⟩
  | false=>
   rcases DD.mp h with rfl|h
   ·simp at hb
   ·exact ih h
def jI(sc:Scope)(N:List Str)(js:List Nat):Bool:=js.all λj=>decide (j<N.length) && (sc.names.lookup (N.getD j "") == some .cell)
section
variable {X:Cx} {pins:List (Addr×Obj)} {σ:St} {H:Hp} {s:Shared}
def Inv.capAt(I:Inv X pins σ H s):∀{js:List Nat},jI X.env.scope X.N js=true->(∀j∈js,∃v,σ[j]?=some (some v))->∃cp,CapAt X σ s.heap js cp
 | [],_,_=>⟨[],rfl,λi j e h=>by simp at h⟩
 | j::js,hj,hv=>by
  have hj2:(decide (j<X.N.length) && (X.env.scope.names.lookup (X.N.getD j "") == some .cell))=true/\jI X.env.scope X.N js=true:=by simpa[jI]using hj
  obtain⟨cp,hcp⟩:=I.capAt (js:=js) hj2.2 λi hi=>hv i (Ds _ hi);obtain⟨v,ev⟩:=hv j Dv;have h1:=hj2.1;simp only[DX,decide_eq_true_eq,beq_iff_eq]at h1;have eN:X.N[j]?=some (X.N.getD j ""):=by rw[List.getD_eq_getElem?_getD,Dp h1.1];rfl
  obtain⟨m,hn,hl⟩:=I.loc;obtain⟨u,r,l⟩:=hl j _ v eN ev (.inr (.inl h1.2));rcases l with⟨z,_⟩|⟨_,c,hc,o,ho,hd⟩
  ·have z':X.env.scope.names.lookup (X.N.getD j "")=some .local:=z;rw[h1.2]at z';cases z'
  ·refine⟨⟨X.N.getD j "",c,o,v⟩::cp,by simp[hcp.len],λi k e h2 h3=>?_⟩;cases i with
   | zero=>
    cases h2;cases h3;exact⟨eN,hc,ev,ho,u,hd,r⟩
   | succ i=>
    simp at h2 h3;exact hcp.at_ i k e h2 h3
def CapAt.mem{js:List Nat}{cp:List Cap}{h:Heap}(C:CapAt X σ h js cp){e:Cap}(he:e∈cp):X.env.cells.lookup e.n=some e.c/\h.get? e.c=some e.o/\∃u,e.o.data=.cell (some u)/\RelV e.v u:=by
 obtain⟨i,hi⟩:=Ef he;have hl:i<js.length:=by rw[←C.len];exact(Dx.mp hi).1
 obtain⟨_,h2,_,h4,h5⟩:=C.at_ i _ e (Dp hl) hi;exact⟨h2,h4,h5⟩
def Bv{k:Nat}{f:Addr}{fd:FuncData}{ps:List Str}{sp:Sp}{Q:VK}{us:List Value}{vs:List V}{js:List Nat}{cp:List Cap}(F:FnOk X.prog X.w X.K X.mg X.base cy k f fd ps sp)(hr:Room k X.A)(hb:Binds X.K fd ps [])
  (I:Inv X pins σ H s) (C:CapAt X σ s.heap js cp) (hfn:∀e∈cp,X.fn e.n=true) (r:Vals vs us)
  (h:sp vs (bB (cellsOf cp) H) (λv H'=>(∀b o,(cellsOf cp).lookup b=some o->H' b=some (cI b o))/\Q v (aU (cellsOf cp) H')) E0):wpAny (model X.prog X.w) X.A (call (.ref f) us) (EP X pins σ Q) X.xe s:=by
 have hc:∀b o,(cellsOf cp).lookup b=some o->s.heap.get? b=some o:=λb o e=>by obtain⟨x,hx,rfl,rfl⟩:=fC e;exact(C.mem hx).2.1
 have hn:∀b o,(cellsOf cp).lookup b=some o->H b=none:=λb o e=>by obtain⟨x,hx,rfl,rfl⟩:=fC e;exact I.freeC _ _ (C.mem hx).1
 have hab:∀b o,(cellsOf cp).lookup b=some o->X.s₀.heap.objs.size<=b:=λb o e=>by obtain⟨x,hx,rfl,rfl⟩:=fC e;exact I.ok.cab _ _ (hfn x hx) (C.mem hx).1
 have e0:=I.env0;have e1:Env0 X.prog X.w X.K X.mg X.base X.A X.stack s (bB (cellsOf cp) H):=by
  refine⟨e0.frames,e0.mod,λb o e=>⟨(e0.bs b o e).1,?_⟩,e0.bsz,e0.funs,λb hb'=>?_,vN e0.hok hc hn,e0.bare⟩
  ·cases q:(cellsOf cp).lookup b with
   | none=>rw[cn q];exact(e0.bs b o e).2
   | some o'=>exact absurd (DR (Dm (I.ok.bs b o e).1) (hab b o' q)) (Nat.lt_irrefl _)
  ·cases q:(cellsOf cp).lookup b with
   | none=>rw[cn q];exact e0.frf b hb'
   | some o'=>
    exfalso;rcases DD.mp (I.stkSub b hb')with z|z
    ·obtain⟨m,⟨ob,es,ep,ho,hd,_⟩,_⟩:=I.loc;obtain⟨x,hx,rfl,rfl⟩:=fC q;obtain⟨_,g,u,hu,_⟩:=C.mem hx;rw[←z,g]at ho;cases ho;rw[hu]at hd;cases hd
    ·obtain⟨_,ob,ho,_⟩:=I.ok.funs.mem z;exact absurd (DR (Dm ho) (hab b o' q)) (Nat.lt_irrefl _)
 have hl:us.length=ps.length:=by rw[←r.length];exact F.len _ _ _ _ h
 refine wpAny_call (codeAny_mono (F.run X.A X.stack s (bB (cellsOf cp) H) ⟨us,[]⟩ us vs _ E0 hr e1 (by have:=hb s us I.kIn (by simpa using hl);rw[List.append_nil]at this;exact this) r h) λr s' hq=>?_);cases r with
 | error e=>exact False.elim hq
 | ok fl=>
  cases fl with
  | ret u=>
   obtain⟨v,H',os,bare,un,hok,rv,hc',q⟩:=hq;exact I.after ⟨v,aU (cellsOf cp) H',os,bare,AU un hok hc hn hc',vK hok hc',rv,q⟩
  | next=>exact False.elim hq
  | brk=>exact False.elim hq
  | cont=>exact False.elim hq
def iw(sp:Sp)(js:List Nat)(cells:List (Str×Addr))(N:List Str)(ta:TA):TE:=λσ H Q=>ta σ H λvs H1=>(∀j∈js,∃v,σ[j]?=some (some v)) ∧
 ∀cp:List Cap,cp.length=js.length->(∀(i j:Nat) (e:Cap),js[i]?=some j->cp[i]?=some e->N[j]?=some e.n/\cells.lookup e.n=some e.c/\σ[j]?=some (some e.v)/\H1 e.c=none/\∃u,e.o.data=.cell (some u)/\RelV e.v u) →
  sp vs (bB (cellsOf cp) H1) (λv H'=>(∀b o,(cellsOf cp).lookup b=some o->H' b=some (cI b o))/\Q v (aU (cellsOf cp) H')) E0
def nR{x:Str}{k j:Nat}{ps:List Str}{sp:Sp}{e:Expr}{es:List Expr}{t:TA}{p pos:Pos}(js:List Nat)(C:Cal X.prog X.w X.K X.mg X.base x j ps sp)(hr:Room k X.A)(ha:PA X (e::es) t)(hjk:j<=k:=by decide)(hg:Gl X x:=by rfl)(hdb:(x == ("__debug__":Str))=false:=by decide)
  (hj:jI X.env.scope X.N js=true:=by rfl) (hfn:∀y,X.fn y=true:=by intro _;rfl)
  (he:starEach (e::es) X.env=(false,eval e X.env)::starEach es X.env:=by rfl) (hpl:(backTo pos (starEach es X.env)).any (·.1)=false:=by rfl) :
  PE X (.Call (.Name x p) (e::es) [] pos) (iw sp js X.env.cells X.N t):=by
 obtain⟨f,fd,hm,hk,hb,F⟩:=C.ex;intro pins s σ H Q I h;refine wpAny_Call_Name_kw (iK I hg hm ?_ hdb);refine PySem.W.callWith_K (h₀:=X.base) I.ok.mod.kin hk (aw (ha pos pins s σ H _ I h) λus s1 ⟨vs,H1,I1,r,hv,q⟩=>⟨I1.kIn,?_⟩) he hpl;obtain⟨cp,hcp⟩:=I1.capAt hj hv;refine Bv F (hr.mono hjk) hb I1 hcp (λe _=>hfn _) r (q cp hcp.len λi j e h1 h2=>?_);obtain⟨a1,a2,a3,_,a5⟩:=hcp.at_ i j e h1 h2;exact⟨a1,a2,a3,I1.freeC _ _ a2,a5⟩
end
def dP(f c:Addr)(q:Str)(params:Arguments)(body:Expr)(scope:Scope)(cl:List (Str×Addr)):HO:=.ext λh=>∃pm ctv,h.get? f=some (PySem.W.kla_obj "<lambda>" q params body scope cl pm c ctv)
def wz{P:Program}{w:World}{H:Hp}{h:Heap}{f c:Addr}{q:Str}{params:Arguments}{body:Expr}{scope:Scope}{cl:List (Str×Addr)}{pm ctv:Value}(r:h.get? f=some (PySem.W.kla_obj "<lambda>" q params body scope cl pm c ctv)):bj P w H h f (dP f c q params body scope cl):=
 ⟨⟨pm,ctv,r⟩,⟨_,r⟩,λh1 h2 ⟨a,b,g⟩ k=>⟨a,b,k _ g⟩⟩
def iC(sc:Scope):Bool:=sc.names.all λp=>sc.names.lookup p.1 == some p.2
def kC(sc out:Scope):Bool:=sc.names.all λp=>p.2 != .free || out.names.lookup p.1 == some .cell || out.names.lookup p.1 == some .free
def tH{sc:Scope}(h:iC sc=true){p:Str×NameKind}(hp:p∈sc.names):sc.names.lookup p.1=some p.2:=by simpa using DU.mp h p hp
def wd{sc out:Scope}(h:kC sc out=true){p:Str×NameKind}(hp:p∈sc.names)(hf:p.2=.free):out.names.lookup p.1=some .cell\/out.names.lookup p.1=some .free:=by have:=DU.mp h p hp;simp[hf]at this;exact this
structure ClOk(sc:Scope)(cells cl:List (Str×Addr)):Prop where
 one:iC sc=true
 fr:∀x c,cl.lookup x=some c->sc.names.lookup x=some .free/\cells.lookup x=some c
 has:∀x,sc.names.lookup x=some .free->∃c,cl.lookup x=some c
 inj:∀x y c,cl.lookup x=some c->cl.lookup y=some c->x=y
def zi{X:Cx}(ok:X.Ok){sc:Scope}(hsc:iC sc=true)(ho:kC sc X.env.scope=true):ClOk sc X.env.cells (cG sc.names X.env.cells):=by
 have fr:∀x c,(cG sc.names X.env.cells).lookup x=some c->sc.names.lookup x=some .free/\X.env.cells.lookup x=some c:=λx c h=>by
  rcases kx X.env.cells sc.names [] x c h with⟨h1,h2⟩|h1
  ·obtain⟨d,hd⟩:=ok.has x (wd ho h1 rfl);refine⟨tH hsc h1,?_⟩;rw[hd]at h2 ⊢;rw[h2];rfl
  ·simp at h1
 exact⟨hsc,fr,λx h=>pG (gL h),λx y c h1 h2=>ok.inj x y c (fr x c h1).2 (fr y c h2).2⟩
section
variable {X:Cx} {pins:List (Addr×Obj)} {σ:St} {H:Hp} {s:Shared}
def B5{cl:List (Str×Addr)}{P c f:Addr}{ps more:Array Value}{q:Str}{params:Arguments}{body:Expr}{scope:Scope}{pm ctv:Value}{h':Heap}{tk:Nat}(I:Inv X pins σ H s)(hP:H P=some (.tbl ps))(b:Heap.ExtBut P s.heap h')(hc:s.heap.objs.size<=c)(hcf:c<f)(gP:h'.get? P=some { cls:=.none,data:=.fields (ps++more) })
  (gc:h'.CodeRec (.ref c) q) (gf:h'.get? f=some (PySem.W.kla_obj "<lambda>" q params body scope cl pm c ctv)) :
  Inv X pins σ (upd (upd (upd H P (.tbl (ps++more))) c (cA c q)) f (dP f c q params body scope cl)) { s with heap:=h',toks:=tk }:=by
 have hf:@LE.le Nat _ s.heap.objs.size f:=DS hc (Nat.le_of_lt hcf);have nc:H c=none:=I.hok.fresh hc;have nf:H f=none:=I.hok.fresh hf;have cf:f≠c:=Nat.ne_of_gt hcf;have Pc:c≠P:=λz=>by rw[z,hP]at nc;cases nc
 have Pf:f≠P:=λz=>by rw[z,hP]at nf;cases nf
 have old:∀b o,H b=some o->b≠P->upd (upd (upd H P (.tbl (ps++more))) c (cA c q)) f (dP f c q params body scope cl) b=some o:=λb o e n=>by rw[ax (bO e nf),ax (bO e nc),ax n];exact e
 have nP:∀b,H b=none->b≠P:=λb e z=>by rw[z,hP]at e;cases e
 refine I.un ⟨λb' o e n _ _=>b b' o (nP b' n) e,λb' o e n _ _=>⟨o.slots,b b' o (nP b' n) e⟩,λb' o e n _=>?_,λb' o e _=>?_,λb' xs e=>old b' _ e (λz=>by rw[z,hP]at e;cases e),λb' o u e=>old b' _ e (λz=>by rw[z,hP]at e;cases e),λb' qs e=>?_⟩ λb' u e=>?_
 ·have lt:@LT.lt Nat _ b' s.heap.objs.size:=Dm e;rw[ax (DH (DR lt hf)),ax (DH (DR lt hc)),ax (nP b' n)];exact n
 ·by_cases z:b'=P
  ·rw[z];exact⟨_,gP⟩
  ·exact⟨o,b b' o z e⟩
 ·by_cases z:b'=P
  ·subst z;rw[hP]at e;cases e;exact⟨more,by rw[ax (Ne.symm Pf),ax (Ne.symm Pc),aJ]⟩
  ·exact⟨#[],by rw[old b' _ e z];simp⟩
 ·by_cases z:b'=f
  ·subst z;rw[aJ]at e;cases e;exact wz gf
  ·rw[ax z]at e;by_cases z2:b'=c
   ·subst z2;rw[aJ]at e;cases e;exact vf gc
   ·rw[ax z2]at e;by_cases z3:b'=P
    ·subst z3;rw[aJ]at e;cases e;exact gP
    ·rw[ax z3]at e;refine(I.hok b' u e).stay (λd v hd g=>b d v ?_ g) (λd hd=>old d _ hd (λy=>by rw[y,hP]at hd;cases hd)) λd xs hd=>old d _ hd (λy=>by rw[y,hP]at hd;cases hd);rcases hd with rfl|hd
     ·exact z3
     ·exact λy=>by rw[y,hP]at hd;cases hd
end
def kR(P:Addr)(pos:Pos)(q:Str)(params:Arguments)(body:Expr)(scope:Scope)(cells:List (Str×Addr))(H:Hp)(Q:VK):Prop:=∀cl,ClOk scope cells cl →
 (H P=some (.tbl #[])/\∀f c,H c=none->H f=none->c≠P->f≠P->f≠c->Q (.ref f) (upd (upd (upd H P (.tbl #[rawInt pos.line,rawInt pos.col,.ref c])) c (cA c q)) f (dP f c q params body scope cl))) ∨
 ∃c,H P=some (.tbl #[rawInt pos.line,rawInt pos.col,.ref c])/\H c=some (cA c q)/\∀f,H f=none->Q (.ref f) (upd H f (dP f c q params body scope cl))
def vv(P:Addr)(pos:Pos)(q:Str)(params:Arguments)(body:Expr)(scope:Scope)(cells:List (Str×Addr)):TE:=λ_ H Q=>kR P pos q params body scope cells H Q
def oi{X:Cx}{params:Arguments}{body:Expr}{scope:Scope}{pos:Pos}{c P:Addr}(hcode:X.env.code=.ref c)(hgl:X.env.globals=mainGlobals)(C:PySem.W.CodeHd X.base c P)(hB:X.base.BuiltinsAt X.mg P)(hgP:mainGlobals≠P)(hsc:iC scope=true)(hout:kC scope X.env.scope=true)
  (hd0:params.defaults=[]) (hk0:params.kw_defaults=[]):PE X (.Lambda params body scope pos) (vv P pos (X.env.qual ++ "<lambda>") params body scope X.env.cells):=by
 intro pins s σ H Q I h;rw[arm_eval_Lambda,PySem.defaultsOf_eq,hk0,hd0];refine Dh (Di (Dh (wpAny_holding (Di ?_))));have hcl:closureFor scope X.env=pure (cG scope.names X.env.cells):=nj λp hp hf=>I.ok.has p.1 (wd hout hp hf);have h:=h _ (zi I.ok hsc hout);have C':PySem.W.CodeHd s.heap c P:=C.keeps λb o e=>(I.bs b o e).1;have hg:s.heap.Ns mainGlobals X.mg:=by obtain⟨o,es,ep,e,r⟩:=I.ok.mod.glob;exact⟨o,es,ep,(I.bs _ _ e).1,r⟩
 have hb:s.heap.BuiltinsAt X.mg P:=by obtain⟨bm,o,a1,a2,a3,a4,a5,a6⟩:=hB;exact⟨bm,o,a1,a2,a3,a4,(I.bs _ _ a5).1,a6⟩
 rcases h with⟨hP,q⟩|⟨c',hP,hc',q⟩
 ·have gP:s.heap.get? P=some (PySem.W.tabObj #[]):=I.hok P _ hP;refine PySem.W.kla_makeFunction hcl hgl hg hcode C' gP trivial rfl hgP hb λc' ctv h' tk hx hge hlt hrec htb=>?_;have nc:H c'=none:=I.hok.fresh hge;have hf:@LE.le Nat _ s.heap.objs.size h'.objs.size:=DS hge (Nat.le_of_lt hlt);have nf:H h'.objs.size=none:=I.hok.fresh hf;have lP:@LT.lt Nat _ P s.heap.objs.size:=Dm gP;have J:=B5 (cl:=cG scope.names X.env.cells) (tk:=tk) (f:=h'.objs.size) (h':=h'.push (PySem.W.kla_obj "<lambda>" (X.env.qual ++ "<lambda>") params body scope (cG scope.names X.env.cells) ((X.mg "__name__").getD .none) c' ctv)) (more:=#[rawInt pos.line,rawInt pos.col,.ref c']) I hP (λb o n e=>Dk _ (hx b o n e)) hge hlt (Dk _ htb) (hrec.push _) (Dl _ rfl);rw[Array.empty_append]at J;exact⟨.ref h'.objs.size,_,J,rfl,q _ c' nc nf (Nat.ne_of_gt (DR lP hge)) (Nat.ne_of_gt (DR lP hf)) (Nat.ne_of_gt hlt)⟩
 ·have gP:s.heap.get? P=some (PySem.W.tabObj #[rawInt pos.line,rawInt pos.col,.ref c']):=I.hok P _ hP;refine PySem.W.kla_makeFunctionHit (cv:=.ref c') hcl hgl hg hcode C' gP trivial (by simp[codeAmong,rawInt]) hb λctv h' tk hx hge=>?_;exact⟨.ref h'.objs.size,_,I.laid (t':=tk) (o:=dP h'.objs.size c' (X.env.qual ++ "<lambda>") params body scope (cG scope.names X.env.cells)) (λb o e=>Dk _ (hx b o e)) hge (wz (Dl _ rfl)),rfl,q _ (I.hok.fresh hge)⟩
def lI{cells:List (Str×Addr)}{K:Dj}{x q:Str}{params:Arguments}{body:Expr}{scope:Scope}{H:Hp}{Q:VK}{c T:Addr}{pos:Pos}(ht:bS K x q pos.line pos.col H)(e:PySem.W.tabIn K x=some (c,T))
  (h:∀f c' cl H',ClOk scope cells cl->Et H H'->bS K x q pos.line pos.col H'->(∀y q2 l2 k2,(∀c2 T2,PySem.W.tabIn K y=some (c2,T2)->T2≠T)->bS K y q2 l2 k2 H->bS K y q2 l2 k2 H')->H' f=some (dP f c' q params body scope cl)->H' c'=some (cA c' q)->Q (.ref f) H'):kR T pos q params body scope cells H Q:=by
 intro cl hcl;rcases ht c T e with hT|⟨c',hT,hc'⟩
 ·refine .inl ⟨hT,λf c' nc nf cT fT fc=>?_⟩;have old:∀b o,H b=some o->b≠T->upd (upd (upd H T (.tbl #[rawInt pos.line,rawInt pos.col,.ref c'])) c' (cA c' q)) f (dP f c' q params body scope cl) b=some o:=λb o hb n=>by rw[ax (bO hb nf),ax (bO hb nc),ax n];exact hb
  refine h f c' cl _ hcl (λb o hb n=>old b o hb λz=>by rw[z,hT]at hb;cases hb;exact n _ rfl) (λc2 T2 e2=>.inr ⟨c',?_,?_⟩) (λy q2 l2 k2 hn hy c2 T2 e2=>?_) aJ ?_
  ·rw[e]at e2;cases e2;rw[ax (Ne.symm fT),ax (Ne.symm cT),aJ]
  ·rw[ax (Ne.symm fc),aJ]
  ·rcases hy c2 T2 e2 with g|⟨c3,g1,g2⟩
   ·exact .inl (old _ _ g (hn c2 T2 e2))
   ·exact .inr ⟨c3,old _ _ g1 (hn c2 T2 e2),old _ _ g2 λz=>by rw[z,hT]at g2;cases g2⟩
  ·rw[ax (Ne.symm fc),aJ]
 ·refine .inr ⟨c',hT,hc',λf nf=>?_⟩;have ex:Ext H (upd H f (dP f c' q params body scope cl)):=bJ nf;exact h f c' cl _ hcl ex.et (bS.ext ex ht) (λy q2 l2 k2 _ hy=>hy.ext ex) aJ (ex _ _ hc')
def kF{P:Addr}{pos:Pos}{q:Str}{params:Arguments}{body:Expr}{scope:Scope}{cells:List (Str×Addr)}{σ:St}{H:Hp}{Q:VK}(h:kR P pos q params body scope cells H Q):vv P pos q params body scope cells σ H Q:=h
def iH{x:Str}{c:Addr}:∀(names:List (Str×NameKind)) (n:Nat) (a acc:List (Str×Addr)),(cellsFrom n names (a++acc)).lookup x=some c->acc.lookup x=some c\/(cellsFrom n names a).lookup x=some c
 | [],_,a,acc,h=>by
  unfold cellsFrom at h ⊢;rw[List.lookup_append]at h;cases q:a.lookup x with
  | none=>rw[q]at h;exact .inl h
  | some d=>rw[q]at h;exact .inr h
 | (y,k)::r,n,a,acc,h=>by
  unfold cellsFrom at h ⊢;by_cases hk:(k == NameKind.cell)=true
  ·rw[Eo hk]at h ⊢;exact iH r (n+1) ((y,n)::a) acc h
  ·rw[En hk]at h ⊢;exact iH r n a acc h
structure InL(s₀:Shared)(L:Addr)(m:Str->Option Value)(own:List (Str×Addr))(cm:Str->Option Value)(s:Shared):Prop where
 same:∃h' tk,s={ s₀ with heap:=h',toks:=tk }
 ns:s.heap.Ns L m
 keep:∀b o,s₀.heap.get? b=some o->s.heap.get? b=some o
 fresh:s₀.heap.objs.size<=L
 cell:∀n c,own.lookup n=some c->s.heap.IsCell c (cm n)
 apart:own.Pairwise λx y=>x.2≠y.2
 above:∀n c,(n,c)∈own->L<c
section
variable {M:Model} {A:Around} {E:Value->Shared->Prop} {s₀ s:Shared} {m cm:Str->Option Value} {env:Env} {own:List (Str×Addr)}
def InL.st{n:Str}{v:Value}{Q:Unit->Shared->Prop}(x:InL s₀ env.locals m own cm s)(hk:env.scope.kind=.function)(hl:env.kindOf n=some .local)
  (h:∀s',InL s₀ env.locals (λy=>if y=n then some v else m y) own cm s'->Q () s'):wpAny M A (storeName env n v) Q E s:=by
 refine wpAny_storeName_local hl x.ns (λh' hn' hs'=>h _ ⟨?_,hn',λb o e=>?_,x.fresh,λk c hc=>?_,x.apart,x.above⟩) (by rw[hk];rfl)
 ·obtain⟨h₁,tk,rfl⟩:=x.same;exact⟨h',_,rfl⟩
 ·exact hs'.extBut b o (DH (DR (Dm e) x.fresh)) (x.keep b o e)
 ·exact(x.cell k c hc).sameBut hs' (Nat.ne_of_gt (x.above k c (PySem.mem_of_lookup hc)))
def InL.stC{n:Str}{c:Addr}{v:Value}{Q:Unit->Shared->Prop}(x:InL s₀ env.locals m own cm s)(hk:env.scope.kind=.function)(hl:env.kindOf n=some .cell)
  (hc:env.cells.lookup n=some c) (ho:own.lookup n=some c)
  (h:∀s',InL s₀ env.locals m own (λy=>if y=n then some v else cm y) s'->Q () s'):wpAny M A (storeName env n v) Q E s:=by
 have hLc:=x.above n c (PySem.mem_of_lookup ho);refine wpAny_storeName_cell hk hl hc (x.cell n c ho) λh' hc' hs'=>h _ ⟨?_,x.ns.sameBut hs' (DH hLc),λb o e=>?_,x.fresh,λk c' hk'=>?_,x.apart,x.above⟩
 ·obtain⟨h₁,tk,rfl⟩:=x.same;exact⟨h',_,rfl⟩
 ·exact hs'.extBut b o (DH (Nat.lt_trans (DR (Dm e) x.fresh) hLc)) (x.keep b o e)
 ·by_cases hkn:k=n
  ·subst hkn;rw[ho]at hk';cases hk';simpa using hc'
  ·rw[En hkn];exact(x.cell k c' hk').sameBut hs' λe=>hkn (name_of_addr x.apart (PySem.mem_of_lookup hk') (e ▸ PySem.mem_of_lookup ho))
def InL.binds(f:Str×Value->PUnit->Sem (ForInStep PUnit))(hf:∀n v u,f (n,v) u=(do storeName env n v;pure (.yield ⟨⟩)))(hk:env.scope.kind=.function):
  ∀(binds:List (Str×Value)) (m cm:Str->Option Value) (s:Shared) (Q:PUnit->Shared->Prop),InL s₀ env.locals m own cm s →
   (∀x∈binds,env.kindOf x.1=some .local\/(env.kindOf x.1=some .cell/\∃c,env.cells.lookup x.1=some c/\own.lookup x.1=some c)) →
   (∀s',InL s₀ env.locals (bindL env.kindOf binds m) own (bindC env.kindOf binds cm) s'->Q ⟨⟩ s')->wpAny M A (forIn binds ⟨⟩ f) Q E s
 | [],m,cm,s,Q,x,_,h=>by rw[List.forIn_nil];exact Di (h s x)
 | (n,v)::r,m,cm,s,Q,x,hkind,h=>by
  rw[List.forIn_cons,hf];have hr:∀y∈r,env.kindOf y.1=some .local\/(env.kindOf y.1=some .cell/\∃c,env.cells.lookup y.1=some c/\own.lookup y.1=some c):=λy hy=>hkind y (Ds _ hy);rcases hkind (n,v) Dv with hl|⟨hl,c,hc,ho⟩
  ·refine Dh (Dh (InL.st x hk hl λs' x'=>Di (InL.binds f hf hk r _ _ s' Q x' hr λs'' x''=>h s'' ?_)));unfold bindL bindC;rw[Eo hl,Eo hl];exact x''
  ·have hnl:¬env.kindOf n=some .local:=by rw[hl];decide
   refine Dh (Dh (InL.stC x hk hl hc ho λs' x'=>Di (InL.binds f hf hk r _ _ s' Q x' hr λs'' x''=>h s'' ?_)));unfold bindL bindC;rw[En hnl,En hnl];exact x''
end
def dD(q:Str)(scope:Scope)(L f:Addr)(cd:Value)(cl:List (Str×Addr)):Env:=
 { scope:=scope,locals:=L,globals:=mainGlobals,cells:=cellsFrom (L+1) scope.names cl,qual:=q ++ ".<locals>.",func:=some f,code:=cd,frame:=some L,builtins:=builtinsNs }
section
variable {M:Model} {A:Around} {E:Value->Shared->Prop} {s:Shared}
def xg {scope : Scope} {cl : List (Str × Addr)} {binds : List (Str × Value)} {q : Str} {f : Addr} {cd : Value} {Q : Env → Shared → Prop} (hk : scope.kind = .function) (hsc : iC scope = true) (hcl : ∀ x c, cl.lookup x = some c → scope.names.lookup x = some .free)
    (hkind : ∀ x ∈ binds, scope.names.lookup x.1 = some .local ∨ scope.names.lookup x.1 = some .cell)
    (hQ : ∀ s', InL s s.heap.objs.size (bindL (dD q scope s.heap.objs.size f cd cl).kindOf binds λ_ => none) (cellsFrom (s.heap.objs.size + 1) scope.names []) (bindC (dD q scope s.heap.objs.size f cd cl).kindOf binds λ_ => none) s' → Q (dD q scope s.heap.objs.size f cd cl) s') :
    wpAny M A (newFunctionEnv scope mainGlobals cl binds (q ++ ".<locals>.") (some f) cd none builtinsNs) Q E s := by
  simp only [newFunctionEnv, Option.isSome_none, Ed, if_false];refine Dh (wpAny_alloc ?_);refine Dh (wpAny_layCells _ (λname kind cells => by cases hkc : kind == NameKind.cell <;> simp [hkc]) _ _ _ _ ?_);have ok := cellsFrom_ok scope.names (s.heap.push { cls := .type "frame", data := .dict #[] }) (s.heap.objs.size + 1) [] ⟨λ_ _ hm => (nomatch hm), List.Pairwise.nil⟩ (by rw [Heap.size_push]; exact DI _);rw [Heap.size_push] at ok;rw [show ({ s with heap := s.heap.push { cls := .type "frame", data := .dict #[] } } : Shared).heap.objs.size = s.heap.objs.size + 1 from Heap.size_push ..];refine Dh (InL.binds (s₀ := s) (env := dD q scope s.heap.objs.size f cd cl) (own := cellsFrom (s.heap.objs.size + 1) scope.names [])
    _ (λ_ _ _ => rfl) hk binds (λ_ => none) (λ_ => none) _ _
    ⟨⟨_, _, rfl⟩, (Heap.Ns.new s.heap (.type "frame")).keeps (pushCells_keeps _ _), λb o e => pushCells_keeps _ _ b o (Dk _ e), DI _,
      λn c hc => (ok.empty n c (PySem.mem_of_lookup hc)).1, ok.apart, λn c hm => (ok.empty n c hm).2⟩
    (λx hx => ?_) λs' x => Di (hQ s' x))
  rcases hkind x hx with h|h
  · exact .inl h
  · obtain ⟨c, hc⟩ := Option.isSome_iff_exists.mp (PySem.W.cellsFrom_some scope.names (s.heap.objs.size + 1) cl (.inl h))
    rcases iH scope.names (s.heap.objs.size + 1) [] cl hc with h2|h2
    · rw [hcl _ _ h2] at h; cases h
    · exact .inr ⟨h, c, hc, h2⟩
end
def iW(P:Program)(w:World)(K:Dj)(mg:Str->Option Value)(base:Heap)(N:List Str)(q:Str)(scope:Scope)(f:Addr)(cd:Value)(cl:List (Str×Addr))(A:Around)(outer:List Env)(s:Shared)(H:Hp):Cx where
 prog:=P
 w:=w
 K:=K
 mg:=mg
 base:=base
 A:=A.deeper (dD q scope s.heap.objs.size f cd cl)
 N:=N
 s₀:=s
 H₀:=H
 env:=dD q scope s.heap.objs.size f cd cl
 outer:=outer
 stack:=dD q scope s.heap.objs.size f cd cl::outer
 ex:=[]
 calm:=true
 fn:=λx=>scope.names.lookup x == some .cell
 pn:=[]
 xe:=λ_ _=>False
structure Caps(H:Hp)(cl:List (Str×Addr))(cp:List Cap):Prop where
 at_:∀e∈cp,cl.lookup e.n=some e.c/\H e.c=some (cI e.c e.o)/\∃u,e.o.data=.cell (some u)/\RelV e.v u
 all:∀x c,cl.lookup x=some c->∃e∈cp,e.n=x/\e.c=c
def Caps.ext{H H':Hp}(e:Ext H H'){cl:List (Str×Addr)}{cp:List Cap}(h:Caps H cl cp):Caps H' cl cp:=⟨λx hx=>⟨(h.at_ x hx).1,e _ _ (h.at_ x hx).2.1,(h.at_ x hx).2.2⟩,h.all⟩
def Caps.look{H:Hp}{cl:List (Str×Addr)}{cp:List Cap}(h:Caps H cl cp):∀b o,(cellsOf cp).lookup b=some o->H b=some (cI b o):=λb o e=>by obtain⟨x,hx,rfl,rfl⟩:=fC e;exact(h.at_ x hx).2.1
structure LamSc(ps:List Str)(sc:Scope):Prop where
 kind:sc.kind=.function
 co:sc.isCoroutine=false
 gen:sc.isGenerator=false
 nd:ps.Nodup
 par:∀x∈ps,sc.names.lookup x=some .local\/sc.names.lookup x=some .cell
def zC{P:Program}{w:World}{K:Dj}{mg:Str->Option Value}{base:Heap}{ps:List Str}{q:Str}{scope:Scope}{f:Addr}{cd:Value}{cl cells:List (Str×Addr)}{cp:List Cap}{A:Around}{outer:List Env}{s s1:Shared}{H:Hp}{us:List Value}{vs:List V}
  (S:LamSc ps scope) (C:ClOk scope cells cl) (hcp:Caps H cl cp) (hd:A.handled=none) (e0:Env0 P w K mg base A outer s H) (hl:vs.length=ps.length) (r:Vals vs us)
  (x:InL s s.heap.objs.size (bindL (dD q scope s.heap.objs.size f cd cl).kindOf (ps.zip us) λ_=>none) (cellsFrom (s.heap.objs.size+1) scope.names []) (bindC (dD q scope s.heap.objs.size f cd cl).kindOf (ps.zip us) λ_=>none) s1) :
  Inv (iW P w K mg base (ps++cp.map (·.n)) q scope f cd cl A outer s (aU (cellsOf cp) H)) [] (vs.map some++cp.map λe=>some e.v) (aU (cellsOf cp) H) s1:=by
 obtain⟨h1,tk,rfl⟩:=x.same;have hk:=x.keep;have noA:∀b:Addr,b∉(iW P w K mg base (ps++cp.map (·.n)) q scope f cd cl A outer s (aU (cellsOf cp) H)).ex:=λb z=>absurd (show b∈([]:List Addr)from z) (by simp);have nn:∀b,H b=none->aU (cellsOf cp) H b=none:=λb hb=>by
  cases z:(cellsOf cp).lookup b with
  | none=>rw[bY z];exact hb
  | some o=>exact fK z
 have obj:∀e∈cp,s.heap.get? e.c=some e.o:=λe he=>(e0.hok _ _ (hcp.at_ e he).2.1).1;have clt:∀y c,cl.lookup y=some c->@LT.lt Nat _ c s.heap.objs.size:=λy c h=>by obtain⟨e,he,_,rfl⟩:=hcp.all y c h;exact Dm (obj e he)
 have cinC:∀y c,cl.lookup y=some c->aU (cellsOf cp) H c=none:=λy c h=>by obtain⟨e,he,_,rfl⟩:=hcp.all y c h;obtain⟨o,ho⟩:=yK he;exact fK ho
 have hfr:∀y,scope.names.lookup y=some .free->∃c,cl.lookup y=some c/\(cellsFrom (s.heap.objs.size+1) scope.names cl).lookup y=some c:=λy hy=>by
  obtain⟨c,hc⟩:=C.has y hy;obtain⟨c',hc'⟩:=Option.isSome_iff_exists.mp (PySem.W.cellsFrom_some scope.names (s.heap.objs.size+1) cl (x:=y) (.inr (by rw[hc];rfl)));rcases gg _ _ _ hc' with h|⟨_,h⟩
  ·rw[hc]at h;cases h;exact⟨c,hc,hc'⟩
  ·have:=tH C.one h;rw[hy]at this;cases this
 refine⟨⟨e0.mod,S.kind,rfl,rfl,DI _,λy z c h1 h2=>?_,λy hy=>?_,λy c h hc=>?_,λ_=>hd,Around.frames_deeper e0.frames,.inr ⟨rfl,rfl⟩,λb z=>absurd z (noA b),λb o e=>⟨(e0.bs b o e).1,nn b (e0.bs b o e).2⟩,e0.bsz,λb _ _=>noA b,λb z=>absurd z (noA b),e0.funs,λb hb=>nn b (e0.frf b hb)⟩,
  rfl,e0.bare,Un.kept hk,⟨_,x.ns,λi y v h1 h2 h3=>?_⟩,λy c h=>?_,nn _ (e0.hok.fresh (DI _)),λy c h=>?_,λp hp=>absurd (show p∈([]:List (Addr×Obj))from hp) (by simp),(vK e0.hok hcp.look).kept hk,?_⟩
 ·exact j8 scope.names _ _ (λx c e=>Nat.lt_succ_of_lt (clt x c e)) C.inj h1 h2
 ·have hy:scope.names.lookup y=some .cell\/scope.names.lookup y=some .free:=hy;rcases hy with hy|hy
  ·exact Option.isSome_iff_exists.mp (PySem.W.cellsFrom_some scope.names _ _ (.inl hy))
  ·obtain⟨c,_,h⟩:=hfr y hy;exact⟨c,h⟩
 ·have hy:scope.names.lookup y=some .cell:=by simpa[iW]using h
  have hc':(cellsFrom (s.heap.objs.size+1) scope.names cl).lookup y=some c:=hc;rcases gg _ _ _ hc' with h2|⟨h2,_⟩
  ·rw[(C.fr y c h2).1]at hy;cases hy
  ·exact Nat.le_of_succ_le h2
 ·by_cases hi:i<vs.length
  ·have ha:vs[i]?=some v:=by
    rw[DN (by simpa using hi),Dr]at h2;cases e:vs[i]? with
    | none=>rw[e]at h2;cases h2
    | some a=>rw[e]at h2;cases h2;rfl
   obtain⟨u,hu,rv⟩:=r.get ha;have hp:ps[i]?=some y:=by have h1':(ps++cp.map (·.n))[i]?=some y:=h1;rw[DN (by omega)]at h1';exact h1'
   refine⟨u,rv,?_⟩;rcases S.par y (Dy hp)with k|k
   ·exact .inl ⟨k,lN S.nd hp hu k⟩
   ·obtain⟨c,e⟩:=Option.isSome_iff_exists.mp (PySem.W.cellsFrom_some scope.names (s.heap.objs.size+1) cl (.inl k));refine .inr ⟨.inl k,c,e,?_⟩;rcases iH scope.names (s.heap.objs.size+1) [] cl e with h4|h4
    ·rw[(C.fr y c h4).1]at k;cases k
    ·have qq:=x.cell y c h4;rw[nY S.nd hp hu (by show scope.names.lookup y≠_;rw[k];decide)]at qq;exact qq
  ·have h1':(ps++cp.map (·.n))[i]?=some y:=h1;rw[DM (by omega),Dr]at h1';rw[DM (by simpa using Nat.le_of_not_lt hi),Dn,Dr]at h2;rw[hl]at h2;cases he:cp[i-ps.length]? with
   | none=>rw[he]at h2;cases h2
   | some e=>
    rw[he]at h1' h2;cases h1';cases h2;have hm:=Dy he;obtain⟨a1,a2,u,hu,rv⟩:=hcp.at_ e hm;have hf:=(C.fr _ _ a1).1;obtain⟨c,b1,b2⟩:=hfr e.n hf;rw[a1]at b1;cases b1;exact⟨u,rv,.inr ⟨.inr hf,e.c,b2,e.o,hk _ _ (obj e hm),hu⟩⟩
 ·have h':(cellsFrom (s.heap.objs.size+1) scope.names cl).lookup y=some c:=h;rcases iH scope.names (s.heap.objs.size+1) [] cl h' with h2|h2
  ·obtain⟨e,he,_,rfl⟩:=hcp.all y c h2;obtain⟨_,_,u,hu,_⟩:=hcp.at_ e he;exact⟨some u,e.o,hk _ _ (obj e he),hu⟩
  ·exact⟨_,x.cell y c h2⟩
 ·have h':(cellsFrom (s.heap.objs.size+1) scope.names cl).lookup y=some c:=h;rcases gg _ _ _ h' with h2|⟨h2,_⟩
  ·exact cinC y c h2
  ·exact nn c (e0.hok.fresh (Nat.le_of_succ_le h2))
 ·show(vs.map some++cp.map λe=>some e.v).length=(ps++cp.map (·.n)).length;simp[hl]
def gm(f c:Addr)(q:Str)(params:Arguments)(body:Expr)(scope:Scope)(cl:List (Str×Addr))(cp:List Cap)(H:Hp):Prop:=H f=some (dP f c q params body scope cl)/\H c=some (cA c q)/\Caps H cl cp
def gm.ext{H H':Hp}(e:Ext H H'){f c:Addr}{q:Str}{params:Arguments}{body:Expr}{scope:Scope}{cl:List (Str×Addr)}{cp:List Cap}(h:gm f c q params body scope cl cp H):gm f c q params body scope cl cp H':=⟨e _ _ h.1,e _ _ h.2.1,h.2.2.ext e⟩
def w9{P:Program}{w:World}{K:Dj}{mg:Str->Option Value}{base:Heap}{k:Nat}{f c:Addr}{q:Str}{params:Arguments}{body:Expr}{scope:Scope}{cl cells:List (Str×Addr)}{cp:List Cap}{ps:List Str}{R:List V->Hp->VK->Prop}(I:Hp->Prop)
  (S:LamSc ps scope) (C:ClOk scope cells cl) (bind:∀(pm cv ctv:Value) (us:List Value),us.length=ps.length->bindArgs (PySem.W.kla_fn "<lambda>" q params body scope cl pm cv ctv) ⟨us,[]⟩=pure (ps.zip us))
  (hR:∀vs H Q,R vs H Q->vs.length=ps.length)
  (hbody:∀(A:Around) (outer:List Env) (s:Shared) (H:Hp) (vs:List V) (Q:VK),Room k (A.deeper (dD q scope s.heap.objs.size f (.ref c) cl))->gm f c q params body scope cl cp H->I H->R vs H Q →
   ∃te,PE (iW P w K mg base (ps++cp.map (·.n)) q scope f (.ref c) cl A outer s (aU (cellsOf cp) H)) body te/\te (vs.map some++cp.map λe=>some e.v) (aU (cellsOf cp) H) λv H'=>(∀b o,(cellsOf cp).lookup b=some o->H' b=none)->Q v (bB (cellsOf cp) H')) :
  FunR P w K mg base (k+1) f (λH=>gm f c q params body scope cl cp H/\I H) R:=by
 refine⟨λH h hok hp=>?_,λA outer s H us vs Q hr e0 hp r hq=>?_⟩
 ·obtain⟨⟨pm,ctv,gf⟩,_⟩:=hok f _ hp.1.1;exact⟨_,_,_,_,gf⟩
 ·obtain⟨⟨hf,hc,hcp⟩,hI⟩:=id hp;obtain⟨⟨pm,ctv,gf⟩,_⟩:=e0.hok f _ hf;obtain⟨gc,_⟩:=e0.hok c _ hc;have lim:s.heap.NoLimit:=e0.mod.nolimit.keeps λb o e=>(e0.bs b o e).1;have hl:=hR vs H Q hq;refine PySem.W.kla_callFunE hr.depth gf rfl S.co S.gen rfl gc ?_;rw[bind _ _ _ us (by rw[←r.length];exact hl)];refine Di ?_;refine xg (q:=q) (f:=f) (cd:=.ref c) S.kind C.one (λx c h=>(C.fr x c h).1) (λz hz=>?_) λs1 z=>?_
  ·exact S.par z.1 (List.of_mem_zip hz).1
  refine⟨lim.keeps z.keep,PySem.W.kla_codeExpr ?_⟩;have J:=zC S C hcp hr.hd e0 hl r z;obtain⟨te,ht,hq'⟩:=hbody A outer s H vs Q (hr.deeper _) hp.1 hI hq;refine wpAny_mono (ht [] s1 _ _ _ J hq') (λu s' ⟨v,H',J',rv,q'⟩=>?_) λe s' hs=>hs.elim;have obj:∀b o,(cellsOf cp).lookup b=some o->s.heap.get? b=some o:=λb o e=>(e0.hok _ _ (hcp.look b o e)).1;have nfs:∀b o,(cellsOf cp).lookup b=some o->b∉cB outer:=λb o e hb=>by have:=e0.frf b hb;rw[hcp.look b o e]at this;cases this
  have un:Un (cB outer) [] (aU (cellsOf cp) H) H' s.heap s'.heap:=J'.base;exact⟨v,bB (cellsOf cp) H',J'.os,J'.bare,yI un hcp.look,vN J'.hok (λb o e=>un.keep b o (obj b o e) (fK e) (nfs b o e) (by simp)) (λb o e=>un.free b o (obj b o e) (fK e) (by simp)),rv,q' λb o e=>un.free b o (obj b o e) (fK e) (by simp)⟩
section
variable {X:Cx}
def w8:V->List V->Hp->VK->Prop:=λx vs H Q=>∃(n:Nat) (p:Addr) (xs:List V) (a:V) (d:PyData) (ds:List PyData) (j:Nat),x=.ref p/\vs=[a]/\aQ H n a d/\H p=some (.lst xs)/\Paired (aQ H n) xs ds/\n<=50/\(∃e,ds[j]?=some e/\PyData.eqv e d=true)/\(∀m e,m<j->ds[m]?=some e->PyData.eqv e d=false)/\j<2 ^ 32/\Q (.int (j:Int)) H
def wN{k:Nat}{A0:Around}(hr:Room k A0)(hA:X.A=A0:=by rfl):lD X "list.index" w8:=by
 subst hA;intro pins s σ H x xs v us Q I rx rv h;obtain⟨n,p,ys,a,d,ds,j,rfl,rfl,h1,h2,h3,hn,⟨e,hj,he⟩,hno,hjs,q⟩:=h;cases rx;obtain⟨u,rfl,ru⟩:=rv.one;have h4:aQ H (n+1) (.ref p) (.list ds):=.inr ⟨p,ys,ds,rfl,.inr ⟨h2,rfl⟩,h3⟩;obtain⟨as,ra⟩:=aQ.reads I n h1 ru;obtain⟨bs,rb⟩:=aQ.reads I (n+1) h4 rfl;have l1:=aQ.lay n h1;have l2:=iS (λ{x d}=>aQ.lay (H:=H) n) h3;have hu:=hr.units;have hm:min (PyData.depthAll ds) d.depth<=50:=DS (Nat.min_le_right _ _) (DS l1.2 hn);obtain⟨_,its,nn,rvv,gt⟩:=I.hok p _ h2;cases rb with
 | list g1 g2 g3 g4=>
  rw[gt]at g1;cases g1;cases g3;have mp:=SeqAt.readsAll_map ds _ _ l2.1 g4;have hlen:its.length=ds.length:=by rw[←mp,Dn]
  have hjl:j<ds.length:=(Dx.mp hj).1;have hsz:j<its.toArray.size:=by rw[Du];omega
  have hat:∀m (hm:m<its.toArray.size),ds[m]?=some (SeqAt.readOf s.heap its.toArray[m]):=λm hm=>by
   have hm':m<its.length:=by simpa using hm
   rw[←mp,Dr];simp[hm']
  refine call_meets PySem.F.slot_list_index ⟨_,gt,rfl⟩ PySem.F.entry_list_index (PySem.F.args_list_index_2 _ _) (SeqAt.list_indexAt p its.toArray nn none #[] u (λy=>PyData.eqv (SeqAt.readOf s.heap y) d) j hsz (by omega) ?_ ?_)
   ⟨gt,SeqAt.items_eqAt g4 ra l2.1 l1.1 (by omega),?_⟩
  ·have:=hat j hsz;rw[hj]at this;cases this;exact he
  ·intro m hm hmj;exact hno m _ hmj (hat m hm)
  ·exact⟨.int _,H,I.tok _,⟨_,rfl⟩,q⟩
end
open AutoSeq1 (wpAny_loadPart')in
section
variable {K:Dj} {σ:St} {H:Hp} {Q:VK}
end
section
variable {X:Cx}
end
end L2
namespace L2.Og.Tb
open PySem
def nx(m i:Nat):Nat:=(i*5+1) % (m+1)
def it(m:Nat):Nat->Nat->Nat
 | 0,i=>i
 | n+1,i=>it m n (nx m i)
def jY(m:Nat):∀a b i,it m (a+b) i=it m b (it m a i)
 | 0,b,i=>by rw[Nat.zero_add];rfl
 | a+1,b,i=>by rw[Nat.succ_add];exact jY m a b (nx m i)
def ly(m:Nat):Nat->Nat->List Nat
 | 0,_=>[]
 | n+1,i=>i::ly m n (nx m i)
def tR{m:Nat}:∀{n i j:Nat},j∈ly m n i->∃k,k<n/\it m k i=j
 | 0,_,_,h=>by cases h
 | n+1,i,j,h=>by
  rcases DD.mp h with rfl|h
  ·exact⟨0,Nat.succ_pos _,rfl⟩
  ·obtain⟨k,hk,e⟩:=tR h;exact⟨k+1,Nat.succ_lt_succ hk,e⟩
def good(m:Nat):Bool:=(Ek (m+1)).all (λj=>(ly m (m+1) 0).contains j) && it m (m+1) 0 == 0
def xh:good 7=true:=by decide +kernel
def AA:good 31=true:=by decide +kernel
def zN:good 127=true:=by decide +kernel
def Bc:good 511=true:=by decide +kernel
def Mask(m:Nat):Prop:=m=7\/m=31\/m=127\/m=511
def Mask.good{m:Nat}(h:Mask m):good m=true:=by
 rcases h with rfl|rfl|rfl|rfl
 ·exact xh
 ·exact AA
 ·exact zN
 ·exact Bc
def wj{m:Nat}(h:Mask m){j:Nat}(hj:j<=m):∃k,k<=m/\it m k 0=j:=by have:=h.good;unfold Tb.good at this;rw[DX,DU]at this;have h1:=this.1 j (List.mem_range.mpr (by omega));rw[List.contains_iff_mem]at h1;obtain⟨k,hk,e⟩:=tR h1;exact⟨k,by omega,e⟩
def round0{m:Nat}(h:Mask m):it m (m+1) 0=0:=by have:=h.good;unfold Tb.good at this;rw[DX]at this;exact eq_of_beq this.2
def reach{m:Nat}(h:Mask m){i j:Nat}(hi:i<=m)(hj:j<=m):∃k,k<=m/\it m k i=j:=by
 obtain⟨a,ha,ea⟩:=wj h hi;obtain⟨b,hb,eb⟩:=wj h hj;rcases Ee b a with hlt|hge
 ·refine⟨m+1-a+b,by omega,?_⟩;rw[←ea,←jY,show a+(m+1-a+b)=(m+1)+b by omega,jY,round0 h];exact eb
 ·refine⟨b-a,by omega,?_⟩;rw[←ea,←jY,show a+(b-a)=b by omega];exact eb
def lp(m:Nat):Nat->Nat×Nat->Nat×Nat
 | 0,s=>s
 | n+1,s=>lp m n (SetTable.leap m s.1 s.2)
def lj(m:Nat):∀n s,lp m (n+1) s=SetTable.leap m (lp m n s).1 (lp m n s).2
 | 0,s=>rfl
 | n+1,s=>by show lp m (n+1) (SetTable.leap m s.1 s.2)=_;rw[lj m n];rfl
def pS(m:Nat):∀n s,(lp m n s).2=s.2 / 32 ^ n
 | 0,s=>by simp[lp]
 | n+1,s=>by rw[lj m n s];show(lp m n s).2 / 32=_;rw[pS m n s,Nat.div_div_eq_div_mul,Nat.pow_succ]
def sS(m:Nat):∀n s,s.1<=m->(lp m n s).1<=m
 | 0,s,h=>h
 | n+1,s,h=>by rw[lj m n s];show(_ % (m+1))<=m;have:=Nat.mod_lt ((lp m n s).1*5+1+(lp m n s).2 / 32) (show 0<m+1 by omega);omega
def uI(m:Nat):∀n i,(lp m n (i,0)).1=it m n i
 | 0,i=>rfl
 | n+1,i=>by show(lp m n (SetTable.leap m i 0)).1=it m n (nx m i);have:SetTable.leap m i 0=(nx m i,0):=rfl;rw[this];exact uI m n _
def sj(m:Nat):∀a b s,lp m (a+b) s=lp m b (lp m a s)
 | 0,b,s=>by rw[Nat.zero_add];rfl
 | a+1,b,s=>by rw[Nat.succ_add];exact sj m a b _
def vk{m:Nat}(h:Mask m){i p j:Nat}(hi:i<=m)(hp:p<2 ^ 64)(hj:j<=m):∃n,n<=m+13/\(lp m n (i,p)).1=j:=by
 have hz:(lp m 13 (i,p)).2=0:=by rw[pS];exact Nat.div_eq_of_lt (DR hp (by decide))
 obtain⟨k,hk,e⟩:=reach h (sS m 13 (i,p) hi) hj;refine⟨13+k,by omega,?_⟩;rw[sj];have:lp m 13 (i,p)=((lp m 13 (i,p)).1,0):=by rw[←hz]
 rw[this,uI];exact e
def wB(h:Int):SetTable.bits h<2 ^ 64:=by unfold SetTable.bits;have h1:=Int.emod_lt_of_pos h (show(0:Int)<2 ^ 64 by decide);have h2:=Int.emod_nonneg h (show(2:Int) ^ 64≠0 by decide);omega
def bZ(t:SetTable):Nat->SetTable.Probe->SetTable.Probe
 | 0,p=>p
 | n+1,p=>bZ t n (t.advance p)
def o7(t:SetTable):∀a b p,bZ t (a+b) p=bZ t b (bZ t a p)
 | 0,b,p=>by rw[Nat.zero_add];rfl
 | a+1,b,p=>by rw[Nat.succ_add];exact o7 t a b _
def at_(t:SetTable)(s:Nat×Nat):SetTable.Probe:={ j:=s.1,more:=SetTable.runEnd t.mask s.1-s.1,i:=s.1,perturb:=s.2,dummy:=none }
def sP(t:SetTable):∀(r:Nat) (p:SetTable.Probe),p.more=r->bZ t (r+1) p={ p with j:=(SetTable.leap t.mask p.i p.perturb).1,more:=SetTable.runEnd t.mask (SetTable.leap t.mask p.i p.perturb).1-(SetTable.leap t.mask p.i p.perturb).1,i:=(SetTable.leap t.mask p.i p.perturb).1,perturb:=(SetTable.leap t.mask p.i p.perturb).2 }
 | 0,p,h=>by show t.advance p=_;unfold SetTable.advance;rw[En (by omega)]
 | r+1,p,h=>by
  show bZ t (r+1) (t.advance p)=_;have e:t.advance p={ p with j:=p.j+1,more:=p.more-1 }:=by unfold SetTable.advance;rw[Eo (by omega)]
  rw[e,sP t r _ (by show p.more-1=r;omega)]
def Cc(t:SetTable)(s:Nat×Nat):∃k,k<=10/\bZ t k (at_ t s)=at_ t (SetTable.leap t.mask s.1 s.2):=by
 refine⟨SetTable.runEnd t.mask s.1-s.1+1,?_,?_⟩
 ·unfold SetTable.runEnd;split<;>omega
 ·exact(sP t (SetTable.runEnd t.mask s.1-s.1) (at_ t s) rfl).trans rfl
def tu(t:SetTable):∀(n:Nat) (s:Nat×Nat),∃k,k<=10*n/\bZ t k (at_ t s)=at_ t (lp t.mask n s)
 | 0,s=>⟨0,DI _,rfl⟩
 | n+1,s=>by obtain⟨k1,h1,e1⟩:=Cc t s;obtain⟨k2,h2,e2⟩:=tu t n (SetTable.leap t.mask s.1 s.2);refine⟨k1+k2,by omega,?_⟩;rw[o7,e1,e2];rfl
def zK(t:SetTable)(h:Int):t.probeStart h=at_ t (SetTable.bits h % (t.mask+1),SetTable.bits h):=rfl
def CS{t:SetTable}(hm:Mask t.mask){j:Nat}(hj:j<=t.mask)(h:Int):∃K,K<10*SetTable.turns t.mask/\(bZ t K (t.probeStart h)).j=j:=by
 have h1:SetTable.bits h % (t.mask+1)<=t.mask:=by have:=Nat.mod_lt (SetTable.bits h) (show 0<t.mask+1 by omega);omega
 obtain⟨n,hn,e⟩:=vk hm h1 (wB h) hj;obtain⟨K,hK,eK⟩:=tu t n (SetTable.bits h % (t.mask+1),SetTable.bits h);refine⟨K,by unfold SetTable.turns;omega,?_⟩;rw[zK,eK];exact e
def vM{t:SetTable}{j i:Nat}(h:t.slot j=.live i):t.place[i]?=some j:=by
 unfold SetTable.slot at h;dsimp only at h;split at h
 ·rename_i hq;cases h;exact eq_of_beq hq
 ·split at h<;>cases h
def tm(j:Nat):SetTable.has #[] j=false:=rfl
def qh{t:SetTable}(hd:t.dummies = #[])(j:Nat):t.slot j=.empty\/∃i,t.slot j=.live i:=by
 unfold SetTable.slot;dsimp only;split
 ·exact .inr ⟨_,rfl⟩
 ·rw[hd,tm];exact .inl rfl
def sy:∀(n:Nat) (l:List Nat),(∀j,j<n->j∈l)->n<=l.length
 | 0,l,_=>Nat.zero_le _
 | n+1,l,h=>by have hn:=h n (Nat.lt_succ_self n);have:=sy n (l.erase n) λj hj=>(List.mem_erase_of_ne (by omega)).mpr (h j (by omega));rw[List.length_erase_of_mem hn]at this;have:0<l.length:=List.length_pos_of_mem hn;omega
def BN{t:SetTable}(hd:t.dummies = #[])(h:t.place.size<=t.mask):∃j,j<=t.mask/\t.slot j=.empty:=by
 rcases Classical.em (∃j,j<=t.mask/\t.slot j=.empty)with h1|h1
 ·exact h1
 ·exfalso;have:=sy (t.mask+1) t.place.toList λj hj=>by
   rcases qh hd j with h2|⟨i,h2⟩
   ·exact absurd ⟨j,by omega,h2⟩ h1
   ·have:=vM h2;rw[←Array.getElem?_toList]at this;exact Dy this
  rw[Dt]at this;omega
def ng(t:SetTable):∀n p,(bZ t n p).dummy=p.dummy
 | 0,p=>rfl
 | n+1,p=>by show(bZ t n (t.advance p)).dummy=_;rw[ng t n];unfold SetTable.advance;split<;>rfl
def CV{t:SetTable}(hd:t.dummies = #[])(hash:Nat->Int)(h:Int):∀(K fuel:Nat) (p:SetTable.Probe),K<fuel->p.dummy=none->t.slot (bZ t K p).j=.empty →
  (∃j,SetTable.probe.go t hash h fuel p=some (.empty j none))\/∃k j i,k<K/\SetTable.probe.go t hash h fuel p=some (.candidate j i (bZ t (k+1) p))/\t.slot j=.live i:=by
 intro K;induction K with
 | zero=>
  intro fuel p hf hp hs;obtain⟨f,rfl⟩:∃f,fuel=f+1:=⟨fuel-1,by omega⟩;refine .inl ⟨p.j,?_⟩;have hs':t.slot p.j=.empty:=hs;unfold SetTable.probe.go;rw[hs'];dsimp only;rw[hp]
 | succ K ih=>
  intro fuel p hf hp hs;obtain⟨f,rfl⟩:∃f,fuel=f+1:=⟨fuel-1,by omega⟩;unfold SetTable.probe.go;rcases qh hd p.j with h1|⟨i,h1⟩
  ·rw[h1];dsimp only;rw[hp];exact .inl ⟨p.j,rfl⟩
  ·rw[h1];dsimp only;by_cases hq:(hash i == h)=true
   ·rw[Eo hq];exact .inr ⟨0,p.j,i,Nat.succ_pos _,rfl,h1⟩
   ·rw[En hq];have hp':(t.advance p).dummy=none:=by have:=ng t 1 p;rw[hp]at this;exact this
    rcases ih f (t.advance p) (by omega) hp' hs with⟨j,e⟩|⟨k,j,i',hk,e,hl⟩
    ·exact .inl ⟨j,e⟩
    ·exact .inr ⟨k+1,j,i',by omega,e,hl⟩
def pj{α:Type}:∀{l:List (Option α)} {j:Nat} {k:α},l[j]?=some none->((l.set j (some k)).filterMap id).Perm (k::l.filterMap id)
 | [],j,k,h=>by cases h
 | x::l,0,k,h=>by
  have:x=none:=by simpa using h
  subst this;exact .refl _
 | x::l,j+1,k,h=>by
  have h':l[j]?=some none:=by simpa using h
  have ih:=pj (k:=k) h';cases x with
  | none=>exact ih
  | some y=>exact(List.Perm.cons y ih).trans (.swap _ _ _)
def Cq{α:Type}(l:List (Option α)):(l.filterMap id).length+(l.filter (·.isNone)).length=l.length:=by
 induction l with
 | nil=>rfl
 | cons x l ih=>
  cases x<;>simp at ih ⊢<;>omega
def A4{m:Nat}(hm:Mask m)(owner:Array (Option Nat))(hz:owner.size=m+1){j:Nat}(hj:owner[j]?=some none):∀(fuel n i p:Nat),i<=m->n<fuel->(lp m n (i,p)).1=j →
  ∃j',SetTable.layClean.free m owner fuel i p=some j'/\owner[j']?=some none:=by
 intro fuel;induction fuel with
 | zero=>intro n i p _ h;omega
 | succ fuel ih=>
  intro n i p hi hn he;unfold SetTable.layClean.free;split
  ·rename_i k hk;have h1:=List.find?_some hk;have h2:=List.mem_range.mp (List.mem_of_find?_eq_some hk);refine⟨i+k,rfl,?_⟩;have hb:i+k<owner.size:=by rw[hz];unfold SetTable.runEnd at h2;split at h2<;>omega
   rw[Array.getElem?_eq_getElem hb];have:owner.getD (i+k) (some 0)=owner[i+k]:=by rw[Array.getD_eq_getD_getElem?,Array.getElem?_eq_getElem hb];rfl
   rw[this]at h1;congr 1;cases hq:owner[i+k]with
   | none=>rfl
   | some y=>rw[hq]at h1;cases h1
  ·rename_i hk;cases n with
   | zero=>
    exfalso;have h0:i=j:=he;have:=List.find?_eq_none.mp hk 0 (List.mem_range.mpr (by unfold SetTable.runEnd;split<;>omega));rw[Nat.add_zero,h0,Array.getD_eq_getD_getElem?,hj]at this;simp at this
   | succ n=>
    have:=sS m 1 (i,p) hi;exact ih n (SetTable.leap m i p).1 (SetTable.leap m i p).2 this (by omega) he
def jo(mask:Nat)(acc:Option (Array (Option Nat)×Nat))(h:Int):Option (Array (Option Nat)×Nat):=do
 let (owner,k) ←acc;let j ←SetTable.layClean.free mask owner (SetTable.turns mask) (SetTable.bits h % (mask+1)) (SetTable.bits h)
 pure (owner.setIfInBounds j (some k),k+1)
def zD{l:List (Option Nat)}(h:(l.filterMap id).length<l.length):∃j:Nat,l[j]?=some none:=by
 have:=Cq l;have h1:0<(l.filter (·.isNone)).length:=by omega
 obtain⟨x,hx⟩:=List.exists_mem_of_length_pos h1;obtain⟨hx1,hx2⟩:=List.mem_filter.mp hx;have:x=none:=by cases x<;>simp_all
 subst this;obtain⟨j,hj⟩:=Ef hx1;exact⟨j,hj⟩
def rT{m:Nat}(hm:Mask m):∀(hs:List Int) (owner:Array (Option Nat)) (k:Nat),owner.size=m+1->(owner.toList.filterMap id).Perm (Ek k)->k+hs.length<=m →
  ∃owner',hs.foldl (jo m) (some (owner,k))=some (owner',k+hs.length)/\owner'.size=m+1/\(owner'.toList.filterMap id).Perm (Ek (k+hs.length))
 | [],owner,k,h1,h2,h3=>⟨owner,rfl,h1,h2⟩
 | h::hs,owner,k,h1,h2,h3=>by
  rw[DP]at h3 ⊢;have hlt:(owner.toList.filterMap id).length<owner.toList.length:=by rw[h2.length_eq,List.length_range,Dt,h1];omega
  obtain⟨j,hj⟩:=zD hlt;rw[Array.getElem?_toList]at hj;have hjm:j<=m:=by have:=(Array.getElem?_eq_some_iff.mp hj).1;omega
  have hi:SetTable.bits h % (m+1)<=m:=by have:=Nat.mod_lt (SetTable.bits h) (show 0<m+1 by omega);omega
  obtain⟨n,hn,en⟩:=vk hm hi (wB h) hjm;obtain⟨j',e',hj'⟩:=A4 hm owner h1 hj (SetTable.turns m) n _ _ hi (by unfold SetTable.turns;omega) en;have step:jo m (some (owner,k)) h=some (owner.setIfInBounds j' (some k),k+1):=by unfold jo;simp[e']
  rw[List.foldl_cons,step];have hp:((owner.setIfInBounds j' (some k)).toList.filterMap id).Perm (Ek (k+1)):=by rw[Array.toList_setIfInBounds];rw[←Array.getElem?_toList]at hj';refine(pj hj').trans ?_;rw[List.range_succ];exact(List.Perm.cons k h2).trans (List.perm_append_comm (l₁:=[k]) (l₂:=Ek k))
  obtain⟨o',f1,f2,f3⟩:=rT hm hs (owner.setIfInBounds j' (some k)) (k+1) (by simpa using h1) hp (by omega);exact⟨o',by rw[f1];congr 2;omega,f2,by rw[show k+(hs.length+1)=k+1+hs.length by omega];exact f3⟩
def yJ(t:SetTable){hashes:Array Int}{wanted m:Nat}(hm:Mask m)(hw:SetTable.sizeAbove wanted-1=m)(hn:hashes.size<=m):
  ∃t' order,t.relaid hashes wanted=some (t',order)/\t'.place.size=hashes.size/\t'.dummies = #[]/\t'.mask=m/\order.toList.Perm (Ek hashes.size):=by
 obtain⟨o',f1,f2,f3⟩:=rT hm hashes.toList (Array.replicate (m+1) none) 0 (by simp) (by simp) (by rw[Dt];omega);rw[Dt,Nat.zero_add]at f1 f3;have hlay:SetTable.layClean m hashes=some o':=by show(hashes.foldl (jo m) (some (Array.replicate (m+1) none,0))).map (·.1)=some o';rw[←Array.foldl_toList,f1];rfl
 have hsnd:((Ek (m+1)).filterMap λj=>(o'.getD j none).map (j,·)).map (·.2)=o'.toList.filterMap id:=by
  rw[List.map_filterMap];have:o'.toList=(Ek (m+1)).map λj=>o'.getD j none:=by
   apply List.ext_getElem
   ·rw[Dt,Dn,List.length_range,f2]
   ·intro i h1 h2;rw[Dt]at h1;simp[h1]
  rw[this,List.filterMap_map];congr 1;funext j;show((o'.getD j none).map (j,·)).map (·.2)=o'.getD j none;cases o'.getD j none<;>rfl
 have hrel:t.relaid hashes wanted=some (({ mask:=m,place:=(((Ek (m+1)).filterMap λj=>(o'.getD j none).map (j,·)).map (·.1)).toArray,dummies:=#[],finger:=t.finger,led:=t.led,moves:=t.movedTo m,plain:=t.plain }:SetTable),(((Ek (m+1)).filterMap λj=>(o'.getD j none).map (j,·)).map (·.2)).toArray):=by unfold SetTable.relaid;rw[hw];unfold SetTable.laid;rw[hlay];rfl
 refine⟨_,_,hrel,?_,rfl,rfl,?_⟩
 ·show(((Ek (m+1)).filterMap λj=>(o'.getD j none).map (j,·)).map (·.1)).toArray.size=_;rw[Du,Dn];have:=congrArg List.length hsnd;rw[Dn,f3.length_eq,List.length_range]at this;exact this
 ·show(((Ek (m+1)).filterMap λj=>(o'.getD j none).map (j,·)).map (·.2)).toArray.toList.Perm _;rw[List.toList_toArray,hsnd];exact f3
def my{α:Type}(xs:Array α)(p:Nat)(x:α):(SetTable.insertAt xs p x).size=xs.size+1:=by unfold SetTable.insertAt;simp;omega
def wO{α:Type}{xs:Array α}{p:Nat}{x e:α}(h:e∈(SetTable.insertAt xs p x).toList):e=x\/e∈xs.toList:=by
 unfold SetTable.insertAt at h;simp only[Array.toList_append,Array.toList_push,Array.toList_extract,DL,Dz]at h;rcases h with(h|h)|h
 ·exact .inr (List.mem_of_mem_take (by simpa using h))
 ·exact .inl h
 ·exact .inr (List.mem_of_mem_drop (List.mem_of_mem_take h))
def xt:SetTable.sizeAbove 20-1=31:=by decide +kernel
def AF:SetTable.sizeAbove 76-1=127:=by decide +kernel
def xO:SetTable.sizeAbove 308-1=511:=by decide +kernel
end L2.Og.Tb
namespace L2.Og
open PySem PySem.Spec PyProof.Rows
section
variable {P:Program} {w:World} {A:Around} {E:Value->Shared->Prop} {s:Shared} {K:Type} [DecidableEq K] {knd:KeyKind P w K}
def ua{ks:List K}{vs:List Value}(h:ItemsAre knd ks vs):∀v∈vs,∀b,v≠.ref b:=λv hv b e=>by have:=h.byValue v hv;subst e;cases this
def Bt(n:Nat){v:Value}(h:∀b,v≠.ref b):ofAClassStatement n v=pure false:=by
 cases v with
 | ref b=>exact absurd rfl (h b)
 | _=>unfold ofAClassStatement;rfl
def rP{ks:List K}{b:Addr}{Q:Bool->Shared->Prop}(hk:IsTupleKey knd s.heap ks b)(h:Q false s):wpAny (model P w) A (ofAClassStatement 8 (.ref b)) Q E s:=by
 have hT:=hk.typeIs;obtain⟨o,items,n,ho,hc,hd,hi⟩:=hk;unfold ofAClassStatement;refine Dh (wpAny_typeOf hT ?_);dsimp only;refine Dh (Di ?_);simp only[Bool.not_true,Ed,if_false];refine Dh (wpAny_seqItems ho hd ?_);dsimp only;refine Dh ?_;rw[←Array.forIn_toList];refine wpAny_forIn_list _ (λrest r s'=>r.1=none/\s'=s/\∀v∈rest,∀b,v≠.ref b) _ ?_ ?_ _ _ ⟨rfl,rfl,ua hi⟩
 ·rintro v rest r s' ⟨hr,rfl,hall⟩;rw[Bt _ (hall v Dv)];refine Dh (Di ?_);simp only[Ed,if_false];exact Di ⟨rfl,rfl,λu hu=>hall u (Ds _ hu)⟩
 ·rintro⟨r1,r2⟩ s' ⟨hr,rfl,_⟩;simp only at hr;subst hr;exact Di h
def zj{ks:List K}{b:Addr}{l:List Value}{Q:Bool->Shared->Prop}(hk:IsTupleKey knd s.heap ks b)(hl:∀y∈l,∃b' k',y=.ref b'/\IsTupleKey knd s.heap k' b')(h:Q false s):wpAny (model P w) A (searchCouldBeSeen (.ref b) l) Q E s:=by
 unfold searchCouldBeSeen;refine Dh ?_;refine wpAny_forIn_list _ (λrest r s'=>r.1=none/\s'=s/\∀y∈rest,∃b' k',y=.ref b'/\IsTupleKey knd s.heap k' b') _ ?_ ?_ _ _ ⟨rfl,rfl,hl⟩
 ·rintro v rest r s' ⟨hr,rfl,hall⟩;obtain⟨b',k',rfl,hk'⟩:=hall v Dv;have next:∀y∈rest,∃b' k',y=.ref b'/\IsTupleKey knd s'.heap k' b':=λy hy=>hall y (Ds _ hy)
  dsimp only;split
  ·exact Di ⟨rfl,rfl,next⟩
  ·refine Dh (wpAny_eqIsQuiet_tuple hk ?_);simp only[Bool.not_true,Ed,if_false];refine Dh (wpAny_eqIsQuiet_tuple hk' ?_);simp only[Bool.not_true,Ed,if_false];refine Dh (rP hk ?_);simp only[Ed,if_false];refine Dh (rP hk' ?_);simp only[Ed,if_false];exact Di ⟨rfl,rfl,next⟩
 ·rintro⟨r1,r2⟩ s' ⟨hr,rfl,_⟩;simp only at hr;subst hr;exact Di h
def BQ{a b:Addr}{k:List K}{h:Int}{o:Obj}{es:Array (Int×Value)}{ep:Nat}{t:SetTable}(hu:A.units<cLine)(hk:IsTupleKey knd s.heap k b)(ho:s.heap.get? a=some o)(hd:o.data=.set es ep t)(hf:t.fits es.size=true)(hm:Tb.Mask t.mask)(hdm:t.dummies = #[])
  (hall:∀e∈es.toList,∃b' k',e.2=.ref b'/\IsTupleKey knd s.heap k' b'/\k'≠k) {Q:SetFound->Shared->Prop} (hQ:∀j,Q (.free j false) s) :
  ∀(K fuel:Nat) (stand:Option SetTable.Probe),K<fuel->K<10*SetTable.turns t.mask->(stand.getD (t.probeStart h)).dummy=none->t.slot (Tb.bZ t K (stand.getD (t.probeStart h))).j=.empty →
   wpAny (model P w) A (setSearchFrom a (.ref b) h true fuel stand) Q E s:=by
 intro K;induction K using Nat.strongRecOn with
 | ind K ih=>
  intro fuel stand hfu hK hdu hs;obtain⟨f,rfl⟩:∃f,fuel=f+1:=⟨fuel-1,by omega⟩;unfold setSearchFrom;refine Dh (Ei ho hd hf ?_);dsimp only;have hg:t.gaveWay=false:=by unfold SetTable.gaveWay;rcases hm with e|e|e|e<;>rw[e]<;>rfl
  have hsz:t.place.size=es.size:=by simp only[SetTable.fits,DX,beq_iff_eq]at hf;exact hf.1
  have hsm:t.sameMemory t.moves t.mask=some true:=by unfold SetTable.sameMemory;rw[Eo (beq_self_eq_true _)]
  rw[hg];simp only[Ed,if_false];generalize hr:t.probe _ h (stand.getD (t.probeStart h))=r;obtain⟨g,hr⟩:∃g,SetTable.probe.go t g h (10*SetTable.turns t.mask) (stand.getD (t.probeStart h))=r:=⟨_,hr⟩;rcases Tb.CV hdm g h K _ _ hK hdu hs with⟨j,e⟩|⟨k',j,i,hk',e,hl⟩
  ·rw[e]at hr;subst hr;exact Di (hQ j)
  ·rw[e]at hr;subst hr;have hpl:=Tb.vM hl;have hi:i<es.size:=by rw[←hsz];exact(Array.getElem?_eq_some_iff.mp hpl).1
   have hmem:es[i]∈es.toList:=by simp
   obtain⟨b',k2,hy,hk2,hne⟩:=hall _ hmem;have hes:es[i]?=some (es[i].1,.ref b'):=by rw[Array.getElem?_eq_getElem hi,←hy]
   have hst:∀y∈((es.filter λx=>x.1 == h).toList.map λx=>x.2),∃b' k',y=Value.ref b'/\IsTupleKey knd s.heap k' b':=λy hy=>by
    obtain⟨e0,he0,rfl⟩:=List.mem_map.mp hy;have he1:e0∈es.toList:=by have:=Array.mem_toList_iff.mp he0;exact Array.mem_toList_iff.mpr (Array.mem_filter.mp this).1
    obtain⟨b3,k3,h1,h2,_⟩:=hall e0 he1;exact⟨b3,k3,h1,h2⟩
   have again:wpAny (model P w) A (setSearchFrom a (.ref b) h true f (some (Tb.bZ t (k'+1) (stand.getD (t.probeStart h))))) Q E s:=by
    refine ih (K-(k'+1)) (by omega) f _ (by omega) (by omega) ?_ ?_
    ·show(Tb.bZ t (k'+1) _).dummy=none;rw[Tb.ng];exact hdu
    ·show t.slot (Tb.bZ t (K-(k'+1)) (Tb.bZ t (k'+1) _)).j=_;rw[←Tb.o7,show k'+1+(K-(k'+1))=K by omega];exact hs
   have same:isSame (Value.ref b') (Value.ref b')=pure true:=by unfold isSame;simp
   dsimp only;cases hled:t.led
   ·simp only[Bool.not_false,if_true];refine Dh (zj hk hst ?_);simp only[Ed,if_false];rw[hes];dsimp only;refine Dh (wpAny_holding (wpAny_eqBool_tuple hu hk2 hk ?_));rw[El hne];refine Dh (Ei ho hd hf ?_);dsimp only;simp only[Bool.and_false,Ed,if_false,hsm,if_true,hl,hes,same];exact Dh (Di (Dh (Di again)))
   ·simp only[Bool.not_true,Ed,if_false];rw[hes];dsimp only;refine Dh (wpAny_holding (wpAny_eqBool_tuple hu hk2 hk ?_));rw[El hne];refine Dh (Ei ho hd hf ?_);dsimp only;simp only[Bool.and_false,Ed,if_false,hsm,if_true,hl,hes,same];exact Dh (Di (Dh (Di again)))
def eh(knd:KeyKind P w K)(h:Heap)(a:Addr)(ks:List (List K)):Prop:=
 ∃o es ep t,h.get? a=some o/\o.ExactSet/\o.data=.set es ep t/\t.place.size=es.size/\t.dummies = #[]/\Tb.Mask t.mask/\es.size*5<t.mask*3/\es.size=ks.length/\∀e∈es.toList,∃b k,e.2=.ref b/\k∈ks/\IsTupleKey knd h k b
def n6{h h':Heap}{a b:Addr}{k:List K}{o:Obj}{es:Array (Int×Value)}{ep:Nat}{t:SetTable}(hk:IsTupleKey knd h k b)(ho:h.get? a=some o)(hd:o.data=.set es ep t)(hs:Heap.SameBut a h h'):IsTupleKey knd h' k b:=by
 obtain⟨o',items,n,ho',hc,hd',hi⟩:=hk;have hne:b≠a:=by rintro rfl;rw[ho]at ho';cases ho';rw[hd]at hd';cases hd'
 exact⟨o',items,n,(hs.2 b hne).trans ho',hc,hd',hi⟩
def AL(n:Nat){v:Value}(h:∀b,v≠.ref b):∃c,hashByValue n v=pure c:=by
 cases v with
 | ref b=>exact absurd rfl (h b)
 | _=>exact⟨_,by cases n<;>unfold hashByValue<;>rfl⟩
def Bp{ks:List K}{b:Addr}{Q:Bool->Shared->Prop}(hk:IsTupleKey knd s.heap ks b)(h:∀c,Q c s):wpAny (model P w) A (hashByValue 8 (.ref b)) Q E s:=by
 have hT:=hk.typeIs;obtain⟨o,items,n,ho,hc,hd,hi⟩:=hk;unfold hashByValue;refine Dh (wpAny_specialOf hT F.slot_tuple_hash.lookup ?_);dsimp only;refine Dh (wpAny_seqItems ho hd ?_);dsimp only[Option.getD_some];refine Dh ?_;rw[←Array.forIn_toList];refine wpAny_forIn_list _ (λrest r s'=>(r.1=none\/∃c,r.1=some c)/\s'=s/\∀v∈rest,∀b,v≠.ref b) _ ?_ ?_ _ _ ⟨.inl rfl,rfl,ua hi⟩
 ·rintro v rest r s' ⟨hr,rfl,hall⟩;obtain⟨c,hc'⟩:=AL 7 (hall v Dv);rw[hc'];refine Dh (Di ?_);cases c
  ·show wpAny _ _ (pure (ForInStep.done (some false,()))) _ _ _;exact Di (Di (h false))
  ·simp only[Bool.not_true,Ed,if_false];exact Di ⟨.inl rfl,rfl,λu hu=>hall u (Ds _ hu)⟩
 ·rintro⟨r1,r2⟩ s' ⟨hr,rfl,_⟩;simp only at hr;rcases hr with rfl|⟨c,rfl⟩
  ·exact Di (h true)
  ·exact Di (h c)
def Bl{α:Type}{es:Array α}{order:Array Nat}(h:order.toList.Perm (Ek es.size)):(order.filterMap (es[·]?)).size=es.size/\∀e∈(order.filterMap (es[·]?)).toList,e∈es.toList:=by
 have key:∀l:List Nat,(∀i∈l,i<es.size)->(l.filterMap (es[·]?)).length=l.length/\∀e∈l.filterMap (es[·]?),e∈es.toList:=by
  intro l;induction l with
  | nil=>intro _;exact⟨rfl,λe he=>by cases he⟩
  | cons x l ih=>
   intro hl;obtain⟨i1,i2⟩:=ih λi hi=>hl i (Ds _ hi);have hx:=hl x Dv;have e:(x::l).filterMap (es[·]?)=es[x]::l.filterMap (es[·]?):=by rw[List.filterMap_cons];simp[hx]
   rw[e];refine⟨by rw[DP,DP,i1],λy hy=>?_⟩;rcases DD.mp hy with rfl|hy
   ·simp
   ·exact i2 y hy
 have hlt:∀i∈order.toList,i<es.size:=λi hi=>List.mem_range.mp (h.mem_iff.mp hi);obtain⟨k1,k2⟩:=key order.toList hlt;rw[Array.toList_filterMap];refine⟨?_,k2⟩;rw[←Dt,Array.toList_filterMap,k1,h.length_eq,List.length_range]
def Bj{a:Addr}{o:Obj}{es es1:Array (Int×Value)}{ep n:Nat}{t t1:SetTable}{ks1:List (List K)}{Q:Bool->Shared->Prop}(ho:s.heap.get? a=some o)(hex:o.ExactSet)(hd:o.data=.set es ep t)(hs1:es1.size=n+1)(hp1:t1.place.size=es1.size)(hdm1:t1.dummies = #[])
  (hm1:Tb.Mask t1.mask) (hfull:n*5<t1.mask*3) (hn:n<200) (hlen:ks1.length=n+1) (hall1:∀e∈es1.toList,∃b k,e.2=.ref b/\k∈ks1/\IsTupleKey knd s.heap k b)
  (h:∀h',Heap.SameBut a s.heap h'->eh knd h' a ks1->Q true { s with heap:=h' }) :
  wpAny (model P w) A (do
   storeSet a es1 t1
   if(!false && t1.tooFull)=true then do
    setRelay a (SetTable.grown (n+1))
    pure true
   else pure true) Q E s:=by
 have hline:n+1<=sizeLine:=DS (show n+1<=1000 by omega) (by decide);refine Dh (wpAny_storeSet_of ho hd ?_ (by omega));have ho1:(s.heap.update a (Obj.putSet es1 t1)).get? a=some { o with data:=.set es1 (ep+1) t1 }:=by have:=Heap.get?_update_self (Obj.putSet es1 t1) ho (by rw[putSet_of es1 t1 hd];rfl);rw[putSet_of es1 t1 hd]at this;exact this
 have hsb1:=Heap.SameBut.update s.heap a (Obj.putSet es1 t1);generalize s.heap.update a (Obj.putSet es1 t1)=h1 at ho1 hsb1;have hall2:∀e∈es1.toList,∃b k,e.2=.ref b/\k∈ks1/\IsTupleKey knd h1 k b:=λe he=>by obtain⟨b,k,z1,z2,z3⟩:=hall1 e he;exact⟨b,k,z1,z2,n6 z3 ho hd hsb1⟩
 have hfill:t1.fill=n+1:=by unfold SetTable.fill;rw[hdm1,hp1,hs1];rfl
 by_cases hq:t1.tooFull=true
 ·rw[hq];simp only[Bool.not_false,Bool.and_self,if_true];have hq':t1.mask*3<=(n+1)*5:=by unfold SetTable.tooFull at hq;rw[hfill]at hq;simpa using hq
  obtain⟨m,hm,hw,hmn,hlt⟩:∃m,Tb.Mask m/\SetTable.sizeAbove (SetTable.grown (n+1))-1=m/\n+1<=m/\(n+1)*5<m*3/\SetTable.sizeAbove (SetTable.grown (n+1))<=sizeLine:=by
   have hg:SetTable.grown (n+1)=(n+1)*4:=by unfold SetTable.grown;rw[En (by omega)]
   rw[hg];rcases hm1 with e|e|e|e<;>rw[e]at hfull hq'
   ·obtain rfl:n=4:=by omega
    exact⟨31,.inr (.inl rfl),Tb.xt,by omega,by omega,by decide +kernel⟩
   ·obtain rfl:n=18:=by omega
    exact⟨127,.inr (.inr (.inl rfl)),Tb.AF,by omega,by omega,by decide +kernel⟩
   ·obtain rfl:n=76:=by omega
    exact⟨511,.inr (.inr (.inr rfl)),Tb.xO,by omega,by omega,by decide +kernel⟩
   ·omega
  have hfit1:t1.fits es1.size=true:=by simp only[SetTable.fits,DX,beq_iff_eq,decide_eq_true_eq];refine⟨hp1,?_⟩;rw[hfill];rcases hm1 with e|e|e|e<;>omega
  obtain⟨t2,order,hrel,hp2,hd2,hm2,hperm⟩:=Tb.yJ t1 (hashes:=es1.map (·.1)) hm hw (by rw[Array.size_map];omega);rw[Array.size_map]at hp2 hperm;obtain⟨r1,r2⟩:=Bl hperm;refine Dh ?_;unfold setRelay;refine Dh (Ei (s:={ s with heap:=h1 }) ho1 rfl hfit1 ?_);dsimp only;rw[En (Nat.not_lt.mpr hlt.2),hrel];refine Dh ?_;show wpAny _ _ (do
   if(order.filterMap (es1[·]?)).size != es1.size then unsupported "internal:set-table-lost-an-element"
   pure (order.filterMap (es1[·]?),t2)) _ _ _
  rw[r1];simp only[bne_self_eq_false,Ed,if_false];refine Di ?_;dsimp only;refine wpAny_storeSet_of (s:={ s with heap:=h1 }) ho1 rfl ?_ (by rw[r1];omega);have ho2:(h1.update a (Obj.putSet (order.filterMap (es1[·]?)) t2)).get? a=some { o with data:=.set (order.filterMap (es1[·]?)) (ep+1+1) t2 }:=by have:=Heap.get?_update_self (Obj.putSet (order.filterMap (es1[·]?)) t2) ho1 (by rw[putSet_of _ _ (o:={ o with data:=.set es1 (ep+1) t1 }) rfl];rfl);rw[putSet_of _ _ (o:={ o with data:=.set es1 (ep+1) t1 }) rfl]at this;exact this
  have hsb2:=Heap.SameBut.update h1 a (Obj.putSet (order.filterMap (es1[·]?)) t2);refine Di (h _ (hsb1.trans hsb2) ⟨_,_,_,t2,ho2,hex,rfl,by rw[r1];exact hp2,hd2,by rw[hm2];exact hm,by rw[r1,hm2,hs1];exact hlt.1,by rw[r1,hs1,hlen],λe he=>?_⟩);obtain⟨b,k,z1,z2,z3⟩:=hall2 e (r2 e he);exact⟨b,k,z1,z2,n6 z3 ho1 rfl hsb2⟩
 ·have hq0:t1.tooFull=false:=by simpa using hq
  rw[hq0];simp only[Bool.and_false,Ed,if_false];have hq':(n+1)*5<t1.mask*3:=by unfold SetTable.tooFull at hq0;rw[hfill]at hq0;simpa using hq0
  exact Di (h h1 hsb1 ⟨_,es1,_,t1,ho1,hex,rfl,hp1,hdm1,hm1,by rw[hs1];exact hq',by rw[hs1,hlen],hall2⟩)
def xX{a b:Addr}{k:List K}{ks:List (List K)}{hsh:Int}{Q:Bool->Shared->Prop}(hu:A.units<cLine)(hk:IsTupleKey knd s.heap k b)(hS:eh knd s.heap a ks)(hnew:k∉ks)(hsz:ks.length<200)
  (h:∀h',Heap.SameBut a s.heap h'->eh knd h' a (k::ks)->Q true { s with heap:=h' }):wpAny (model P w) A (setAddHashed a (.ref b) hsh) Q E s:=by
 obtain⟨o,es,ep,t,ho,hex,hd,hp,hdm,hm,hfull,hlen,hall⟩:=hS;have hle:es.size<=t.mask:=by omega
 have hf:t.fits es.size=true:=by simp only[SetTable.fits,DX,beq_iff_eq,decide_eq_true_eq];refine⟨hp,?_⟩;unfold SetTable.fill;rw[hdm,hp];simpa using hle
 obtain⟨j0,hj0,hs0⟩:=Tb.BN hdm (by rw[hp];exact hle);obtain⟨N,hN,eN⟩:=Tb.CS hm hj0 hsh;have hall':∀e∈es.toList,∃b' k',e.2=.ref b'/\IsTupleKey knd s.heap k' b'/\k'≠k:=λe he=>by obtain⟨b',k',h1,h2,h3⟩:=hall e he;exact⟨b',k',h1,h3,λz=>hnew (z ▸ h2)⟩
 unfold setAddHashed setAddHashedIn;refine wpAny_holding (Dh (Ei ho hd hf ?_));dsimp only;have hsc:byScan (.ref b) es=false:=rfl;rw[hsc];simp only[Ed,if_false];unfold setSearch;have hturn:10*SetTable.turns t.mask<100000:=by unfold SetTable.turns;rcases hm with e|e|e|e<;>rw[e]<;>decide
 refine Dh (BQ hu hk ho hd hf hm hdm hall' (λj=>?_) N 100000 none (by omega) hN rfl (by show t.slot (Tb.bZ t N (t.probeStart hsh)).j=_;rw[eN];exact hs0));dsimp only;refine Dh (Ei ho hd hf ?_);dsimp only;have hput:(t.put j).1.place.size=es.size+1/\(t.put j).1.dummies = #[]/\(t.put j).1.mask=t.mask:=by
  refine⟨?_,?_,rfl⟩
  ·show(SetTable.insertAt t.place (SetTable.below t.place j) j).size=_;rw[Tb.my,hp]
  ·show(if SetTable.has t.dummies j=true then _ else t.dummies) = #[];rw[hdm,Tb.tm];rfl
 have hins:∀e∈(SetTable.insertAt es (t.put j).2 (hsh,Value.ref b)).toList,∃b' k',e.2=.ref b'/\k'∈k::ks/\IsTupleKey knd s.heap k' b':=λe he=>by
  rcases Tb.wO he with rfl|he
  ·exact⟨b,k,rfl,Dv,hk⟩
  ·obtain⟨b',k',z1,z2,z3⟩:=hall e he;exact⟨b',k',z1,Ds _ z2,z3⟩
 have fin:∀c:Bool,wpAny (model P w) A (do
   storeSet a (SetTable.insertAt es (t.put j).2 (hsh,Value.ref b)) (if c=true then(t.put j).1 else{ (t.put j).1 with plain:=false })
   if(!false && (if c=true then(t.put j).1 else{ (t.put j).1 with plain:=false }).tooFull)=true then do
    setRelay a (SetTable.grown (es.size+1))
    pure true
   else pure true) Q E s:=λc=>by
  refine Bj (ks1:=k::ks) ho hex hd (Tb.my _ _ _) ?_ ?_ ?_ ?_ (by omega) (by rw[DP,hlen]) hins h
  ·rw[Tb.my];cases c<;>exact hput.1
  ·cases c<;>exact hput.2.1
  ·cases c<;>exact hm
  ·cases c<;>exact hfull
 cases hpl:(t.put j).1.plain
 ·simp only[Ed,if_false];exact Dh (Di (fin true))
 ·simp only[if_true];exact Dh (Bp hk fin)
end
section
variable {P:Program} {w:World} {A:Around} {K:Type} [DecidableEq K] {knd:KeyKind P w K} {I:Addr} {fp wr:List Addr} {G:Array GenState->Array GenState->Prop} {n:Nat} {Pz:Nat->Value->Prop} {St:Nat->Shared->Prop}
def eh.moved{h h':Heap}{a:Addr}{ks:List (List K)}{wr:List Addr}(hS:eh knd h a ks)(hk:∀b o,b∉wr->h.get? b=some o->h'.get? b=some o)(ha:a∉wr)(hw:∀b∈wr,∀o,h.get? b=some o->∃vs,o.data=.fields vs):eh knd h' a ks:=by obtain⟨o,es,ep,t,ho,hex,hd,h1,h2,h3,h4,h5,hall⟩:=hS;refine⟨o,es,ep,t,hk a o ha ho,hex,hd,h1,h2,h3,h4,h5,λe he=>?_⟩;obtain⟨b,k,z1,z2,o',items,m,ho',hc,hd',hi⟩:=hall e he;refine⟨b,k,z1,z2,o',items,m,hk b o' (λhb=>?_) ho',hc,hd',hi⟩;obtain⟨vs,hv⟩:=hw b hb o' ho';rw[hd']at hv;cases hv
def Bs(W:WalksS P w A.in1 I fp wr G n Pz St)(S:Addr)(hS:S∉fp)(hu:A.in1.units<cLine)(bs:List Addr)(kk:List (List K))(hnk:kk.length=n)(hnd:kk.Nodup)(hsz:n<200)
  (hval:∀i v,Pz i v->∃b,v=.ref b/\bs[i]?=some b) (hwr:∀i s,St i s->∀b∈wr,∀o,s.heap.get? b=some o->∃vs,o.data=.fields vs) {R:Result->Shared->Prop} :
  ∀(m i:Nat) (s:Shared),n-i=m->i<=n->St i s->eh knd s.heap S (kk.take i).reverse->(∀(j:Nat) (b:Addr) (k:List K),bs[j]?=some b->kk[j]?=some k->IsTupleKey knd s.heap k b) →
   (∀s',Moved (S::wr) G s s'->eh knd s'.heap S kk.reverse->R (.ok (.ret .none)) s') →
   codeAny (model P w) A (.builtin "set.update.loop" ⟨[.ref S,.ref I],[]⟩) R s:=by
 have hSw:S∉wr:=λz=>hS (W.sub _ z);have more:∀b∈wr,b∈S::wr:=λb z=>Ds _ z;intro m;induction m with
 | zero=>
  intro i s hm hi hst hset hkeys hR;obtain rfl:i=n:=by omega
  refine codeAny_builtin F.entry_set_update_loop ?_;rw[Around.under_plainId F.plain_set_update_loop _];show wpAny _ A.in1 (pyNext (.ref I) >>= _) _ _ s;refine Dh (W.done s _ _ hst λs' mv=>?_);rw[←hnk,DQ]at hset;exact Di (hR s' (mv.mono more) (hset.moved mv.heap hSw (hwr _ s hst)))
 | succ m ih=>
  intro i s hm hi hst hset hkeys hR;have hlt:i<n:=by omega
  refine codeAny_builtin F.entry_set_update_loop ?_;rw[Around.under_plainId F.plain_set_update_loop _];show wpAny _ A.in1 (pyNext (.ref I) >>= _) _ _ s;refine Dh (W.item i s _ _ hlt hst λv s' hP hst' mv=>?_);obtain⟨b,rfl,hb⟩:=hval i v hP;have hki:kk[i]?=some kk[i]:=Dp (by omega);have hset':=hset.moved mv.heap hSw (hwr _ s hst);have hkeys':∀(j:Nat) (b:Addr) (k:List K),bs[j]?=some b->kk[j]?=some k->IsTupleKey knd s'.heap k b:=λj b k e1 e2=>by obtain⟨o',items,q,ho',hc,hd',hi'⟩:=hkeys j b k e1 e2;refine⟨o',items,q,mv.heap b o' (λhbw=>?_) ho',hc,hd',hi'⟩;obtain⟨vs,hv⟩:=hwr _ s hst b hbw o' ho';rw[hd']at hv;cases hv
  show wpAny _ A.in1 (holding [Value.ref b] (setAdd S (.ref b)) >>= _) _ _ s';refine Dh (wpAny_holding ?_);unfold setAdd;refine wpAny_holding (Dh (wpAny_pyHash_tuple hu (hkeys' i b _ hb hki) ?_));have hnew:kk[i]∉(kk.take i).reverse:=by rw[List.mem_reverse];intro z;obtain⟨q,hq,e⟩:=List.mem_iff_getElem.mp z;rw[Eh]at hq;rw[List.getElem_take]at e;have:=(List.getElem_inj hnd).mp e;omega
  have htk:(kk.take (i+1)).reverse=kk[i]::(kk.take i).reverse:=by rw[List.take_add_one,hki,List.reverse_append];rfl
  refine xX (s:={ s' with toks:=s'.toks+(kk[i].length+1) }) hu (hkeys' i b _ hb hki) hset' hnew (by rw[List.length_reverse,Eh];omega) λh' sb hset2=>?_;obtain⟨oS,esS,epS,tS,hoS,_,hdS,_⟩:=id hset';refine Di ⟨plainId_quiet F.plain_set_update_loop _,ih (i+1) _ (by omega) hlt (W.frame _ s' _ _ hst' (Nat.le_add_right _ _) λc hc o e=>?_) (by rw[htk];exact hset2) (λj c k e1 e2=>n6 (hkeys' j c k e1 e2) hoS hdS sb) λs'' mv2 hS2=>?_⟩
  ·rw[sb.2 c (λz:c=S=>hS (z ▸ hc))];exact e
  ·refine hR s'' (Moved.trans W.gtrans ((mv.mono more).then_heap (Nat.le_add_right _ _) λc o hc e=>?_) mv2) hS2;rw[sb.2 c (λz:c=S=>hc (by rw[z];exact Dv))];exact e
end
end L2.Og
namespace L2.Og
open PySem PySem.Spec PyProof.Rows
section
variable {P:Program} {w:World} {A:Around} {E:Value->Shared->Prop} {s:Shared} {K:Type} [DecidableEq K] {knd:KeyKind P w K}
abbrev eU(led:Bool):Obj:={ cls:=.type "set",dict:=none,data:=.set #[] 0 (.fresh 0 0 led) }
def pW(knd:KeyKind P w K)(s:Shared)(kk:List (List K))(h':Heap):Prop:=
 eh knd h' s.heap.objs.size kk.reverse/\∀b o,b<s.heap.objs.size->s.heap.get? b=some o->h'.get? b=some o
def BL:isSubtype (.type "tuple") (.type "frozenset")=pure false:=by
 rw[isSubtype_type]
 kernel_rfl
def B3{t:Addr}{ys:Array Value}{bs:List Addr}{kk:List (List K)}{Q:Value->Shared->Prop}(hA:A.handled=none)(hu:A.units+5<cLine)(gt:s.heap.IsTuple t ys)(hb:ys.toList=bs.map Value.ref)
  (hn:kk.length=ys.size) (hnd:kk.Nodup) (hz:ys.size<200) (hkey:∀(j:Nat) (b:Addr) (k:List K),bs[j]?=some b->kk[j]?=some k->IsTupleKey knd s.heap k b)
  (h:∀(h':Heap) (tk:Nat),pW knd s kk h'->Q (.ref s.heap.objs.size) { s with heap:=h',toks:=tk }):wpAny (model P w) A (call (.type "set") [.ref t]) Q E s:=by
 have x1:=F.called_set.notType;have x2:=F.called_set.canCreate;have x3:=F.typeCall_set_1 (.ref t);have x4:=F.called_set.made;have x5:=F.called_set.sub;obtain⟨c,tl,x6⟩:=F.called_set.mro;refine wpAny_call (codeAny_of_tree ?_);show wpAny _ _ (callAny (.type "set") _) _ _ _;refine Di ⟨Code.quiet_builtin _ (by decide +kernel),codeAny_builtin F.entry_type_call ?_⟩;rw[Around.under_plain (weight_type_call_type "set" [.ref t] []) rfl]
 repeat (any_goals (first|assumption|wp_step))
 refine codeAny_mono (code_set_new_1 (.ref t) (E:=E) (Q₁:=λv s1=>∃led,v=.ref s.heap.objs.size/\s1={ s with heap:=s.heap.push (eU led) }) λled=>⟨led,rfl,rfl⟩) λr s1 hr=>?_;cases r with
 | error e=>exact hr
 | ok fl=>
  cases fl with
  | ret v=>
   obtain⟨led,rfl,rfl⟩:=hr;have gS:(s.heap.push (eU led)).get? s.heap.objs.size=some (eU led):=Dl _ rfl;have hT:Shared.TypeIs { s with heap:=s.heap.push (eU led) } (.ref s.heap.objs.size) "set":=⟨_,gS,rfl⟩;have x7:=F.called_set.init.lookup;have x8:=F.called_set.init.bind (.ref s.heap.objs.size)
   repeat (any_goals (first|assumption|wp_step))
   refine codeAny_mono (codeAny_call_builtin (R:=wants (λr s2=>r=.none/\∃h' tk,s2={ s with heap:=h',toks:=tk }/\pW knd s kk h') E) F.called_set.init.plain F.entry_set_init (check_set_init_1 hT ?_)) λr2 s2 hr2=>?_
   ·have g1:(s.heap.push (eU led)).IsTuple t ys:=gt.push _;have hlt:t<s.heap.objs.size:=by obtain⟨o,ho,_⟩:=gt;exact Dm ho
    obtain⟨ol,hol,hcl,nl,hdl⟩:=id g1;obtain⟨c0,d0,dt,sl⟩:=ol;simp only at hcl hdl;subst hcl hdl;have y1:=F.sub_tuple_set;have y2:=BL;have y3:(Value.type "tuple" == Value.type "dict")=false:=by decide
    unfold Builtin.«set.__init__» noKeywords Builtin.Frozenset.updateFrom;generalize hit:pyIter=PI
    wp_walk
    subst hit;refine wpAny_pyIter_tuple g1 ?_;refine Dh (wpAny_runValue ?_);have e1:(s.heap.push (eU led)).objs.size=s.heap.objs.size+1:=Heap.size_push _ _;have hA3:A.in1.in1.in1.handled=none:=by simp[hA]
    have hne:t≠(s.heap.push (eU led)).objs.size:=by rw[e1];exact DH (Nat.lt_succ_of_lt hlt)
    have hSf:s.heap.objs.size∉[(s.heap.push (eU led)).objs.size,t]:=by
     intro z;rcases DD.mp z with z|z
     ·rw[e1]at z;exact DH (Nat.lt_succ_self _) z
     ·exact Nat.ne_of_gt hlt (Dz.mp z)
    have hbs:∀i:Nat,ys[i]?=(bs[i]?).map Value.ref:=λi=>by rw[←Array.getElem?_toList,hb,Dr]
    refine Bs (knd:=knd) ((Walks.tuple hA3 _ t hne ys).toS) s.heap.objs.size hSf (by simp only[Around.in1_units];omega) bs kk hn hnd hz (λi v hv=>?_) (λi s' hs b hb' o ho=>?_) (ys.size-0) 0 _ (by omega) (Nat.zero_le _) ⟨⟨_,Dl _ rfl,rfl,rfl⟩,g1.push _⟩ ⟨eU led,#[],0,_,Dk _ gS,⟨rfl,rfl,rfl⟩,rfl,rfl,rfl,  .inl rfl,(show 0*5<7*3 by decide),rfl,λe he=>by simp at he⟩ (λj b k e1 e2=>?_) λs' mv hS'=>?_
    ·have hv':ys[i]?=some v:=hv;rw[hbs i]at hv';obtain⟨b,e,rfl⟩:=DA.mp hv';exact⟨b,rfl,e⟩
    ·cases Dz.mp hb';obtain⟨o',ho',_,hd'⟩:=hs.1;rw[ho']at ho;cases ho;exact⟨_,hd'⟩
    ·obtain⟨o,items,q,ho,r⟩:=hkey j b k e1 e2;exact⟨o,items,q,Dk _ (Dk _ ho),r⟩
    ·obtain⟨h',g',d',tk',os'⟩:=s';have q1:g'=s.gens:=mv.gens;have q2:d'=s.drawn:=mv.drawn;have q3:os'=s.os:=mv.os;subst q1 q2 q3;show wpAny _ _ _ _ _ _;refine Di ?_;show wpAny _ _ (ret Value.none) _ _ _;refine Di ⟨rfl,h',tk',rfl,hS',λb o hb e=>mv.heap b o (λz=>?_) (Dk _ (Dk _ e))⟩;rcases DD.mp z with z|z
     ·exact DH hb z
     ·have z:=Dz.mp z;rw[e1]at z;exact DH (Nat.lt_succ_of_lt hb) z
   ·cases r2 with
    | error e=>exact hr2
    | ok f2=>
     cases f2 with
     | ret r=>
      obtain⟨rfl,h',tk,rfl,hS'⟩:=hr2
      repeat (any_goals (first|assumption|wp_step))
      exact h _ _ hS'
     | _=>exact hr2.elim
  | _=>exact hr.elim
end
end L2.Og
namespace L2.Og
open PySem PySem.Spec PyProof.Rows
def gQ(a:Addr)(n:Nat):HO:=.ext λh=>∃o es ep t,h.get? a=some o/\o.ExactSet/\o.data=.set es ep t/\t.fits es.size=true/\es.size=n
def zI{P:Program}{w:World}{H:Hp}{h:Heap}{a:Addr}{ks:List (List Key)}(S:eh (bV P w) h a ks):bj P w H h a (gQ a ks.length):=by
 obtain⟨o,es,ep,t,ho,hex,hd,hp,hdm,hm,hfull,hlen,_⟩:=S;refine⟨⟨o,es,ep,t,ho,hex,hd,?_,hlen⟩,⟨o,ho⟩,λh1 h2 z k=>?_⟩
 ·simp only[SetTable.fits,DX,beq_iff_eq,decide_eq_true_eq];refine⟨hp,?_⟩;unfold SetTable.fill;rw[hdm,hp];have:es.size<=t.mask:=by omega
  simpa using this
 ·obtain⟨o',es',ep',t',ho',r⟩:=z;exact⟨o',es',ep',t',k _ ho',r⟩
def bL(H:Hp)(p:Addr)(kk:List (List Key)):Prop:=∃bs:List Addr,H p=some (.tup (bs.map V.ref))/\bs.length=kk.length/\∀(j:Nat) (b:Addr) (k:List Key),bs[j]?=some b->kk[j]?=some k->H b=some (.tup (k.map kV))
def uO:∀{bs:List Addr} {us:List Value},Vals (bs.map V.ref) us->us=bs.map Value.ref
 | [],_,.nil=>rfl
 | b::bs,_,.cons r t=>by rw[List.map_cons,←uO (bs:=bs) t];exact congrArg (· :: _) r
section
variable {X:Cx}
def ui:List V->Hp->VK->Prop:=λxs H Q=>∃p kk,xs=[.ref p]/\bL H p kk/\kk.Nodup/\kk.length<200/\∀l,H l=none->Q (.ref l) (upd H l (gQ l kk.length))
def call_setT{k:Nat}(hr:Room k X.A):b9 X (.type "set") ui:=by
 intro pins s σ H xs us Q I r h;obtain⟨p,kk,rfl,⟨bs,h1,h2,h3⟩,hnd,hz,q⟩:=h;obtain⟨u,rfl,rx⟩:=vals1 r;cases rx;obtain⟨_,its,rv,gt⟩:=I.hok p _ h1;have ei:=uO rv;subst ei;have hu:=hr.units;have hA:=hr.hd;refine B3 (knd:=bV X.prog X.w) (kk:=kk) (bs:=bs) hA (by omega) (show s.heap.IsTuple p _ from gt) rfl (by simp[h2]) hnd (by simp[h2];exact hz) (λj b k e1 e2=>?_) λh' tk hm=>?_
 ·obtain⟨_,is,rk,o,ho,hc,n,hd⟩:=I.hok b _ (h3 j b k e1 e2);exact⟨o,_,n,ho,hc,hd,nS rk⟩
 ·have hok:=zI (H:=upd H s.heap.objs.size (gQ s.heap.objs.size kk.length)) hm.1;rw[List.length_reverse]at hok;exact⟨.ref s.heap.objs.size,_,I.laid (t':=tk) (λb o e=>hm.2 b o (Dm e) e) (DI _) hok,rfl,q _ (I.hok.fresh (DI _))⟩
def vW:List V->Hp->VK->Prop:=λxs H Q=>∃p n,xs=[.ref p]/\H p=some (gQ p n)/\n<200/\Q (.int n) H
def call_lenSet:b9 X (.builtin "len") vW:=by intro pins s σ H xs us Q I r h;obtain⟨p,n,rfl,hp,hn,q⟩:=h;obtain⟨u,rfl,rx⟩:=vals1 r;cases rx;obtain⟨⟨o,es,ep,t,ho,hex,hd,hf,hs⟩,_⟩:=I.hok p _ hp;refine call_len_set ho hex hd hf (by omega) ⟨.int n,H,I.tok _,⟨s.toks+1,by rw[hs]⟩,q⟩
def rd_setOf{H:Hp}{Q:VK}{p:Addr}{kk:List (List Key)}(h:bL H p kk)(hnd:kk.Nodup)(hz:kk.length<200)(q:∀l H',Ext H H'->H' l=some (gQ l kk.length)->Q (.ref l) H'):ui [.ref p] H Q:=
 ⟨p,kk,rfl,h,hnd,hz,λl hl=>q l _ (bJ hl) aJ⟩
def rd_lenSet{H:Hp}{Q:VK}{p:Addr}{n:Nat}(h:H p=some (gQ p n))(hn:n<200)(q:Q (.int n) H):vW [.ref p] H Q:=⟨p,n,rfl,h,hn,q⟩
end
end L2.Og
namespace L2.Ti
open PySem PySem.Spec PyProof.Rows
section
variable {P:Program} {w:World} {A:Around} {E:Value->Shared->Prop} {s:Shared}
end
section
variable {X:Cx}
end
end L2.Ti
namespace L2
open PySem PySem.Spec PyProof.Rows
section
variable {X:Cx} {pins:List (Addr×Obj)} {σ:St} {H:Hp} {s:Shared}
def iu{i:Nat}{y:Str}{py:Pos}{elt tg iter:Expr}{ifs:List Expr}{sc:Scope}{pos spos:Pos}(own:List Str)(js:List Nat){wi:TI}{g:TG}{tc:TT}{te:TE}(hN:X.N.Nodup)(hi':X.N[i]?=some y)(hx:Loc X.env.scope y)
  (hi:PI X tg iter wi) (hg:∀z,PG (cg X sc own js z) tg g) (ht:∀z,iF (cg X sc own js z) ifs tc)
  (he:∀z,PE (cg X sc own js z) elt te) (hsw:swapsWith (.ListComp elt [⟨tg,iter,ifs,0⟩] sc pos) (some (.Name y py)) spos.line X.env=pure true:=by rfl) (hc:X.calm=true:=by rfl) (hk:sc.kind=.function:=by rfl) (hb:dw sc X.env.scope=true:=by rfl) (hj:jr sc X.N js=true:=by rfl)
  (hs:∀x,foldedSetIterable iter X.env x=pure x:=by intro _;rfl) (hf:X.fn y=true\/X.env.scope.names.lookup y=some .local:=by first|exact .inl rfl|exact .inr rfl|assumption) :
  PS X (.Assign [.Name y py] (.ListComp elt [⟨tg,iter,ifs,0⟩] sc pos) spos) (jQ (o5 own.length js wi g tc te) (iY i)):=by
 intro pins s σ H D' I h;rw[exec_Assign_Name_used _ _ _ _ hsw];refine Dh (wpAny_standAt (Dh ?_));show wpAny _ X.A (do let _ ←comprehension (.ListComp elt [⟨tg,iter,ifs,0⟩] sc pos) sc X.env _ (newList []) false (eval iter X.env) (some (assign (.Name y py) X.env))) _ _ s;refine Dh (wpAny_mono (wpAny_comprehension_free (use:=some (assign (.Name y py) X.env)) (Q:=λ_ s'=>SP X pins D' .next s') rfl hs (nj λp hp hf=>I.ok.has p.1 (j4 hb hp hf)) hk (λp hp hl=>pZ hb hp hl)
  (aw (hi pins s σ H _ I h) λv s1 h1=>aw h1 λitv s2 h2=>?_)) (λ_ s' hq=>Di (Di hq)) λ_ _ e=>e)
 obtain⟨it,fp,tn,J,H2,e,I2,T,st2,f2,W,w0,turn⟩:=h2;subst e;refine vn (Q:=λx H1=>iY i x σ H1 D'.nx) (RR:=λacc C=>compPost (model X.prog X.w) X.A X.xe (some (assign (.Name y py) X.env)) (λ_ s'=>SP X pins D' .next s') acc C) hk hb hj (λ_=>hg _) (λ_=>ht _) (λ_=>he _) I2 (λC=>Turn.at_ (Y:=cg X sc own js ⟨_,_,_,C⟩) T hc) st2 f2 w0 turn ?_;intro D C s' ys H' nD I' hC ⟨m,hm⟩ hCs q;show wpAny _ X.A (assign (.Name y py) X.env (.ref D)) _ _ _;refine wpAny_assign_Name (qR I' hN hi' hx (v:=.ref D) rfl (λs'' I'' ⟨a,hsb,ha⟩=>?_) hf);obtain⟨f0,f1,f2,f3,f4,f5⟩:=hC;have hac:a≠C:=by
  rcases ha with rfl|ha
  ·exact Ne.symm f1
  ·exact f4 y a ha
 refine⟨m,hm.sameBut hsb (Ne.symm hac),λh' hs'=>?_⟩;exact⟨_,_,I''.turned (t':=s''.toks) (it:=C) (λb o hb' e=>(hs'.2 b hb').trans e) f0 f1 f3 f4 f5,q⟩
end
section
variable {X:Cx}
end
end L2
namespace St
def fG(lo hi:Int)(xs:List Int):Prop:=xs.Pairwise (· < ·)/\∀x∈xs,lo<=x/\x<hi
structure Ok(b s:Int)(o a:List Int):Prop where
 hb:0<=b
 hs:1<=s
 ho:fG 0 b o
 ha:fG b (b+s) a
def mem(b s:Int)(o a:List Int)(x:Int):Bool:=if x<b then o.contains x else a.contains (b+(x-b) % s)
section
variable {b s:Int} {o a:List Int}
def jT(x:Int)(h:x<b):mem b s o a x=o.contains x:=Eo h
def ia(x:Int)(h:b<=x):mem b s o a x=a.contains (b+(x-b) % s):=En (by omega)
end
end St
namespace St
def aP(f:Nat->Bool)(b d:Nat):Prop:=∀x,b<=x->f (x+d)=f x
def aP.mul{f:Nat->Bool}{b d:Nat}(h:aP f b d):∀k x,b<=x->f (x+k*d)=f x
 | 0,x,hx=>by simp
 | k+1,x,hx=>by rw[Nat.succ_mul,←Nat.add_assoc,h _ (by omega),h.mul k x hx]
def aP.mono{f:Nat->Bool}{b c d:Nat}(h:aP f b d)(hc:b<=c):aP f c d:=λx hx=>h x (by omega)
def aP.times{f:Nat->Bool}{b d:Nat}(h:aP f b d)(k:Nat):aP f b (k*d):=λx hx=>h.mul k x hx
def aP.down{f:Nat->Bool}{b s b' d:Nat}(h:aP f b s)(hs:1<=s)(h':aP f b' d):aP f b d:=λx hx=>by have e1:=h.mul b' (x+d) (by omega);have e2:=h.mul b' x hx;rw[←e1,←e2,show x+d+b'*s=(x+b'*s)+d by omega];exact h' _ (by have:b'*1<=b'*s:=Nat.mul_le_mul_left _ hs;omega)
def aP.mod{f:Nat->Bool}{b s d:Nat}(h:aP f b s)(h':aP f b d):aP f b (s % d):=λx hx=>by have e:=(h'.times (s / d)) (x+s % d) (by omega);rw[←e,show x+s % d+s / d*d=x+s by have:=Nat.div_add_mod s d;rw[Nat.mul_comm]at this;omega];exact h x hx
structure Least(f:Nat->Bool)(st low:Nat):Prop where
 pos:1<=st
 per:aP f low st
 step:∀d b,1<=d->aP f b d->st<=d
 base:∀b,aP f b st->low<=b
def Least.one{f:Nat->Bool}{st low st' low':Nat}(h:Least f st low)(h':Least f st' low'):st=st'/\low=low':=by have e:st=st':=Nat.le_antisymm (h.step st' low' h'.pos h'.per) (h'.step st low h.pos h.per);subst e;exact⟨rfl,Nat.le_antisymm (h.base low' h'.per) (h'.base low h.per)⟩
def Alike(f:Nat->Bool)(b s d:Nat):Prop:=s % d=0/\∀i,i+d<s->f (b+i+d)=f (b+i)
def Alike.per{f:Nat->Bool}{b s d:Nat}(h:aP f b s)(hs:1<=s)(hd:1<=d)(a:Alike f b s d):aP f b d:=by
 obtain⟨q,rfl⟩:∃q,s=d*q:=⟨s / d,by have:=Nat.div_add_mod s d;rw[a.1]at this;omega⟩;have hq:1<=q:=by
  cases q with
  | zero=>simp at hs
  | succ q=>omega
 have inner:∀k i,i<d->k<q->f (b+i+k*d)=f (b+i):=by
  intro k;induction k with
  | zero=>intro i _ _;simp
  | succ k ih=>
   intro i hi hk;have e:=a.2 (i+k*d) (by have:(k+1+1)*d<=q*d:=Nat.mul_le_mul_right _ (by omega);rw[Nat.succ_mul,Nat.succ_mul,Nat.mul_comm q d]at this;omega)
   rw[show b+i+(k+1)*d=b+(i+k*d)+d by rw[Nat.succ_mul];omega,e,←Nat.add_assoc];exact ih i hi (by omega)
 have all:∀n,f (b+n)=f (b+n % d):=λn=>by
  have e1:f (b+n)=f (b+n % (d*q)):=by have:=h.mul (n / (d*q)) (b+n % (d*q)) (by omega);rw[←this];congr 1;have:=Nat.div_add_mod n (d*q);rw[Nat.mul_comm (d*q)]at this;omega
  rw[e1];have hlt:n % (d*q)<d*q:=Nat.mod_lt _ (by omega);have e2:n % (d*q)=n % (d*q) % d+n % (d*q) / d*d:=by have:=Nat.div_add_mod (n % (d*q)) d;rw[Nat.mul_comm]at this;omega
  have e3:n % (d*q) % d=n % d:=Nat.mod_mul_right_mod n d q;have e4:n % (d*q) / d<q:=Nat.div_lt_of_lt_mul hlt;rw[e2,←Nat.add_assoc,inner _ _ (Nat.mod_lt _ (by omega)) e4,e3]
 intro x hx;obtain⟨n,rfl⟩:∃n,x=b+n:=⟨x-b,by omega⟩;rw[Nat.add_assoc,all (n+d),all n,Nat.add_mod_right]
def aP.alike{f:Nat->Bool}{b s d:Nat}(h:aP f b d)(hm:s % d=0):Alike f b s d:=⟨hm,λi _=>h (b+i) (by omega)⟩
def yg{f:Nat->Bool}{b s d:Nat}(h:aP f b s)(hs:1<=s)(hd:1<=d)(a:Alike f b s d)(first:∀e,1<=e->e<d->¬Alike f b s e):aP f b d/\∀e b',1<=e->aP f b' e->d<=e:=by
 have pd:=a.per h hs hd;refine⟨pd,λe b' he pe=>?_⟩;have pe':aP f b e:=h.down hs pe;have go:∀n e,e<=n->1<=e->aP f b e->d<=e:=by
  intro n;induction n with
  | zero=>intro e h1 h2;omega
  | succ n ih=>
   intro e h1 h2 pe;by_cases hz:s % e=0
   ·rcases Ee e d with hlt|hge
    ·exact absurd (pe.alike hz) (first e h2 hlt)
    ·exact hge
   ·have hlt:s % e<e:=Nat.mod_lt _ (by omega);have:=ih (s % e) (by omega) (by omega) (h.mod pe);omega
 exact go e e (DI _) he pe'
def xY{f:Nat->Bool}{b s d low:Nat}(h:aP f b s)(hs:1<=s)(hd:1<=d)(a:Alike f b s d)(first:∀e,1<=e->e<d->¬Alike f b s e)(hl:low<=b)
  (down:∀x,low<=x->x<b->f x=f (x+d)) (stop:low=0\/f (low-1)≠f (low-1+d)):Least f d low:=by
 obtain⟨pd,hmin⟩:=yg h hs hd a first
 refine⟨hd,λx hx=>?_,hmin,λb' pb=>?_⟩
 ·rcases Ee x b with hlt|hge
  ·exact(down x hx hlt).symm
  ·exact pd x hge
 ·rcases stop with h0|hne
  ·omega
  ·rcases Ee b' low with hlt|hge
   ·exact absurd (pb (low-1) (by omega)).symm hne
   ·exact hge
def row(f:Nat->Bool)(lo n:Nat):List Int:=((Ek n).filter λi=>f (lo+i)).map λi=>((lo+i:Nat):Int)
end St
namespace St
def jv(f:Nat->Bool)(lo n:Nat):row f lo (n+1)=row f lo n++if f (lo+n)then[((lo+n:Nat):Int)]else[]:=by unfold row;rw[List.range_succ,List.filter_append,DF];congr 1;by_cases h:f (lo+n)=true<;>simp[h]
def wI(f:Nat->Bool)(lo n:Nat):(row f lo n).length<=n:=by unfold row;rw[Dn];exact DS (List.length_filter_le _ _) (by simp)
def fW{f:Nat->Bool}{lo n:Nat}{x:Int}:x∈row f lo n↔(lo:Int)<=x/\x<lo+n/\f x.toNat=true:=by
 unfold row;simp only[List.mem_map,List.mem_filter,List.mem_range];constructor
 ·rintro⟨i,⟨hi,hf⟩,rfl⟩;refine⟨by omega,by omega,?_⟩;rw[DB];exact hf
 ·rintro⟨h1,h2,h3⟩;refine⟨x.toNat-lo,⟨by omega,?_⟩,by omega⟩;rw[show lo+(x.toNat-lo)=x.toNat by omega];exact h3
def nW(f:Nat->Bool)(lo n:Nat):fG lo (lo+n) (row f lo n):=by refine⟨?_,λx hx=>⟨(fW.mp hx).1,(fW.mp hx).2.1⟩⟩;unfold row;rw[List.pairwise_map];refine List.Pairwise.imp (R:=λa b=>a<b) (λh=>by omega) ?_;exact List.Pairwise.filter _ List.pairwise_lt_range
def uT{f:Nat->Bool}{lo n:Nat}{x:Int}(h1:(lo:Int)<=x)(h2:x<lo+n):(row f lo n).contains x=f x.toNat:=by
 rw[DW,List.contains_iff_mem,fW];constructor
 ·exact λh=>h.2.2
 ·exact λh=>⟨h1,h2,h⟩
def Bb(f:Nat->Bool)(b s:Nat)(hs:1<=s):Ok b s (row f 0 b) (row f b s):=
 ⟨by omega,by omega,by have:=nW f 0 b;simpa using this,nW f b s⟩
def Cw{f:Nat->Bool}{b s:Nat}(hs:1<=s)(h:aP f b s)(x:Nat):mem b s (row f 0 b) (row f b s) x=f x:=by
 by_cases hx:x<b
 ·rw[jT _ (by omega),uT (by omega) (by omega),DB]
 ·rw[ia _ (by omega)];have r0:0<=((x:Int)-b) % s:=Int.emod_nonneg _ (by omega);have r1:((x:Int)-b) % s<s:=Int.emod_lt_of_pos _ (by omega);rw[uT (by omega) (by omega)];have e:((b:Int)+((x:Int)-b) % s).toNat=b+(x-b) % s:=by
   have:((x:Int)-b) % s=(((x-b) % s:Nat):Int):=by rw[show (x:Int)-b=((x-b:Nat):Int) by omega];rfl
   omega
  rw[e];have:=h.mul ((x-b) / s) (b+(x-b) % s) (by omega);rw[←this];congr 1;have:=Nat.div_add_mod (x-b) s;rw[Nat.mul_comm]at this;omega
def fn(b s:Int)(o a:List Int)(n:Nat):Bool:=mem b s o a n
def Ag{b s:Int}{o a:List Int}(S:Ok b s o a):aP (fn b s o a) b.toNat s.toNat:=λx hx=>by
 have hb:=S.hb;have hs:=S.hs;unfold fn;rw[ia _ (by omega),ia _ (by omega)];congr 2;have:((x+s.toNat:Nat):Int)-b=(x:Int)-b+s*1:=by omega
 rw[this,Int.add_mul_emod_self_left]
def Cg{b s:Int}{o a:List Int}(S:Ok b s o a){y:Int}(hy:0<=y):(o.contains y || a.any λx=>decide (x<=y) && (y-x) % s == 0)=mem b s o a y:=by
 have hs:=S.hs;by_cases h:y<b
 ·rw[jT _ h];have:(a.any λx=>decide (x<=y) && (y-x) % s == 0)=false:=by rw[List.any_eq_false];intro x hx;have:=S.ha.2 x hx;simp;omega
  rw[this,Bool.or_false]
 ·rw[ia _ (by omega)];have:o.contains y=false:=by rw[Bool.eq_false_iff];intro hc;rw[List.contains_iff_mem]at hc;have:=S.ho.2 y hc;omega
  rw[this,Bool.false_or,DW,DV,List.contains_iff_mem];have r0:0<=(y-b) % s:=Int.emod_nonneg _ (by omega);have r1:(y-b) % s<s:=Int.emod_lt_of_pos _ (by omega);have hm:=Int.mul_ediv_add_emod (y-b) s;have q0:0<=(y-b) / s:=Int.ediv_nonneg (by omega) (by omega);have q1:0<=s*((y-b) / s):=Int.mul_nonneg (by omega) q0;constructor
  ·rintro⟨x,hx,hc⟩;simp only[DX,decide_eq_true_eq,beq_iff_eq]at hc;have hb:=S.ha.2 x hx;have e:(y-b) % s=x-b:=by
    have e1:y-b=(x-b)+s*((y-x) / s):=by have:=Int.mul_ediv_add_emod (y-x) s;rw[hc.2]at this;omega
    rw[e1,Int.add_mul_emod_self_left,Int.emod_eq_of_lt (by omega) (by omega)]
   rw[e,show b+(x-b)=x by omega];exact hx
  ·intro hx;refine⟨_,hx,?_⟩;simp only[DX,decide_eq_true_eq,beq_iff_eq];refine⟨by omega,?_⟩;rw[show y-(b+(y-b) % s)=s*((y-b) / s) by omega];exact Int.mul_emod_right _ _
def si{f:Nat->Bool}:∀{lo n:Nat} {x:Int} {r:List Int},row f lo n=x::r->(lo:Int)<=x/\x<lo+n/\f x.toNat=true/\∀y:Nat,lo<=y->(y:Int)<x->f y=false:=by
 intro lo n x r h;have hx:x∈row f lo n:=by rw[h];exact Dv
 obtain⟨h1,h2,h3⟩:=fW.mp hx;refine⟨h1,h2,h3,λy hy hyx=>?_⟩;cases e:f y with
 | false=>rfl
 | true=>
  have hm:(y:Int)∈row f lo n:=fW.mpr ⟨by omega,by omega,by rw[DB];exact e⟩;have hp:=(nW f lo n).1;rw[h]at hm hp;rcases DD.mp hm with e'|hm
  ·omega
  ·have:=(List.pairwise_cons.mp hp).1 _ hm;omega
def nK(f:Nat->Bool)(lo m n:Nat):row f lo (m+n)=row f lo m++row f (lo+m) n:=by
 induction n with
 | zero=>simp[row]
 | succ n ih=>rw[←Nat.add_assoc,jv,ih,jv,List.append_assoc,Nat.add_assoc]
end St
namespace St
def cm(a b:Nat):Nat:=a / Nat.gcd a b*b
def yU(a b:Nat):cm a b=b / Nat.gcd a b*a:=by unfold cm;have ha:Nat.gcd a b*(a / Nat.gcd a b)=a:=Nat.mul_div_cancel' (Nat.gcd_dvd_left a b);have hb:Nat.gcd a b*(b / Nat.gcd a b)=b:=Nat.mul_div_cancel' (Nat.gcd_dvd_right a b);generalize hg:Nat.gcd a b=g at *;generalize a / g=x at *;generalize b / g=y at *;rw[←ha,←hb,Nat.mul_comm y,Nat.mul_comm g y,Nat.mul_comm g x,Nat.mul_assoc,Nat.mul_comm g y,←Nat.mul_assoc]
def Bw{a b:Nat}(ha:1<=a)(hb:1<=b):1<=cm a b:=by unfold cm;have h1:0<a / Nat.gcd a b:=Nat.div_pos (Nat.le_of_dvd ha (Nat.gcd_dvd_left a b)) (Nat.gcd_pos_of_pos_left b ha);exact Nat.mul_pos h1 hb
def pairF(g:Bool->Bool->Bool)(f1 f2:Nat->Bool):Nat->Bool:=λx=>g (f1 x) (f2 x)
def CJ{g:Bool->Bool->Bool}{f1 f2:Nat->Bool}{b1 s1 b2 s2:Nat}(h1:aP f1 b1 s1)(h2:aP f2 b2 s2):aP (pairF g f1 f2) (max b1 b2) (cm s1 s2):=λx hx=>by
 unfold pairF;have e1:f1 (x+cm s1 s2)=f1 x:=by rw[yU];exact h1.mul _ x (by omega)
 have e2:f2 (x+cm s1 s2)=f2 x:=h2.mul _ x (by omega);rw[e1,e2]
def Cu(x y:Nat):Nat.gcd y (x % y)=Nat.gcd x y:=by rw[Nat.gcd_comm x y,Nat.gcd_rec y x,Nat.gcd_comm]
def rQ{f:Nat->Bool}{b s:Nat}(hs:1<=s)(h:aP f b s)(z:∀x,x<b+s->f x=false):∀x,f x=false:=λx=>by
 rcases Ee x b with hx|hx
 ·exact z x (by omega)
 ·have e:=h.mul ((x-b) / s) (b+(x-b) % s) (by omega);have hm:=Nat.div_add_mod (x-b) s;have hl:(x-b) % s<s:=Nat.mod_lt _ hs;rw[Nat.mul_comm]at hm;rw[show b+(x-b) % s+(x-b) / s*s=x by omega]at e;rw[e];exact z _ (by omega)
end St
namespace St
end St
namespace Bfs
def gC:∀(N:Nat) (l:List Nat),l.Nodup->(∀x∈l,x<N)->l.length<=N
 | 0,l,_,h=>by
  cases l with
  | nil=>exact DI _
  | cons x l=>exact absurd (h x Dv) (Nat.not_lt_zero _)
 | N+1,l,hn,h=>by
  have ih:=gC N (l.erase N) (hn.erase N) (λx hx=>by
   have:=h x (List.mem_of_mem_erase hx);have hne:x≠N:=λe=>by subst e;exact(List.Nodup.not_mem_erase hn) hx
   omega)
  by_cases hm:N∈l
  ·rw[List.length_erase_of_mem hm]at ih;omega
  ·rw[List.erase_of_not_mem hm]at ih;omega
abbrev Pl:=Int×Int
def inR(T:Int)(x:Pl):Prop:=0<=x.1/\x.1<12/\0<=x.2/\x.2<=T
def CG{T:Int}{l:List Pl}(hT:T<=2000)(hn:l.Nodup)(h:∀x∈l,inR T x):l.length<=24012:=by
 have hmap:(l.map λx=>(x.1*2001+x.2).toNat).Nodup:=by unfold List.Nodup at hn ⊢;rw[List.pairwise_map];refine List.Pairwise.imp_of_mem ?_ hn;intro a b ha hb hab e;obtain⟨a1,a2,a3,a4⟩:=h a ha;obtain⟨b1,b2,b3,b4⟩:=h b hb;refine hab (Prod.ext ?_ ?_)<;>omega
 have:=gC 24012 _ hmap (λy hy=>by obtain⟨x,hx,rfl⟩:=List.mem_map.mp hy;obtain⟨a1,a2,a3,a4⟩:=h x hx;omega)
 rwa [Dn]at this
section
variable (nx:Pl->Nat->Option Pl) (s:Pl)
variable {nx s}
end
end Bfs
namespace Bfs
inductive Rw(S:Pl->Pl->Prop):Nat->Pl->Pl->Prop
 | nil {x:Pl}:Rw S 0 x x
 | snoc {n:Nat} {x y z:Pl}:Rw S n x y->S y z->Rw S (n+1) x z
def Rw.trans{S:Pl->Pl->Prop}{n k:Nat}{x y z:Pl}(h:Rw S n x y)(g:Rw S k y z):Rw S (n+k) x z:=by
 induction g with
 | nil=>exact h
 | snoc _ hs ih=>exact .snoc (ih h) hs
def Rw.imp{S S':Pl->Pl->Prop}(hS:∀a c,S a c->S' a c){n:Nat}{x y:Pl}(h:Rw S n x y):Rw S' n x y:=by
 induction h with
 | nil=>exact .nil
 | snoc _ hs ih=>exact .snoc ih (hS _ _ hs)
def Rw.fn{S:Pl->Pl->Prop}{n:Nat}{x y:Pl}(h:Rw S n x y):∃w:Nat->Pl,w 0=x/\w n=y/\∀i,i<n->S (w i) (w (i+1)):=by
 induction h with
 | @nil x=>exact⟨λ_=>x,rfl,rfl,λi hi=>absurd hi (Nat.not_lt_zero _)⟩
 | @snoc n x y z _ hs ih=>
  obtain⟨w,h0,hn,hw⟩:=ih;refine⟨λi=>if i<=n then w i else z,by simp[h0],(by show(if n+1<=n then w (n+1)else z)=z;rw[En (by omega)]),λi hi=>?_⟩
  try dsimp only
  rcases Ee i n with l|l
  ·rw[Eo (by omega),Eo (by omega)];exact hw i l
  ·have:i=n:=by omega
   subst this;rw[Eo (DI _),En (by omega),hn];exact hs
def u5{S:Pl->Pl->Prop}{w:Nat->Pl}{i:Nat}:∀(k:Nat),(∀j,i<=j->j<i+k->S (w j) (w (j+1)))->Rw S k (w i) (w (i+k))
 | 0,_=>.nil
 | k+1,h=>.snoc (u5 k λj h1 h2=>h j h1 (by omega)) (h (i+k) (by omega) (by omega))
def wZ{S:Pl->Pl->Prop}{w:Nat->Pl}{i j:Nat}(hij:i<=j)(h:∀k,i<=k->k<j->S (w k) (w (k+1))):Rw S (j-i) (w i) (w j):=by
 have:=u5 (S:=S) (w:=w) (i:=i) (j-i) (λk h1 h2=>h k h1 (by omega))
 rwa [show i+(j-i)=j by omega]at this
def jz{h:Nat->Int}{l:Int}:∀(P:Nat),(∀i,i<P->h (i+1)<=h i+1)->h 0<=l->l<=h P->∃u,u<=P/\h u=l/\∀i,u<i->i<=P->l<h i
 | 0,_,h0,hP=>⟨0,DI _,by omega,λi h1 h2=>by omega⟩
 | P+1,hs,h0,hP=>by
  by_cases e:h (P+1)=l
  ·exact⟨P+1,DI _,e,λi h1 h2=>by omega⟩
  ·have:=hs P (by omega);obtain⟨u,hu,hl,hi⟩:=jz P (λi hi=>hs i (by omega)) h0 (by omega);refine⟨u,by omega,hl,λi h1 h2=>?_⟩;rcases Ee P i with g|g
   ·have:i=P+1:=by omega
    subst this;omega
   ·exact hi i h1 g
def Aa{h:Nat->Int}{l:Int}{P n:Nat}(hP:P<=n)(hs:∀i,P<=i->i<n->h i<=h (i+1)+1)(h0:h n<=l)(hl:l<=h P):∃d,P<=d/\d<=n/\h d=l/\∀i,P<=i->i<d->l<h i:=by
 obtain⟨u,hu,hul,hui⟩:=jz (h:=λi=>h (n-i)) (l:=l) (n-P) (λi hi=>by
  have:=hs (n-(i+1)) (by omega) (by omega)
  rwa [show n-(i+1)+1=n-i by omega]at this) (by simpa using h0) (by
  try dsimp only
  rw[show n-(n-P)=P by omega];exact hl)
 refine⟨n-u,by omega,by omega,hul,λi h1 h2=>?_⟩;have:=hui (n-i) (by omega) (by omega)
 (try dsimp only at this)
 rwa [show n-(n-i)=i by omega]at this
def twice{K:Nat}(code:Nat->Nat)(h:∀j,j<=K->code j<K):∃i j,i<j/\j<=K/\code i=code j:=by
 refine Classical.byContradiction λno=>?_;have hn:((Ek (K+1)).map code).Nodup:=by unfold List.Nodup;rw[List.pairwise_map];refine List.Pairwise.imp_of_mem ?_ (List.pairwise_lt_range (n:=K+1));intro a b ha hb hab e;exact no ⟨a,b,hab,by have:=List.mem_range.mp hb;omega,e⟩
 have:=gC K _ hn (λx hx=>by obtain⟨j,hj,rfl⟩:=List.mem_map.mp hx;exact h j (by have:=List.mem_range.mp hj;omega))
 rw[Dn,List.length_range]at this;omega
end Bfs
namespace Bfs
end Bfs
namespace Rnd
inductive Wg{α:Type}(S:α->α->Prop):Nat->α->α->Prop
 | nil {x:α}:Wg S 0 x x
 | snoc {n:Nat} {x y z:α}:Wg S n x y->S y z->Wg S (n+1) x z
def Wg.trans{α:Type}{S:α->α->Prop}{n k:Nat}{x y z:α}(h:Wg S n x y)(g:Wg S k y z):Wg S (n+k) x z:=by
 induction g with
 | nil=>exact h
 | snoc _ hs ih=>exact .snoc (ih h) hs
def Wg.fn{α:Type}{S:α->α->Prop}{n:Nat}{x y:α}(h:Wg S n x y):∃w:Nat->α,w 0=x/\w n=y/\∀i,i<n->S (w i) (w (i+1)):=by
 induction h with
 | @nil x=>exact⟨λ_=>x,rfl,rfl,λi hi=>absurd hi (Nat.not_lt_zero _)⟩
 | @snoc n x y z _ hs ih=>
  obtain⟨w,h0,hn,hw⟩:=ih;refine⟨λi=>if i<=n then w i else z,by simp[h0],(by show(if n+1<=n then w (n+1)else z)=z;rw[En (by omega)]),λi hi=>?_⟩
  try dsimp only
  rcases Ee i n with l|l
  ·rw[Eo (by omega),Eo (by omega)];exact hw i l
  ·have:i=n:=by omega
   subst this;rw[Eo (DI _),En (by omega),hn];exact hs
def uM{α:Type}{S:α->α->Prop}{w:Nat->α}{i:Nat}:∀(k:Nat),(∀j,i<=j->j<i+k->S (w j) (w (j+1)))->Wg S k (w i) (w (i+k))
 | 0,_=>.nil
 | k+1,h=>.snoc (uM k λj h1 h2=>h j h1 (by omega)) (h (i+k) (by omega) (by omega))
def seg{α:Type}{S:α->α->Prop}{w:Nat->α}{n i j:Nat}(hS:∀k,k<n->S (w k) (w (k+1)))(hij:i<=j)(hj:j<=n):Wg S (j-i) (w i) (w j):=by
 have:=uM (S:=S) (w:=w) (i:=i) (j-i) (λk h1 h2=>hS k (by omega))
 rwa [show i+(j-i)=j by omega]at this
def xR{α:Type}{S:α->α->Prop}{I:α->Prop}{N:Nat}(code:α->Nat)(hc:∀a,I a->code a<N)(inj:∀a b,I a->I b->code a=code b->a=b)(hI:∀a b,S a b->I b):∀(k:Nat) (x y:α),I x->Wg S k x y->∃k',k'<N/\Wg S k' x y:=by
 intro k;induction k using Nat.strongRecOn with
 | _ k ih=>
  intro x y hx h;by_cases hk:k<N
  ·exact⟨k,hk,h⟩
  ·obtain⟨w,h0,hn,hw⟩:=h.fn;have hIn:∀i,i<=k->I (w i):=λi hi=>by
    cases i with
    | zero=>rw[h0];exact hx
    | succ i=>exact hI _ _ (hw i (by omega))
   obtain⟨i,j,hij,hj,e⟩:=Bfs.twice (K:=N) (λj=>code (w j)) (λj hj=>hc _ (hIn j (by omega)));have e':=inj _ _ (hIn i (by omega)) (hIn j (by omega)) e;have a1:=seg hw (Nat.zero_le i) (by omega);have a2:=seg hw (show j<=k by omega) (DI k);rw[←e']at a2;have a3:=a1.trans a2;rw[h0,hn]at a3;exact ih _ (by omega) x y hx a3
section
variable {n:Nat} {A:Nat->Nat->Prop} (hA:∀i j,A i j->i<n/\j<n)
def Pr(A:Nat->Nat->Prop)(c:Nat)(a b:Nat×Nat):Prop:=A a.1 b.1/\b.2=(a.2+1) % c
def lift{c k:Nat}{i j:Nat}(h:Wg A k i j):Wg (Pr A c) k (i,0 % c) (j,k % c):=by
 induction h with
 | nil=>exact .nil
 | @snoc k x y z _ hs ih=>exact .snoc ih ⟨hs,by show(k+1) % c=(k % c+1) % c;rw[Nat.mod_add_mod]⟩
def drop{c k:Nat}{a b:Nat×Nat}(h:Wg (Pr A c) k a b):a.2 % c=a.2->Wg A k a.1 b.1/\b.2=(a.2+k) % c:=by
 induction h with
 | nil=>exact λe=>⟨.nil,e.symm⟩
 | @snoc k x y z _ hs ih=>
  intro e;obtain⟨h1,h2⟩:=ih e;refine⟨.snoc h1 hs.1,?_⟩;rw[hs.2,h2,Nat.mod_add_mod,Nat.add_assoc]
include hA
def uz{c k i j:Nat}(hc:1<=c)(hi:i<n)(h:Wg A k i j):∃k',k'<n*c/\k' % c=k % c/\Wg A k' i j:=by
 obtain⟨k',hk,hw⟩:=xR (S:=Pr A c) (I:=λa=>a.1<n/\a.2<c) (N:=n*c) (λa=>a.1*c+a.2) (λa ha=>by
   have:(a.1+1)*c<=n*c:=Nat.mul_le_mul_right _ ha.1;rw[Nat.succ_mul]at this;have:=ha.2;show a.1*c+a.2<n*c;omega) (λa b ha hb e=>by
   have e':a.1*c+a.2=b.1*c+b.2:=e;have e2:a.2=b.2:=by
    have:=congrArg (· % c) e'
    try dsimp only at this
    rwa [Nat.mul_add_mod_self_right,Nat.mul_add_mod_self_right,Nat.mod_eq_of_lt ha.2,Nat.mod_eq_of_lt hb.2]at this
   have e1:a.1=b.1:=Nat.eq_of_mul_eq_mul_right (show 0<c by omega) (by omega);exact Prod.ext e1 e2) (λa b h=>⟨(hA _ _ h.1).2,by rw[h.2];exact Nat.mod_lt _ (by omega)⟩) k _ _ ⟨hi,Nat.mod_lt _ (by omega)⟩ (lift h)
 obtain⟨h1,h2⟩:=drop hw (Nat.mod_mod _ _);refine⟨k',hk,?_,h1⟩;rw[Nat.zero_mod,Nat.zero_add]at h2;exact h2.symm
def tL{k i j:Nat}(hi:i<n)(h:Wg A k i j):j<n:=by
 cases h with
 | nil=>exact hi
 | snoc _ hs=>exact(hA _ _ hs).2
def Sm(A:Nat->Nat->Prop)(u v:Nat):Prop:=(∃k,Wg A k u v)/\∃k,Wg A k v u
omit hA in
def Sm.symm{u v:Nat}(h:Sm A u v):Sm A v u:=⟨h.2,h.1⟩
omit hA in
def Sm.trans{u v z:Nat}(h:Sm A u v)(g:Sm A v z):Sm A u z:=by obtain⟨⟨a,ha⟩,b,hb⟩:=h;obtain⟨⟨c,hc⟩,d,hd⟩:=g;exact⟨⟨_,ha.trans hc⟩,_,hd.trans hb⟩
omit hA in
def Sm.refl{u:Nat}:Sm A u u:=⟨⟨0,.nil⟩,0,.nil⟩
omit hA in
def t9{P:Nat->Prop}:∀k,P k->∃q,P q/\∀u,P u->q<=u:=by
 intro k;induction k using Nat.strongRecOn with
 | _ k ih=>
  intro hk;by_cases h:∃u,u<k/\P u
  ·obtain⟨u,hu,pu⟩:=h;exact ih u hu pu
  ·exact⟨k,hk,λu hu=>Classical.byContradiction λz=>h ⟨u,by omega,hu⟩⟩
def Rp(A:Nat->Nat->Prop)(q:Nat):Prop:=(∃k,1<=k/\Wg A k q q)/\∀u,Sm A q u->q<=u
omit hA in
def xb{u k:Nat}(hk:1<=k)(h:Wg A k u u):∃q,Rp A q/\Sm A u q:=by obtain⟨q,hq,hl⟩:=t9 (P:=λq=>Sm A u q) u Sm.refl;obtain⟨⟨a,ha⟩,b,hb⟩:=id hq;exact⟨q,⟨⟨b+k+a,by omega,(hb.trans h).trans ha⟩,λv hv=>hl v (hq.trans hv)⟩,hq⟩
def ring{q:Nat}(hq:q<n)(h:Rp A q):∃(c:Nat) (L:List Nat),1<=c/\Wg A c q q/\L.length=c/\L.Nodup/\∀v∈L,v<n/\Sm A q v:=by
 obtain⟨⟨k,hk,hw⟩,_⟩:=h;obtain⟨c,⟨hc,hcw⟩,hl⟩:=t9 (P:=λk=>1<=k/\Wg A k q q) k ⟨hk,hw⟩;obtain⟨w,h0,hn,hS⟩:=hcw.fn;refine⟨c,(Ek c).map w,hc,hcw,by simp,?_,?_⟩
 ·unfold List.Nodup;rw[List.pairwise_map];refine List.Pairwise.imp_of_mem ?_ (List.pairwise_lt_range (n:=c));intro i j hi hj hij e;have hj':=List.mem_range.mp hj;have a1:=seg hS (Nat.zero_le i) (by omega);have a2:=seg hS (show j<=c by omega) (DI c);rw[←e]at a2;have a3:=a1.trans a2;rw[h0,hn]at a3;have:=hl _ ⟨by omega,a3⟩;omega
 ·intro v hv;obtain⟨i,hi,rfl⟩:=List.mem_map.mp hv;have hi':=List.mem_range.mp hi;have a1:=seg hS (Nat.zero_le i) (by omega);have a2:=seg hS (show i<=c by omega) (DI c);rw[h0]at a1;rw[hn]at a2;exact⟨tL hA hq a1,⟨_,a1⟩,_,a2⟩
def rings(hn:n<=12):∀k,k<=n->∃(L:List Nat) (P:Nat),L.Nodup/\(∀v∈L,v<n/\∃q,q<k/\Rp A q/\Sm A q v)/\1<=P/\P ^ 3<=3 ^ L.length/\∀q,q<k->Rp A q->∃c,1<=c/\c<=n/\c ∣ P/\Wg A c q q:=by
 intro k;induction k with
 | zero=>exact λ_=>⟨[],1,List.nodup_nil,λv h=>(nomatch h),DI _,by decide,λq h=>absurd h (Nat.not_lt_zero _)⟩
 | succ k ih=>
  intro hk;obtain⟨L,P,nd,hL,hP,h3,hq⟩:=ih (by omega);by_cases hr:Rp A k
  ·obtain⟨c,M,hc,hw,hM,ndM,hMs⟩:=ring hA (show k<n by omega) hr;have hcn:c<=n:=by rw[←hM];exact Bfs.gC n M ndM λv hv=>(hMs v hv).1
   refine⟨L++M,P*c,?_,?_,Nat.mul_pos hP hc,?_,?_⟩
   ·rw[List.nodup_append];refine⟨nd,ndM,λa ha b hb e=>?_⟩;subst e;obtain⟨_,q,hqk,hqr,hqs⟩:=hL a ha;have hs:Sm A k q:=(hMs a hb).2.trans hqs.symm;have:=hr.2 q hs;omega
   ·intro v hv;rcases DL.mp hv with z|z
    ·obtain⟨h1,q,h2,h3⟩:=hL v z;exact⟨h1,q,by omega,h3⟩
    ·exact⟨(hMs v z).1,k,by omega,hr,(hMs v z).2⟩
   ·rw[Nat.mul_pow,DG,hM,Nat.pow_add];have hc3:∀c,c<13->c ^ 3<=3 ^ c:=by decide
    exact Nat.mul_le_mul h3 (hc3 c (by omega))
   ·intro q hqk hqr;by_cases e:q=k
    ·subst e;exact⟨c,hc,hcn,⟨P,Nat.mul_comm _ _⟩,hw⟩
    ·obtain⟨d,h1,h2,h4,h5⟩:=hq q (by omega) hqr;exact⟨d,h1,h2,Nat.dvd_trans h4 ⟨c,rfl⟩,h5⟩
  ·refine⟨L,P,nd,λv hv=>?_,hP,h3,λq hqk hqr=>?_⟩
   ·obtain⟨h1,q,h2,h3⟩:=hL v hv;exact⟨h1,q,by omega,h3⟩
   ·by_cases e:q=k
    ·subst e;exact absurd hqr hr
    ·exact hq q (by omega) hqr
omit hA in
def times{c q:Nat}(h:Wg A c q q):∀t,Wg A (t*c) q q
 | 0=>by rw[Nat.zero_mul];exact .nil
 | t+1=>by rw[Nat.succ_mul];exact(times h t).trans h
def round(hn:n<=12):∃P,1<=P/\P<=81/\∀s r k k',s<n->n<=k->2*(n*n)<=k'->k % P=k' % P->Wg A k s r->Wg A k' s r:=by
 obtain⟨L,P,nd,hL,hP,h3,hq⟩:=rings hA hn n (DI _);have hl:L.length<=n:=Bfs.gC n L nd λv hv=>(hL v hv).1;refine⟨P,hP,?_,?_⟩
 ·refine Classical.byContradiction λz=>?_;have h1:82 ^ 3<=P ^ 3:=Nat.pow_le_pow_left (by omega) 3;have h2:3 ^ L.length<=3 ^ 12:=Nat.pow_le_pow_right (by decide) (by omega);have:82 ^ 3<=3 ^ 12:=DS h1 (DS h3 h2);exact absurd this (by decide)
 ·intro s r k k' hs hk hk' hmod h;obtain⟨w,h0,hn',hS⟩:=h.fn;have hIn:∀i,i<=k->w i<n:=λi hi=>by
   cases i with
   | zero=>rw[h0];exact hs
   | succ i=>exact(hA _ _ (hS i (by omega))).2
  obtain⟨i,j,hij,hj,e⟩:=Bfs.twice (K:=n) w (λj hj=>hIn j (by omega));have loop:=seg hS (Nat.le_of_lt hij) (show j<=k by omega);rw[←e]at loop;obtain⟨q,hr,⟨⟨a,ha⟩,b,hb⟩⟩:=xb (by omega) loop;have hqn:q<n:=tL hA (hIn i (by omega)) ha;obtain⟨c,hc,hcn,hcP,hcw⟩:=hq q hqn hr;have t1:=seg hS (Nat.zero_le i) (show i<=k by omega);have t2:=seg hS (show i<=k by omega) (DI k);rw[h0]at t1;rw[hn']at t2;have u1:=t1.trans ha;have u2:=(hb.trans (times (ha.trans hb) (c-1))).trans t2;obtain⟨p1,l1,m1,w1⟩:=uz hA hc hs u1;obtain⟨p2,l2,m2,w2⟩:=uz hA hc hqn u2;have hnc:n*c<=n*n:=Nat.mul_le_mul_left _ hcn;have hle:p1+p2<=k':=by omega
  have hm:(p1+p2) % c=k' % c:=by
   have e1:(p1+p2) % c=((i-0+a)+(b+(c-1)*(a+b)+(k-i))) % c:=by rw[Nat.add_mod,m1,m2,←Nat.add_mod]
   have e2:(i-0+a)+(b+(c-1)*(a+b)+(k-i))=k+c*(a+b):=by obtain⟨d,rfl⟩:∃d,c=d+1:=⟨c-1,by omega⟩;rw[Nat.add_sub_cancel,Nat.succ_mul];omega
   rw[e1,e2,Nat.add_mul_mod_self_left];obtain⟨d,rfl⟩:=hcP;rw[←Nat.mod_mul_right_mod k c d,hmod,Nat.mod_mul_right_mod]
  obtain⟨t,ht⟩:∃t,k'=p1+p2+t*c:=by refine⟨(k'-(p1+p2)) / c,?_⟩;have hd:(k'-(p1+p2)) % c=0:=(Nat.sub_mod_eq_zero_of_mod_eq hm.symm);have:=Nat.div_add_mod (k'-(p1+p2)) c;rw[hd,Nat.mul_comm]at this;omega
  rw[ht,show p1+p2+t*c=p1+t*c+p2 by omega];exact(w1.trans (times hcw t)).trans w2
end
open St in
def oQ{f:Nat->Bool}{st low b P:Nat}(h:Least f st low)(hP:1<=P)(hp:aP f b P):st ∣ P/\low<=b:=by
 have hd:st ∣ P:=by
  have p1:aP f (max b low) P:=λx hx=>hp x (by omega);have p2:aP f (max b low) st:=λx hx=>h.per x (by omega);have p3:=p1.mod p2;have hs:=h.pos;by_cases z:P % st=0
  ·exact Nat.dvd_of_mod_eq_zero z
  ·have:=h.step (P % st) _ (by omega) p3;have:=Nat.mod_lt P (show st>0 by omega);omega
 refine⟨hd,h.base b λx hx=>?_⟩;have q1:=hp.times low x hx;have q2:=hp.times low (x+st) (by omega);have hge:low<=low*P:=Nat.le_mul_of_pos_right low hP;have q3:=h.per (x+low*P) (by omega);rw[←q1,←q2,←q3];congr 1;omega
end Rnd
namespace My
open PySem L2 St
def stq (i : Nat) : Stmt := PySem.Challenge.pw_stairrooms_k74_whole_stairs_of_ways.main.body.getD i (.Pass ⟨0, 0, 0, 0⟩)
local macro_rules|`(tactic| walk_at "cond") => `(tactic| first|decide|omega|(dsimp only; omega)|(unfold iG; omega)|(unfold va; exact ⟨by decide, by decide, by decide⟩)|(dsimp only; exact ⟨by omega, by omega⟩)|exact .inr ⟨by decide, by decide⟩|exact .inl ⟨by decide, by decide⟩|(unfold ie; omega))
local macro_rules|`(tactic| walk_at"") => do
 let ts ← ("seq ret retN asg drop ifS next name var c op un CB cons nil ints test B exb not and or andV orV notV ifE yes I0 I U EqI NeI EqB NeB call BM tup lst sl noPart part exi chain comp iL iT i1 i2 i3 for tTru intB max2 min2 sub gcons gnil aug ipI zip rev par par2 lam calV raise fs try bseq bnext bplain bif bcall enum gget gin revL leS disp dget lrev disp1 din dnin dput min3 iS iD bm0 revS iD2 iLT thaw iD3 iDL dgt2 fs3 fs5".splitOn " ").toArray.mapM λn =>
  let i := Lean.mkIdent (.mkSimple ("rd_" ++ n))
  if n == "var" || n == "aug" then `(tacticSeq| ((with_reducible apply $i); (exact rfl)))
  else if n == "I" then `(tacticSeq| ((with_reducible apply $i); (walk_at "cond")))
  else `(tacticSeq| with_reducible refine $i ?_)
 `(tactic| repeat (first $[| $ts]*|dsimp only))
def bL(H:Hp)(p:Addr)(kk:List (List Key)):Prop:=∃bs:List Addr,H p=some (.tup (bs.map V.ref))/\bs.length=kk.length/\∀(j:Nat) (b:Addr) (k:List Key),bs[j]?=some b->kk[j]?=some k->H b=some (.tup (k.map kV))
def bL.ext{H H':Hp}{p:Addr}{kk:List (List Key)}(e:Ext H H')(h:bL H p kk):bL H' p kk:=by obtain⟨bs,h1,h2,h3⟩:=h;exact⟨bs,e _ _ h1,h2,λj b k e1 e2=>e _ _ (h3 j b k e1 e2)⟩
structure Blt(mg:Str->Option Value):Prop where
 len_:mg "len" = none
 isinstance_:mg "isinstance" = none
 tuple_:mg "tuple" = none
 list_:mg "list" = none
 int_:mg "int" = none
 bool_:mg "bool" = none
 range_:mg "range" = none
 zip_:mg "zip" = none
 max_:mg "max" = none
 min_:mg "min" = none
 abs_:mg "abs" = none
 all_:mg "all" = none
 set_:mg "set" = none
 str_:mg "str" = none
 any_:mg "any" = none
def isInt:V->Bool
 | .int _=>true
 | _=>false
def Cd{H:Hp}{v:V}{n:String}(h:fH H v n):∃b c,gM n "int" = some b/\gM n "bool" = some c/\(b && !c)=isInt v:=by
 cases v with
 | non=>cases(show n = "NoneType" from h);exact⟨_,_,rfl,rfl,rfl⟩
 | bl b=>cases(show n = "bool" from h);exact⟨_,_,rfl,rfl,rfl⟩
 | int i=>cases(show n = "int" from h);exact⟨_,_,rfl,rfl,rfl⟩
 | str z=>cases(show n = "str" from h);exact⟨_,_,rfl,rfl,rfl⟩
 | ref a=>rcases h with⟨rfl,xs,e⟩|⟨rfl,xs,e⟩<;>exact⟨_,_,rfl,rfl,rfl⟩
 | _=>exact False.elim h
def i5(K:Dj):Sp:=λvs H Q _=>∃v n,vs=[v]/\fH H v n/\Q (.bl (isInt v)) H
abbrev lG:Stmt:=stq 10
def rZ:FnScope ["thing"] ["thing"] (aC lG):=⟨rfl,rfl,rfl,by decide +kernel,rfl,by decide +kernel,by decide +kernel⟩
def CL{P:Program}{w:World}{K:Dj}{mg:Str->Option Value}{base:Heap}(D:Dfn K mg "is_whole" lG ["thing"])(T:Blt mg):Cal P w K mg base "is_whole" 1 ["thing"] (i5 K):=by
 have nd:=(rZ).nd;refine D.ok rZ (λvs H Q E h=>?_) (λX hX H vs Q E h=>?_)
 ·obtain⟨v,n,rfl,_⟩:=h;rfl
 ·obtain⟨f,cdv,A,outer,s,H0,E0,rfl,hr⟩:=hX;obtain⟨v,n,rfl,hk,q⟩:=h;obtain⟨b,c,hb,hc,e⟩:=Cd hk;refine⟨_,(ao (aB (cW (br eV rfl T.isinstance_ PyProof.Rows.boot_isinstance (aa (pv 0) (aa (eI (v:=.ty "int") rfl T.int_ PyProof.Rows.boot_int rfl) ae))) (cM (uH (br eV rfl T.isinstance_ PyProof.Rows.boot_isinstance (aa (pv 0) (aa (eI (v:=.ty "bool") rfl T.bool_ PyProof.Rows.boot_bool rfl) ae)))))))),?_⟩;walk_at"";refine eJ hk hb ?_;walk_at"";cases b with
  | false=>refine aF ?_;rw[←e]at q;exact q
  | true=>
   refine aI ?_;walk_at"";refine eJ hk hc ?_;walk_at"";rw[←e]at q;exact q
structure Way where
 room:Int
 deed:Str
 other:Int
 sign:Str
 deriving DecidableEq
abbrev Way.key(w:Way):List Key:=[.inl w.room,.inr w.deed,.inl w.other,.inr w.sign]
abbrev Way.vs(w:Way):List V:=[.int w.room,.str w.deed,.int w.other,.str w.sign]
def Way.key_inj{w u:Way}(h:w.key=u.key):w=u:=by cases w;cases u;simp only[Way.key,List.cons.injEq,Sum.inl.injEq,Sum.inr.injEq]at h;obtain⟨rfl,rfl,rfl,rfl,_⟩:=h;rfl
def tY(z:Str):Prop:=∃c:Nat,97<=c/\c<=122/\z=⟨#[c]⟩
def bI(z:Str):Prop:=z = "up"\/z = "down"\/z = "stay"\/z = "zero"
structure Way.Ok(m:Int)(w:Way):Prop where
 r0:0<=w.room
 r1:w.room<m
 o0:0<=w.other
 o1:w.other<m
 dd:bI w.deed
 sg:tY w.sign
structure HOuse(m:Int)(ws:List Way):Prop where
 m1:1<=m
 m12:m<=12
 few:ws.length<=100
 ok:∀w∈ws,w.Ok m
 nd:ws.Nodup
def HOuse.keys{m:Int}{ws:List Way}(h:HOuse m ws):(ws.map Way.key).Nodup:=by have:=h.nd;unfold List.Nodup at this ⊢;rw[List.pairwise_map];exact this.imp λne e=>ne (Way.key_inj e)
def bx(H:Hp)(v:V)(m:Int)(ws:List Way):Prop:=∃p q,v=.ref p/\H p=some (.tup [.int m,.ref q])/\bL H q (ws.map Way.key)
def bx.ext{H H':Hp}{v:V}{m:Int}{ws:List Way}(e:Ext H H')(h:bx H v m ws):bx H' v m ws:=by obtain⟨p,q,rfl,h1,h2⟩:=h;exact⟨p,q,rfl,e _ _ h1,h2.ext e⟩
def jD{n:Nat}(h:n<=1000):n<=sizeLine:=DS h (by decide)
def n5(K:Dj):Sp:=λvs H Q _=>∃i m,vs=[.int i,.int m]/\0<=i/\i<m/\Q (.bl true) H
abbrev nz:Stmt:=stq 38
def sh:FnScope ["thing","many"] ["thing","many"] (aC nz):=⟨rfl,rfl,rfl,by decide +kernel,rfl,by decide +kernel,by decide +kernel⟩
def w6{P:Program}{w:World}{K:Dj}{mg:Str->Option Value}{base:Heap}(D:Dfn K mg "is_room" nz ["thing","many"])(T:Blt mg)(C_is_whole:Cal P w K mg base "is_whole" 1 ["thing"] (i5 K)):Cal P w K mg base "is_room" 2 ["thing","many"] (n5 K):=by
 have nd:=(sh).nd;refine D.ok sh (λvs H Q E h=>?_) (λX hX H vs Q E h=>?_)
 ·obtain⟨i,m,rfl,_⟩:=h;rfl
 ·obtain⟨f,cdv,A,outer,s,H0,E0,rfl,hr⟩:=hX;obtain⟨i,m,rfl,h0,h1,q⟩:=h;refine⟨_,(ao (aB (cW (av C_is_whole hr (aa (pv 0) ae)) (cM (nE jq dC af (pv 0) (pv 1)))))),?_⟩;walk_at"";refine⟨_,"int",rfl,rfl,?_⟩;refine rd_exb ?_;refine aI ?_;walk_at"";rw[Em h0];refine aI ?_;walk_at"";rw[Em h1];exact q
def lC:List (Key×V):=[(.inr "up",.str "down"),(.inr "down",.str "up"),(.inr "stay",.str "stay"),(.inr "zero",.str "zero")]
def Be{w:World}{K:Dj}{a:Addr}{t1 t2 t3 t4 t5 t6 t7 t8:Tok}{ep:Nat}(h:K.lookup a=some (hG w [("up",t1,.str "down" t2),("down",t3,.str "up" t4),("stay",t5,.str "stay" t6),("zero",t7,.str "zero" t8)] ep))(hs:(a == sysModules)=false):GDict w K a lC:=
 ⟨⟨_,_,h,.cons ⟨rfl,⟨_,rfl⟩⟩ (.cons ⟨rfl,⟨_,rfl⟩⟩ (.cons ⟨rfl,⟨_,rfl⟩⟩ (.cons ⟨rfl,⟨_,rfl⟩⟩ .nil)))⟩,by decide +kernel,hs⟩
def xr(z:Str):Str:=if z = "up" then "down" else if z = "down" then "up" else z
def BW{z:Str}(h:bI z):bF lC (.inr z)=some (.str (xr z)):=by rcases h with rfl|rfl|rfl|rfl<;>decide +kernel
def sq(K:Dj):Sp:=λvs H Q _=>∃z,vs=[.str z]/\bI z/\Q (.bl true) H
abbrev kI:Stmt:=stq 39
def r6:FnScope ["thing"] ["thing"] (aC kI):=⟨rfl,rfl,rfl,by decide +kernel,rfl,by decide +kernel,by decide +kernel⟩
def yf{P:Program}{w:World}{K:Dj}{mg:Str->Option Value}{base:Heap}(D:Dfn K mg "is_deed" kI ["thing"])(T:Blt mg)(g_TURNED:∃a,mg "TURNED" = some (.ref a)/\GDict w K a lC):Cal P w K mg base "is_deed" 1 ["thing"] (sq K):=by
 have nd:=(r6).nd;refine D.ok r6 (λvs H Q E h=>?_) (λX hX H vs Q E h=>?_)
 ·obtain⟨z,rfl,_⟩:=h;rfl
 ·obtain⟨f,cdv,A,outer,s,H0,E0,rfl,hr⟩:=hX;obtain⟨a_TURNED,m_TURNED,d_TURNED⟩:=g_TURNED;obtain⟨z,rfl,hz,q⟩:=h;refine⟨_,(ao (aB (cW (br eV rfl T.isinstance_ PyProof.Rows.boot_isinstance (aa (pv 0) (aa (eI (v:=.ty "str") rfl T.str_ PyProof.Rows.boot_str rfl) ae))) (cM (Ai (AY rfl m_TURNED d_TURNED (pv 0)) (by with_unfolding_all rfl)))))),?_⟩;walk_at"";refine eJ (n:="str") rfl (b:=true) rfl ?_;walk_at"";refine aI ?_;walk_at"";refine⟨.inr z,rfl,?_⟩;rw[BW hz];exact q
def CN{c:Nat}(h:97<=c):(!decide (([c]:List Nat)<(DY "a").cps.toList))=true:=by
 have e:(DY "a").cps.toList=[97]:=by decide +kernel
 rw[e,El (λz=>by
  rw[List.cons_lt_cons_iff]at z;rcases z with z|⟨_,z⟩
  ·omega
  ·cases z)]
 rfl
def AH{c:Nat}(h:c<=122):(!decide ((DY "z").cps.toList<([c]:List Nat)))=true:=by
 have e:(DY "z").cps.toList=[122]:=by decide +kernel
 rw[e,El (λz=>by
  rw[List.cons_lt_cons_iff]at z;rcases z with z|⟨_,z⟩
  ·omega
  ·cases z)]
 rfl
def tU(K:Dj):Sp:=λvs H Q _=>∃z,vs=[.str z]/\tY z/\Q (.bl true) H
abbrev nH:Stmt:=stq 40
def vb:FnScope ["thing"] ["thing"] (aC nH):=⟨rfl,rfl,rfl,by decide +kernel,rfl,by decide +kernel,by decide +kernel⟩
def yO{P:Program}{w:World}{K:Dj}{mg:Str->Option Value}{base:Heap}(D:Dfn K mg "is_sign" nH ["thing"])(T:Blt mg):Cal P w K mg base "is_sign" 1 ["thing"] (tU K):=by
 have nd:=(vb).nd;refine D.ok vb (λvs H Q E h=>?_) (λX hX H vs Q E h=>?_)
 ·obtain⟨z,rfl,_⟩:=h;rfl
 ·obtain⟨f,cdv,A,outer,s,H0,E0,rfl,hr⟩:=hX;obtain⟨z,rfl,⟨c,hc1,hc2,rfl⟩,q⟩:=h;refine⟨_,(ao (aB (cW (br eV rfl T.isinstance_ PyProof.Rows.boot_isinstance (aa (pv 0) (aa (eI (v:=.ty "str") rfl T.str_ PyProof.Rows.boot_str rfl) ae))) (cW (cE bT (br zc rfl T.len_ PySem.boot_len (aa (pv 0) ae)) af (aM _)) (cM (nE pI pI aO (pv 0) aO)))))),?_⟩;walk_at"";refine eJ (n:="str") rfl (b:=true) rfl ?_;walk_at"";refine aI ?_;walk_at"";refine⟨_,rfl,jD (show 1<=1000 by decide),?_⟩;walk_at"";refine aI ?_;walk_at"";rw[CN hc1];refine aI ?_;walk_at"";rw[AH hc2];exact q
def lS{H:Hp}{p:Addr}{xs:List V}(h:H p=some (.tup xs)):fH H (.ref p) "tuple":=.inr ⟨rfl,xs,h⟩
def uF(K:Dj):Sp:=λvs H Q _=>∃p w m,vs=[.ref p,.int m]/\H p=some (.tup (Way.vs w))/\w.Ok m/\Q (.bl true) H
abbrev kZ:Stmt:=stq 41
def q5:FnScope ["thing","many"] ["thing","many"] (aC kZ):=⟨rfl,rfl,rfl,by decide +kernel,rfl,by decide +kernel,by decide +kernel⟩
def zx{P:Program}{w:World}{K:Dj}{mg:Str->Option Value}{base:Heap}(D:Dfn K mg "is_way" kZ ["thing","many"])(T:Blt mg)(C_is_sign:Cal P w K mg base "is_sign" 1 ["thing"] (tU K))(C_is_deed:Cal P w K mg base "is_deed" 1 ["thing"] (sq K))(C_is_room:Cal P w K mg base "is_room" 2 ["thing","many"] (n5 K)):Cal P w K mg base "is_way" 3 ["thing","many"] (uF K):=by
 have nd:=(q5).nd;refine D.ok q5 (λvs H Q E h=>?_) (λX hX H vs Q E h=>?_)
 ·obtain⟨p,w,m,rfl,_⟩:=h;rfl
 ·obtain⟨f,cdv,A,outer,s,H0,E0,rfl,hr⟩:=hX;obtain⟨p,w,m,rfl,hp,ok,q⟩:=h;refine⟨_,(ah (bq (PW.pt (dh (cK (bH (br eV rfl T.isinstance_ PyProof.Rows.boot_isinstance (aa (pv 0) (aa (eI (v:=.ty "tuple") rfl T.tuple_ PyProof.Rows.boot_tuple rfl) ae))))) (eW (aR fM (br (cZ K) rfl T.len_ PySem.boot_len (aa (pv 0) ae)) af (aM _))))) (ao (aB bA)) aT)
    (ah (bq (PW.pt (dh (cK (bH (av C_is_room hr (aa (ai (ay K) (pv 0) af (λ_ _=>rfl)) (aa (pv 1) ae))))) (eW (cK (bH (av C_is_room hr (aa (ai (ay K) (pv 0) af (λ_ _=>rfl)) (aa (pv 1) ae)))))))) (ao (aB bA)) aT)
    (ao (aB (cW (av C_is_deed hr (aa (ai (ay K) (pv 0) af (λ_ _=>rfl)) ae)) (cM (av C_is_sign hr (aa (ai (ay K) (pv 0) af (λ_ _=>rfl)) ae)))))))),?_⟩
  walk_at"";refine eJ (lS hp) (b:=true) rfl ?_;walk_at"";refine aF ?_;walk_at"";refine jb (aj.of hp) ?_;walk_at"";refine aF ?_;walk_at"";refine az (aj.of hp) (v:=.int w.room) rfl ?_;walk_at"";refine⟨_,_,rfl,ok.r0,ok.r1,?_⟩;walk_at"";refine aF ?_;walk_at"";refine az (aj.of hp) (v:=.int w.other) rfl ?_;walk_at"";refine⟨_,_,rfl,ok.o0,ok.o1,?_⟩;walk_at"";refine aF ?_;walk_at"";refine az (aj.of hp) (v:=.str w.deed) rfl ?_;walk_at"";refine⟨_,rfl,ok.dd,?_⟩;walk_at"";refine aI ?_;walk_at"";refine az (aj.of hp) (v:=.str w.sign) rfl ?_;walk_at"";exact⟨_,rfl,ok.sg,q⟩
def bL.item{H:Hp}{ws:List Way}{bs:List Addr}(h:∀(j:Nat) (b:Addr) (k:List Key),bs[j]?=some b->(ws.map Way.key)[j]?=some k->H b=some (.tup (k.map kV))){j:Nat}{b:Addr}{w:Way}(e1:bs[j]?=some b)(e2:ws[j]?=some w):H b=some (.tup w.vs):=
 h j b w.key e1 (by rw[Dr,e2];rfl)
def uk(K:Dj):Sp:=λvs H Q _=>∃q ws m,vs=[.ref q,.int m]/\bL H q (ws.map Way.key)/\HOuse m ws/\∀H',Ext H H'->Q (.bl true) H'
abbrev oT:Stmt:=stq 42
def pq:FnScope ["thing","many"] ["thing","many"] (aC oT):=⟨rfl,rfl,rfl,by decide +kernel,rfl,by decide +kernel,by decide +kernel⟩
def Bf{P:Program}{w:World}{K:Dj}{mg:Str->Option Value}{base:Heap}(D:Dfn K mg "are_ways" oT ["thing","many"])(T:Blt mg)(g_GREATEST_WAYS:∃t,mg "GREATEST_WAYS" = some (.int 100 t))(C_is_way:Cal P w K mg base "is_way" 3 ["thing","many"] (uF K)):Cal P w K mg base "are_ways" 4 ["thing","many"] (uk K):=by
 have nd:=(pq).nd;refine D.ok pq (λvs H Q E h=>?_) (λX hX H vs Q E h=>?_)
 ·obtain⟨p,w,m,rfl,_⟩:=h;rfl
 ·obtain⟨f,cdv,A,outer,s,H0,E0,rfl,hr⟩:=hX;obtain⟨t_GREATEST_WAYS,c_GREATEST_WAYS⟩:=g_GREATEST_WAYS;obtain⟨q,ws,m,rfl,hw,ok,qq⟩:=h;obtain⟨bs,h1,h2,h3⟩:=id hw;rw[Dn]at h2;have hfew:=ok.few;refine⟨_,(ah (bq (PW.pt (dh (cK (bH (br eV rfl T.isinstance_ PyProof.Rows.boot_isinstance (aa (pv 0) (aa (eI (v:=.ty "tuple") rfl T.tuple_ PyProof.Rows.boot_tuple rfl) ae))))) (eW (aR eB (br (cZ K) rfl T.len_ PySem.boot_len (aa (pv 0) ae)) (gn (v:=.int 100) rfl c_GREATEST_WAYS ⟨_,rfl⟩) (aM _))))) (ao (aB bA)) aT)
    (ao (aB (cW (br (ze K rfl) rfl T.all_ PyProof.Rows.boot_all (aa (dZ ["way"] [1] (fQ K (pv 0)) (λ_=>(aN (i:=0) (show(["way","many"]:List Str).Nodup from by decide +kernel) rfl (Or.inl rfl) (Or.inr rfl))) (λ_=>fF) (λ_=>(av C_is_way hr (aa (pv 0) (aa (pv 1) ae))))) ae)) (cM (cE bT (br Og.call_lenSet rfl T.len_ PySem.boot_len (aa (gR (Og.call_setT hr) rfl T.set_ PyProof.Rows.boot_set (aa (pv 0) ae)) ae)) (br (cZ K) rfl T.len_ PySem.boot_len (aa (pv 0) ae)) (aM _))))))),?_⟩
  walk_at"";refine eJ (lS h1) (b:=true) rfl ?_;walk_at"";refine aF ?_;walk_at"";refine jb (aj.of h1) ?_;walk_at"";rw[El (show ¬((100:Int)<((bs.map V.ref).length:Nat)) by rw[Dn];omega)];refine aF ?_;walk_at"";refine fN (aj.of h1) ?_;refine vU (xs:=bs.map V.ref) (λi ys H'=>Ext H H'/\ys=(Ec i true).map V.bl) (jD (by rw[Dn];omega)) ⟨λ_ _ z=>z,rfl⟩ (λi ys H' hi h=>⟨aj.of (h.1 _ _ h1),by rw[h.2];simp⟩) ?_ ?_
  ·rintro i x ys H' hx ⟨e,rfl⟩;rw[Dr]at hx;obtain⟨b,hb,rfl⟩:=DA.mp hx;have hi:i<ws.length:=by rw[←h2];exact(Dx.mp hb).1
   have hwi:ws[i]?=some ws[i]:=Dp hi;walk_at"";refine aI ?_;walk_at"";refine⟨b,ws[i],m,rfl,e _ _ (bL.item h3 hb hwi),ok.ok _ (DO hi),e,?_⟩;rw[List.replicate_succ',DF];rfl
  ·rintro ys H' p ⟨e,rfl⟩ hp;walk_at"";have eN:Ext H (upd H' p (.lst ((Ec (bs.map V.ref).length true).map V.bl))):=e.trans (bJ hp);refine⟨p,Ec (bs.map V.ref).length true,rfl,ag.of aJ,?_⟩;rw[show (Ec (bs.map V.ref).length true).all id=true by simp];walk_at"";refine aI ?_;walk_at"";refine Og.rd_setOf (hw.ext eN) ok.keys (by rw[Dn];omega) λl H2 e2 hl=>?_;walk_at"";refine Og.rd_lenSet hl (by rw[Dn];omega) ?_;walk_at"";refine jb (aj.of ((eN.trans e2) _ _ h1)) ?_;walk_at"";rw[show decide (((((ws.map Way.key).length:Nat):Int))=((bs.map V.ref).length:Nat))=true by rw[Dn,Dn,h2];simp];exact qq _ (eN.trans e2)
def uj(K:Dj):Sp:=λvs H Q _=>∃v m ws,vs=[v]/\bx H v m ws/\HOuse m ws/\∀H',Ext H H'->Q (.bl true) H'
abbrev oV:Stmt:=stq 43
def uG:FnScope ["thing"] ["thing"] (aC oV):=⟨rfl,rfl,rfl,by decide +kernel,rfl,by decide +kernel,by decide +kernel⟩
def Cs{P:Program}{w:World}{K:Dj}{mg:Str->Option Value}{base:Heap}(D:Dfn K mg "is_house" oV ["thing"])(T:Blt mg)(g_GREATEST_MANY:∃t,mg "GREATEST_MANY" = some (.int 12 t))(C_are_ways:Cal P w K mg base "are_ways" 4 ["thing","many"] (uk K))(C_is_whole:Cal P w K mg base "is_whole" 1 ["thing"] (i5 K)):Cal P w K mg base "is_house" 5 ["thing"] (uj K):=by
 have nd:=(uG).nd;refine D.ok uG (λvs H Q E h=>?_) (λX hX H vs Q E h=>?_)
 ·obtain⟨p,w,m,rfl,_⟩:=h;rfl
 ·obtain⟨f,cdv,A,outer,s,H0,E0,rfl,hr⟩:=hX;obtain⟨t_GREATEST_MANY,c_GREATEST_MANY⟩:=g_GREATEST_MANY;obtain⟨v,m,ws,rfl,⟨p,r,rfl,h1,h2⟩,ok,q⟩:=h;have m1:=ok.m1;have m2:=ok.m12;refine⟨_,(ah (bq (PW.pt (dh (cK (bH (br eV rfl T.isinstance_ PyProof.Rows.boot_isinstance (aa (pv 0) (aa (eI (v:=.ty "tuple") rfl T.tuple_ PyProof.Rows.boot_tuple rfl) ae))))) (eW (aR fM (br (cZ K) rfl T.len_ PySem.boot_len (aa (pv 0) ae)) af (aM _))))) (ao (aB bA)) aT)
    (ao (aB (cW (av C_is_whole hr (aa (ai (ay K) (pv 0) af (λ_ _=>rfl)) ae)) (cW (nE jq jq af (ai (ay K) (pv 0) af (λ_ _=>rfl)) (gn (v:=.int 12) rfl c_GREATEST_MANY ⟨_,rfl⟩)) (cM (av C_are_ways hr (aa (ai (ay K) (pv 0) af (λ_ _=>rfl)) (aa (ai (ay K) (pv 0) af (λ_ _=>rfl)) ae))))))))),?_⟩
  walk_at"";refine eJ (lS h1) (b:=true) rfl ?_;walk_at"";refine aF ?_;walk_at"";refine jb (aj.of h1) ?_;walk_at"";refine aF ?_;walk_at"";refine az (aj.of h1) (v:=.int m) rfl ?_;walk_at"";refine⟨_,"int",rfl,rfl,?_⟩;refine rd_exb (aI ?_);walk_at"";refine az (aj.of h1) (v:=.int m) rfl ?_;walk_at"";rw[Em m1];refine aI ?_;walk_at"";rw[Em m2];refine aI ?_;walk_at"";refine az (aj.of h1) (v:=.ref r) rfl ?_;walk_at"";refine az (aj.of h1) (v:=.int m) rfl ?_;walk_at"";exact⟨r,ws,m,rfl,h2,ok,q⟩
def kh(K:Dj):Sp:=λvs H Q _=>∃v m ws,vs=[v]/\bx H v m ws/\HOuse m ws/\∀H',Ext H H'->Q .non H'
abbrev mz:Stmt:=stq 44
def qW:FnScope ["thing"] ["thing"] (aC mz):=⟨rfl,rfl,rfl,by decide +kernel,rfl,by decide +kernel,by decide +kernel⟩
def BV{P:Program}{w:World}{K:Dj}{mg:Str->Option Value}{base:Heap}(D:Dfn K mg "refuse_no_house" mz ["thing"])(T:Blt mg)(C_is_house:Cal P w K mg base "is_house" 5 ["thing"] (uj K)):Cal P w K mg base "refuse_no_house" 6 ["thing"] (kh K):=by
 have nd:=(qW).nd;refine D.ok qW (λvs H Q E h=>?_) (λX hX H vs Q E h=>?_)
 ·obtain⟨p,w,m,rfl,_⟩:=h;rfl
 ·obtain⟨f,cdv,A,outer,s,H0,E0,rfl,hr⟩:=hX;obtain⟨v,m,ws,rfl,h1,ok,q⟩:=h;refine⟨_,(ao (bq (cK (bH (av C_is_house hr (aa (pv 0) ae)))) (ao fh) aT)),?_⟩;walk_at"";refine⟨v,m,ws,rfl,h1,ok,λH' e=>?_⟩;refine rd_exb (aF ?_);walk_at"";exact q H' e
def oW{xs:List Int}{i:Nat}{v:V}(h:(xs.map V.int)[i]?=some v):∃x,v=.int x/\xs[i]?=some x:=by
 rw[Dr]at h;cases e:xs[i]? with
 | none=>rw[e]at h;cases h
 | some x=>rw[e]at h;exact⟨x,(DZ h).symm,rfl⟩
def bD{n:Nat}(h:n<=1000000):n<=sizeLine:=DS h (by decide)
def aH{xs:List V}{H:Hp}{o:HO}{Q:VK}(h:∀p H',Ext H H'->H' p=some o->H p=none->Q (.ref p) H')(hz:xs.length<=1000000:=by simp):xs.length<=sizeLine/\dY H o Q:=⟨bD hz,bP h⟩
def qv(K:Dj):Sp:=λvs H Q _=>∃(a:Addr) (ns:List Int) (k:Int),vs=[.ref a,.int k]/\ag K H a (ns.map V.int)/\ns.length<=63/\0<=k/\∀z,Q (.int z) H
def vc{ns:List Int}{i:Int}(h0:0<=i)(h:i<ns.length):∃z,bo (ns.map V.int) i=some (.int z)/\ns[i.toNat]?=some z:=by
 have hi:i.toNat<ns.length:=by omega
 refine⟨ns[i.toNat],eS h0 ?_,Dp hi⟩;rw[Dr,Dp hi];rfl
abbrev nv:Stmt:=stq 77
def vz:FnScope ["_law_script","_law_k"] ["_law_script","_law_k"] (aC nv):=⟨rfl,rfl,rfl,by decide +kernel,rfl,by decide +kernel,by decide +kernel⟩
def AD{P:Program}{w:World}{K:Dj}{mg:Str->Option Value}{base:Heap}(D:Dfn K mg "_law_cell" nv ["_law_script","_law_k"])(T:Blt mg):Cal P w K mg base "_law_cell" 1 ["_law_script","_law_k"] (qv K):=by
 have nd:=(vz).nd;refine D.ok vz (λvs H Q E h=>?_) (λX hX H vs Q E h=>?_)
 ·obtain⟨a,ns,k,rfl,_⟩:=h;rfl
 ·obtain⟨f,cdv,A,outer,s,H0,E0,rfl,hr⟩:=hX;obtain⟨a,ns,k,rfl,ha,hl,hk,q⟩:=h;refine⟨_,(ah (bq (aR bT (br (cZ K) rfl T.len_ PySem.boot_len (aa (pv 0) ae)) af (aM _)) (ao (aB (aq dE af (aq aS (pv 1) af)))) aT)
    (ah (bq (aR dC (pv 1) (br (cZ K) rfl T.len_ PySem.boot_len (aa (pv 0) ae)) (aM _)) (ao (aB (ai (aE K) (pv 0) (pv 1) (λ_ _=>rfl)))) aT)
    (ao (aB (aq aS (ai (aE K) (pv 0) (aq bN (pv 1) (br (cZ K) rfl T.len_ PySem.boot_len (aa (pv 0) ae))) (λ_ _=>rfl)) (aq dE af (pv 1))))))),?_⟩
  walk_at"";refine fB ha ?_;walk_at"";rw[Dn];by_cases h0:(ns.length:Int)=0
  ·rw[Em h0];refine aI ?_;walk_at"";exact q _
  ·rw[El h0];refine aF ?_;walk_at"";refine fB ha ?_;walk_at"";rw[Dn];by_cases h1:k<ns.length
   ·rw[Em h1];refine aI ?_;obtain⟨z,hz,_⟩:=vc hk h1;walk_at"";refine aD ha hz ?_;exact q _
   ·rw[El h1];refine aF ?_;walk_at"";refine fB ha ?_;rw[Dn];have hp:(0:Int)<ns.length:=by omega
    refine rd_I hp ?_;obtain⟨z,hz,_⟩:=vc (ns:=ns) (Int.emod_nonneg k (by omega)) (Int.emod_lt_of_pos k hp);refine aD ha hz ?_;walk_at"";exact q _
def sA(K:Dj):Sp:=λvs H Q _=>∃c k p,vs=[.int c,.int k,.int p]/\0<=k/\k<100000/\0<p/\∀z,0<=z->z<p->Q (.int z) H
abbrev lE:Stmt:=stq 69
def v9:FnScope ["_law_cell_here","_law_k","_law_prime","_law_far"] ["_law_cell_here","_law_k","_law_prime"] (aC lE):=⟨rfl,rfl,rfl,by decide +kernel,rfl,by decide +kernel,by decide +kernel⟩
def xc{P:Program}{w:World}{K:Dj}{mg:Str->Option Value}{base:Heap}(D:Dfn K mg "_law_mixed" lE ["_law_cell_here","_law_k","_law_prime"])(T:Blt mg):Cal P w K mg base "_law_mixed" 1 ["_law_cell_here","_law_k","_law_prime"] (sA K):=by
 have nd:=(v9).nd;refine D.ok v9 (λvs H Q E h=>?_) (λX hX H vs Q E h=>?_)
 ·obtain⟨c,k,p,rfl,_⟩:=h;rfl
 ·obtain⟨f,cdv,A,outer,s,H0,E0,rfl,hr⟩:=hX;obtain⟨c,k,p,rfl,hk,hk2,hp,q⟩:=h;refine⟨_,(ah (aA (i:=3) nd rfl (Or.inl rfl) (aq bN (aq dE (aq aS (aq aS (aq aS (pv 0) (aq dE (aq dE af (pv 1)) (pv 1))) (aq dE af (pv 1))) af) af) af))
    (ah (aA (i:=3) nd rfl (Or.inl rfl) (aq bN (aq dE (pv 3) (pv 3)) af))
    (ao (aB (aq bN (aq dE (pv 3) af) (pv 2)))))),?_⟩
  walk_at"";exact q _ (Int.emod_nonneg _ (by omega)) (Int.emod_lt_of_pos _ hp)
def cJ{H H2:Hp}{q:Addr}{o:HO}(e:Ext H H2)(hq:H q=none):Ext H (upd H2 q o):=λb u hb=>by rw[ax (bO hb hq)];exact e b u hb
def fg(K:Dj):Sp:=λvs H Q _=>∃(c:Int) (w:Addr) (ws:List Int) (p:Int),vs=[.int c,.ref w,.int p]/\H w=some (.lst (ws.map V.int))/\(∀x∈ws,0<x/\x<2 ^ 40)/\ws.length<=10000/\0<p ∧
 ∀(q:Addr) (ds:List Int) (H':Hp),Ext H H'->H' q=some (.lst (ds.map V.int))->H q=none->ds.length=ws.length->(∀(i:Nat) d x,ds[i]?=some d->ws[i]?=some x->0<=d/\d<x)->Q (.ref q) H'
def jO{K:Dj}{H:Hp}{c:Int}{w:Addr}{p:Int}{Q:VK}{xe:XK}(ws:List Int)(h1:H w=some (.lst (ws.map V.int)))(h2:∀x∈ws,0<x/\x<2 ^ 40)(h3:ws.length<=10000)(h4:0<p)
  (k:∀(q:Addr) (ds:List Int) (H':Hp),Ext H H'->H' q=some (.lst (ds.map V.int))->H q=none->ds.length=ws.length->(∀(i:Nat) d x,ds[i]?=some d->ws[i]?=some x->0<=d/\d<x)->Q (.ref q) H'):fg K [.int c,.ref w,.int p] H Q xe:=⟨c,w,ws,p,rfl,h1,h2,h3,h4,k⟩
abbrev lg:Stmt:=stq 70
def uN:FnScope ["_law_cell_here","_law_widths","_law_prime","_law_left","_law_found","_law_k"] ["_law_cell_here","_law_widths","_law_prime"] (aC lg):=⟨rfl,rfl,rfl,by decide +kernel,rfl,by decide +kernel,by decide +kernel⟩
def yS{P:Program}{w:World}{K:Dj}{mg:Str->Option Value}{base:Heap}(D:Dfn K mg "_law_draws" lg ["_law_cell_here","_law_widths","_law_prime"])(T:Blt mg)(C__law_mixed:Cal P w K mg base "_law_mixed" 1 ["_law_cell_here","_law_k","_law_prime"] (sA K)):Cal P w K mg base "_law_draws" 2 ["_law_cell_here","_law_widths","_law_prime"] (fg K):=by
 have nd:=(uN).nd;refine D.ok uN (λvs H Q E h=>?_) (λX hX H vs Q E h=>?_)
 ·obtain⟨c,w,ws,p,rfl,_⟩:=h;rfl
 ·obtain⟨f,cdv,A,outer,s,H0,E0,rfl,hr⟩:=hX;obtain⟨c,w,ws,p,rfl,hw,hpos,hlen,hp,q⟩:=h;refine⟨_,(ah (aA (i:=3) nd rfl (Or.inl rfl) af)
    (ah (cN (aR lB (pv 0) (aq iV af af) (aM _)) (ao (aA (i:=3) nd rfl (Or.inl rfl) (aq cH (pv 0) (aq iV af af)))) aT)
    (ah (aA (i:=4) nd rfl (Or.inl rfl) (bw ae))
    (ah (bG PassesOwn.never rfl (cx rfl T.range_ (aa (br (cZ K) rfl T.len_ PySem.boot_len (aa (pv 1) ae)) ae)) (aN (i:=5) nd rfl (Or.inl rfl)) (ao (cN (aR eB (pv 3) af (aM _)) (ah (aX (bR K Dw DJ DK b0 (pv 4) (aa (aq bN (pv 3) (ai (aE K) (pv 1) (pv 5) (λ_ _=>rfl))) ae)))
    (ao (aA (i:=3) nd rfl (Or.inl rfl) (aq mP (pv 3) (ai (aE K) (pv 1) (pv 5) (λ_ _=>rfl)))))) (ao (aX (bR K Dw DJ DK b0 (pv 4) (aa (aq bN (av C__law_mixed hr (aa (pv 0) (aa (pv 5) (aa (pv 2) ae)))) (ai (aE K) (pv 1) (pv 5) (λ_ _=>rfl))) ae)))))))
    (ao (aB (pv 4))))))),?_⟩
  walk_at"";refine ft (λσ' H'=>H'=H/\∃l,σ'=[some (.int c),some (.ref w),some (.int p),some (.int l),none,none]) ?_ ?_
  ·walk_at"";refine eX (λh=>?_) (λh=>?_)
   ·walk_at"";exact⟨rfl,_,rfl⟩
   ·walk_at"";exact⟨rfl,_,rfl⟩
  rintro σ' H' ⟨rfl,l,rfl⟩;walk_at"";refine aH λf H1 e1 hf hfn=>?_;walk_at"";refine fB (ag.of (e1 _ _ hw)) ?_;rw[Dn];walk_at"";refine cq (by omega) ?_;refine forR (λi σ H2=>Ext H' H2/\∃(l:Int) (k:Option V) (ds:List Int),σ=[some (.int c),some (.ref w),some (.int p),some (.int l),some (.ref f),k]/\H2 f=some (.lst (ds.map V.int))/\ds.length=i/\∀(i:Nat) d x,ds[i]?=some d->ws[i]?=some x->0<=d/\d<x)
   ⟨e1,l,none,[],rfl,hf,rfl,λi d x hd=>by simp at hd⟩ ?_ ?_
  ·rintro i σ H2 hi ⟨e2,l,k,ds,rfl,hf2,hds,hb⟩;rw[DB]at hi;have hwi:ws[i]?=some ws[i]:=Dp hi;have hx:=hpos ws[i] (DO hi);have hat:bo (ws.map V.int) (0+(i:Int))=some (.int ws[i]):=by rw[Int.zero_add];exact dQ (by rw[Dr,hwi];rfl)
   have next:∀d,0<=d->d<ws[i]->∀(j:Nat) (d' x:Int),(ds++[d])[j]?=some d'->ws[j]?=some x->0<=d'/\d'<x:=λd h0 h1 j d' x hj hx'=>by
    rcases Ee j ds.length with h|h
    ·rw[DN h]at hj;exact hb j d' x hj hx'
    ·rw[DM h]at hj;have hj0:j-ds.length=0:=by
      rcases Nat.eq_zero_or_pos (j-ds.length)with h|h
      ·exact h
      ·rw[List.getElem?_eq_none (by simp;omega)]at hj;cases hj
     rw[hj0]at hj;have hji:j=i:=by omega
     subst hji;rw[hwi]at hx';cases hx';have:d=d':=by simpa using hj
     rw[←this];exact⟨h0,h1⟩
   walk_at"";refine hV ?_;walk_at"";refine eX (λh=>?_) (λh=>?_)
   ·have h':1<l:=by simpa using h
    walk_at"";refine⟨dM (ag.of hf2),?_⟩;walk_at"";refine aD (ag.of (e2 _ _ hw)) hat ?_;refine rd_I (show 0<ws[i] by omega) ?_;walk_at"";refine cc hf2 (by rw[Dn];exact Nat.lt_of_le_of_lt (show ds.length<=10000 by omega) (by decide)) ?_;walk_at"";refine aD (ag.of (cJ e2 hfn _ _ hw)) hat ?_;refine rd_I (show 0<ws[i]/\ws[i]<2 ^ 64 by omega) ?_;walk_at"";refine⟨cJ e2 hfn,_,_,ds++[l % ws[i]],rfl,?_,by rw[DG,hds];rfl,next _ (Int.emod_nonneg _ (by omega)) (Int.emod_lt_of_pos _ (by omega))⟩;rw[aJ,DF];rfl
   ·walk_at"";refine⟨dM (ag.of hf2),?_⟩;walk_at"";refine⟨c,0+(i:Int),p,rfl,by omega,by omega,hp,λz hz0 hz1=>?_⟩;walk_at"";refine aD (ag.of (e2 _ _ hw)) hat ?_;refine rd_I (show 0<ws[i] by omega) ?_;walk_at"";refine cc hf2 (by rw[Dn];exact Nat.lt_of_le_of_lt (show ds.length<=10000 by omega) (by decide)) ?_;walk_at"";refine⟨cJ e2 hfn,_,_,ds++[z % ws[i]],rfl,?_,by rw[DG,hds];rfl,next _ (Int.emod_nonneg _ (by omega)) (Int.emod_lt_of_pos _ (by omega))⟩;rw[aJ,DF];rfl
  ·rintro σ H2 ⟨e2,l,k,ds,rfl,hf2,hds,hb⟩;walk_at"";exact q f ds H2 e2 hf2 hfn (by rw[hds,DB]) hb
def wG(K:Dj):Sp:=λvs H Q _=>∃c w,vs=[.int c,.int w]/\0<w/\w<2 ^ 64/\∀z,Q (.int z) H
abbrev lL:Stmt:=stq 71
def qK:FnScope ["_law_cell_here","_law_width"] ["_law_cell_here","_law_width"] (aC lL):=⟨rfl,rfl,rfl,by decide +kernel,rfl,by decide +kernel,by decide +kernel⟩
def zq{P:Program}{w:World}{K:Dj}{mg:Str->Option Value}{base:Heap}(D:Dfn K mg "_law_spare" lL ["_law_cell_here","_law_width"])(T:Blt mg):Cal P w K mg base "_law_spare" 1 ["_law_cell_here","_law_width"] (wG K):=by
 have nd:=(qK).nd;refine D.ok qK (λvs H Q E h=>?_) (λX hX H vs Q E h=>?_)
 ·obtain⟨c,w,rfl,_⟩:=h;rfl
 ·obtain⟨f,cdv,A,outer,s,H0,E0,rfl,hr⟩:=hX;obtain⟨c,w,rfl,h1,h2,q⟩:=h;refine⟨_,(ah (bq (aR lB (pv 0) (aq iV af af) (aM _)) (ao (aB (aq aS (aq mP (aq cH (pv 0) (aq iV af af)) (pv 1)) (aq iV af af)))) aT)
    (ao (aB (aq aS (pv 0) af)))),?_⟩
  walk_at"";refine eX (λh=>?_) (λh=>?_)
  ·walk_at"";exact q _
  ·walk_at"";exact q _
def aL(H:Hp)(bs:List Addr)(ws:List Way):Prop:=bs.length=ws.length/\∀(j:Nat) (b:Addr) (w:Way),bs[j]?=some b->ws[j]?=some w->H b=some (.tup w.vs)
def aL.ext{H H':Hp}{bs:List Addr}{ws:List Way}(e:Ext H H')(h:aL H bs ws):aL H' bs ws:=⟨h.1,λj b w e1 e2=>e _ _ (h.2 j b w e1 e2)⟩
def aL.put{H:Hp}{f:Addr}{xs ys:List V}{bs:List Addr}{ws:List Way}(hf:H f=some (.lst xs))(h:aL H bs ws):aL (upd H f (.lst ys)) bs ws:=⟨h.1,λj b w e1 e2=>by have:=h.2 j b w e1 e2;rw[ax (eC this hf (by intro z;cases z))];exact this⟩
def aL.nil(H:Hp):aL H [] []:=⟨rfl,λj b w e=>by simp at e⟩
def aL.snoc{H:Hp}{bs:List Addr}{ws:List Way}{b:Addr}{w:Way}(h:aL H bs ws)(hb:H b=some (.tup w.vs)):aL H (bs++[b]) (ws++[w]):=by
 refine⟨by simp[h.1],λj b' w' e1 e2=>?_⟩;rcases Ee j bs.length with hj|hj
 ·rw[DN hj]at e1;rw[DN (by rw[←h.1];exact hj)]at e2;exact h.2 j b' w' e1 e2
 ·rw[DM hj]at e1;rw[DM (by rw[←h.1];exact hj),←h.1]at e2;cases hk:j-bs.length with
  | zero=>
   rw[hk]at e1 e2;cases e1;cases e2;exact hb
  | succ k=>rw[hk]at e1;simp at e1
def aL.ways{H:Hp}{p:Addr}{bs:List Addr}{ws:List Way}(h:aL H bs ws)(hp:H p=some (.tup (bs.map V.ref))):bL H p (ws.map Way.key):=
 ⟨bs,hp,by rw[Dn];exact h.1,λj b k e1 e2=>by rw[Dr]at e2;obtain⟨w,hw,rfl⟩:=DA.mp e2;exact h.2 j b w e1 hw⟩
def bL.al{H:Hp}{p:Addr}{ws:List Way}(h:bL H p (ws.map Way.key)):∃bs:List Addr,H p=some (.tup (bs.map V.ref))/\aL H bs ws:=by obtain⟨bs,h1,h2,h3⟩:=h;rw[Dn]at h2;exact⟨bs,h1,h2,λj b w e1 e2=>bL.item h3 e1 e2⟩
abbrev Way.D(w:Way):PyData:=.tuple [.int w.room,.str w.deed,.int w.other,.str w.sign]
structure Way.Lay(w:Way):Prop where
 d:(PyData.str w.deed).canLay0=true
 s:(PyData.str w.sign).canLay0=true
def xS:∀c:Fin 123,97<=c.1->(PyData.str ⟨#[c.1]⟩).canLay0=true:=by decide +kernel
def Way.Ok.lay{m:Int}{w:Way}(h:w.Ok m):w.Lay:=by
 constructor
 ·rcases h.dd with e|e|e|e<;>rw[e]<;>decide +kernel
 ·obtain⟨c,h1,h2,e⟩:=h.sg;rw[e];exact xS ⟨c,Nat.lt_succ_of_le h2⟩ h1
def Way.rep{H:Hp}{b:Addr}{w:Way}(h:H b=some (.tup w.vs))(l:w.Lay):aQ H 1 (.ref b) w.D:=
 .inr ⟨b,w.vs,_,rfl,.inl ⟨h,rfl⟩,.cons rfl (.cons ⟨rfl,l.d⟩ (.cons rfl (.cons ⟨rfl,l.s⟩ .nil)))⟩
def Way.eqv(w u:Way):PyData.eqv w.D u.D=decide (w=u):=by
 simp only[PyData.eqv,PyData.eqvAll];by_cases h:w=u
 ·subst h;simp
 ·rw[El h];obtain⟨a,b,c,d⟩:=w;obtain⟨a',b',c',d'⟩:=u;simp only[Way.mk.injEq,not_and]at h;simp only[Bool.and_true,Bool.and_eq_false_iff,beq_eq_false_iff_ne];by_cases h1:a=a'
  ·by_cases h2:b=b'
   ·by_cases h3:c=c'
    ·exact .inr (.inr (.inr (h h1 h2 h3)))
    ·exact .inr (.inr (.inl h3))
   ·exact .inr (.inl h2)
  ·exact .inl h1
def aL.reps{H:Hp}:∀{bs:List Addr} {ws:List Way},aL H bs ws->(∀w∈ws,w.Lay)->Paired (aQ H 1) (bs.map V.ref) (ws.map Way.D)
 | [],[],_,_=>.nil
 | [],_::_,h,_=>by cases h.1
 | _::_,[],h,_=>by cases h.1
 | b::bs,w::ws,h,l=>.cons (Way.rep (h.2 0 b w rfl rfl) (l w Dv)) (aL.reps ⟨Nat.succ.inj h.1,λj b w e1 e2=>h.2 (j+1) b w e1 e2⟩ λu hu=>l u (Ds _ hu))
def yw(ws:List Way)(w:Way):((ws.map Way.D).any λe=>PyData.eqv e w.D)=decide (w∈ws):=by
 rw[List.any_map];induction ws with
 | nil=>rfl
 | cons u ws ih=>
  rw[List.any_cons,ih,Function.comp_apply,Way.eqv];by_cases h:w∈ws
  ·simp[h]
  ·by_cases e:u=w
   ·simp[e]
   ·have:¬w=u:=λz=>e z.symm;simp[h,e,this]
def oj(K:Dj):Sp:=λvs H Q _=>∃l bs ws,vs=[.ref l]/\H l=some (.lst (bs.map V.ref))/\aL H bs ws/\(∀w∈ws,Way.Lay w)/\ws.length<=200 ∧
 ∀q H' us,Ext H H'->bL H' q (List.map Way.key us)->us.Nodup->(∀u∈us,u∈ws)->us.length<=ws.length->Q (.ref q) H'
abbrev m8:Stmt:=stq 73
def wC:FnScope ["_law_ways","_law_found","_law_way"] ["_law_ways"] (aC m8):=⟨rfl,rfl,rfl,by decide +kernel,rfl,by decide +kernel,by decide +kernel⟩
def Al{P:Program}{w:World}{K:Dj}{mg:Str->Option Value}{base:Heap}(D:Dfn K mg "_law_unlike" m8 ["_law_ways"])(T:Blt mg):Cal P w K mg base "_law_unlike" 1 ["_law_ways"] (oj K):=by
 have nd:=(wC).nd;refine D.ok wC (λvs H Q E h=>?_) (λX hX H vs Q E h=>?_)
 ·obtain⟨l,bs,ws,rfl,_⟩:=h;rfl
 ·obtain⟨f,cdv,A,outer,s,H0,E0,rfl,hr⟩:=hX;obtain⟨l,bs,ws,rfl,hl,al,lay,hlen,q⟩:=h;refine⟨_,(ah (aA (i:=1) nd rfl (Or.inl rfl) (bw ae))
    (ah (bG PassesOwn.never rfl (cV K (pv 0)) (aN (i:=2) nd rfl (Or.inl rfl)) (ao (cN (aR (rG hr) (pv 2) (pv 1) (by with_unfolding_all rfl)) (ao (aX (bR K Dw DJ DK b0 (pv 1) (aa (pv 2) ae)))) aT)))
    (ao (aB (gR (jk K) rfl T.tuple_ PyProof.Rows.boot_tuple (aa (pv 1) ae)))))),?_⟩
  walk_at"";refine aH λf H1 e1 hf hfn=>?_;walk_at"";refine cQ (ag.of (e1 _ _ hl)) ?_;refine forL (xs:=bs.map V.ref) (λi σ H2=>Ext H H2/\∃(k:Option V) (cs:List Addr) (us:List Way),σ=[some (.ref l),some (.ref f),k]/\H2 f=some (.lst (cs.map V.ref))/\aL H2 cs us/\us.Nodup/\(∀u∈us,u∈ws)/\us.length<=i)
   ⟨e1,none,[],[],rfl,hf,aL.nil _,List.nodup_nil,λu hu=>by simp at hu,DI _⟩ (λi σ H2 _ h=>ag.of (h.1 _ _ hl)) ?_ ?_
  ·rintro i x σ H2 hx ⟨e2,k,cs,us,rfl,hf2,al2,nd2,sub2,len2⟩;rw[Dr]at hx;obtain⟨b,hb,rfl⟩:=DA.mp hx;have hi:i<ws.length:=by rw[←al.1];exact(Dx.mp hb).1
   have hwi:ws[i]?=some ws[i]:=Dp hi;have hbw:=e2 _ _ (al.2 i b _ hb hwi);walk_at"";refine hV ?_;walk_at"";refine qY (Way.rep hbw (lay _ (DO hi))) hf2 (al2.reps λu hu=>lay u (sub2 u hu)) (by decide) ?_;simp only[if_true,yw];refine rd_exb ?_;by_cases hm:ws[i]∈us
   ·rw[Em hm];refine aF ?_;walk_at"";exact⟨e2,_,cs,us,rfl,hf2,al2,nd2,sub2,by omega⟩
   ·rw[El hm];refine aI ?_;walk_at"";refine⟨dM (ag.of hf2),?_⟩;walk_at"";refine cc hf2 (by rw[Dn,al2.1];exact Nat.lt_of_le_of_lt (show us.length<=1000 by omega) (by decide)) ?_;walk_at"";refine⟨cJ e2 hfn,_,cs++[b],us++[ws[i]],rfl,by rw[aJ,DF];rfl,(al2.put hf2).snoc ?_,?_,?_,by simp;omega⟩
    ·rw[ax (eC hbw hf2 (by intro z;cases z))];exact hbw
    ·rw[List.nodup_append];exact⟨nd2,by simp,λa ha c hc=>by rw[Dz.mp hc];exact λz=>hm (z ▸ ha)⟩
    ·intro u hu;rcases DL.mp hu with hu|hu
     ·exact sub2 u hu
     ·rw[Dz.mp hu];exact DO hi
  ·rintro σ H2 ⟨e2,k,cs,us,rfl,hf2,al2,nd2,sub2,len2⟩;walk_at"";refine ka (ag.of hf2) (bP λp H3 e3 hp _=>?_);exact q p H3 us (e2.trans e3) ((al2.ext e3).ways hp) nd2 sub2 (by rw[Dn,al.1]at len2;exact len2)
def kg(z:Str):Prop:=∃c:Nat,97<=c/\c<=99/\z=⟨#[c]⟩
structure Way.Ok3(m:Int)(w:Way):Prop where
 r0:0<=w.room
 r1:w.room<m
 o0:0<=w.other
 o1:w.other<m
 dd:bI w.deed
 sg:kg w.sign
structure HOuse3(m:Int)(ws:List Way):Prop where
 m1:1<=m
 m12:m<=12
 few:ws.length<=99
 ok:∀w∈ws,w.Ok3 m
 nd:ws.Nodup
def Way.Ok3.ok{m:Int}{w:Way}(h:w.Ok3 m):w.Ok m:=by obtain⟨c,h1,h2,h3⟩:=h.sg;exact⟨h.r0,h.r1,h.o0,h.o1,h.dd,c,h1,by omega,h3⟩
def Way.Ok3.lay{m:Int}{w:Way}(h:w.Ok3 m):w.Lay:=h.ok.lay
def HOuse3.house{m:Int}{ws:List Way}(h:HOuse3 m ws):HOuse m ws:=⟨h.m1,h.m12,DS h.few (by decide),λw hw=>(h.ok w hw).ok,h.nd⟩
def wV{ds:List Int}{i:Nat}(h:i+4<=ds.length):∃a b c d,dg (ds.map V.int) (some (i:Int)) (some ((i+4:Nat):Int))=[.int a,.int b,.int c,.int d]/\ds[i]?=some a/\ds[i+1]?=some b/\ds[i+2]?=some c/\ds[i+3]?=some d:=by refine⟨ds[i],ds[i+1],ds[i+2],ds[i+3],?_,Dp _,Dp _,Dp _,Dp _⟩;unfold dg;rw[HT.tj,HT.tj,Dn,Nat.min_eq_left (by omega),Nat.min_eq_left (by omega),show i+4-i=4 by omega,←List.map_drop,←List.map_take];rw[List.drop_eq_getElem_cons (show i<ds.length by omega),List.drop_eq_getElem_cons (show i+1<ds.length by omega),List.drop_eq_getElem_cons (show i+1+1<ds.length by omega),List.drop_eq_getElem_cons (show i+1+1+1<ds.length by omega)];rfl
def dU:List Int:=[8,12,13,31]++(Ec 30 ([12,6,12,3]:List Int)).flatten
def xq{k:Nat}(h:k<30):dU[4+4*k]?=some 12/\dU[4+4*k+1]?=some 6/\dU[4+4*k+2]?=some 12/\dU[4+4*k+3]?=some 3:=by
 have:∀k:Fin 30,dU[4+4*k.val]?=some 12/\dU[4+4*k.val+1]?=some 6/\dU[4+4*k.val+2]?=some 12/\dU[4+4*k.val+3]?=some 3:=by decide +kernel
 exact this ⟨k,h⟩
def wx(K:Dj):Sp:=λvs H Q _=>∃c p,vs=[.int c,.int p]/\0<p/\∀v m ws H',Ext H H'->bx H' v m ws->HOuse3 m ws->Q v H'
def xC{e:Int}(h0:0<=e)(h1:e<6):∃z,bo ([.str "up",.str "down",.str "stay",.str "zero",.str "up",.str "down"]:List V) e=some (.str z)/\bI z:=by
 have:e=0\/e=1\/e=2\/e=3\/e=4\/e=5:=by omega
 rcases this with rfl|rfl|rfl|rfl|rfl|rfl
 ·exact⟨_,rfl,.inl rfl⟩
 ·exact⟨_,rfl,.inr (.inl rfl)⟩
 ·exact⟨_,rfl,.inr (.inr (.inl rfl))⟩
 ·exact⟨_,rfl,.inr (.inr (.inr rfl))⟩
 ·exact⟨_,rfl,.inl rfl⟩
 ·exact⟨_,rfl,.inr (.inl rfl)⟩
def yh:(DY "abc").cps.toList=[97,98,99]:=by decide +kernel
def xK{e:Int}(h0:0<=e)(h1:e<3):∃c,bo (DY "abc").cps.toList e=some c/\97<=c/\c<=99:=by
 rw[yh];have:e=0\/e=1\/e=2:=by omega
 rcases this with rfl|rfl|rfl
 ·exact⟨97,rfl,by decide,by decide⟩
 ·exact⟨98,rfl,by decide,by decide⟩
 ·exact⟨99,rfl,by decide,by decide⟩
def xP{e:Int}(h0:0<=e)(h1:e<8):∃w:Int,bo (([4,4,4,5,3,2,5,12]:List Int).map V.int) e=some (.int w)/\1<=w/\w<=12:=by
 obtain⟨n,rfl⟩:=Int.eq_ofNat_of_zero_le h0;have hn:n<8:=Int.ofNat_lt.mp h1;have key:∀i:Fin 8,1<=([4,4,4,5,3,2,5,12]:List Int)[i]/\([4,4,4,5,3,2,5,12]:List Int)[i]<=12:=by decide
 exact⟨([4,4,4,5,3,2,5,12]:List Int)[n],dQ (by rw[Dr,Dp hn];rfl),key ⟨n,hn⟩⟩
def bx.mk{H:Hp}{p q:Addr}{m:Int}{ws:List Way}(h1:H p=some (.tup [.int m,.ref q]))(h2:bL H q (ws.map Way.key)):bx H (.ref p) m ws:=⟨p,q,rfl,h1,h2⟩
abbrev kT:Stmt:=stq 75
def rL:FnScope ["_law_cell_here","_law_prime","_law_draws_here","_law_many","_law_often","_law_ways","_law_k","_law_room","_law_deed","_law_other","_law_sign","_law_word"] ["_law_cell_here","_law_prime"] (aC kT):=⟨rfl,rfl,rfl,by decide +kernel,rfl,by decide +kernel,by decide +kernel⟩
def Dc{P:Program}{w:World}{K:Dj}{mg:Str->Option Value}{base:Heap}(D:Dfn K mg "_law_drawn_house" kT ["_law_cell_here","_law_prime"])(T:Blt mg)(C__law_unlike:Cal P w K mg base "_law_unlike" 1 ["_law_ways"] (oj K))(C__law_draws:Cal P w K mg base "_law_draws" 2 ["_law_cell_here","_law_widths","_law_prime"] (fg K)):Cal P w K mg base "_law_drawn_house" 3 ["_law_cell_here","_law_prime"] (wx K):=by
 have nd:=(rL).nd;refine D.ok rL (λvs H Q E h=>?_) (λX hX H vs Q E h=>?_)
 ·obtain⟨c,p,rfl,_⟩:=h;rfl
 ·obtain⟨f,cdv,A,outer,s,H0,E0,rfl,hr⟩:=hX;obtain⟨c,p,rfl,hp,q⟩:=h;refine⟨_,(@ah _ _ _ _ _ (@aA _ _ 2 _ _ _ _ nd rfl (Or.inl rfl) (av C__law_draws hr (@aa _ _ _ _ _ (pv 0) (@aa _ _ _ _ _ (aq ke (@bw _ _ _ _ (gU (.c (.c (.c (.c .n)))))) (aq i7 (@bw _ _ _ _ (gU (.c (.c (.c (.c .n)))))) af)) (@aa _ _ _ _ _ (pv 1) ae rfl) rfl) rfl)) rfl (Or.inl rfl))
    (@ah _ _ _ _ _ (@aA _ _ 3 _ _ _ _ nd rfl (Or.inl rfl) (aq aS af (aq bN (@ai _ _ _ _ _ _ _ (aE K) (pv 2) af (λ_ _=>rfl)) (@ai _ _ _ _ _ _ _ (aE K) (@bw _ _ _ _ (gU (.c (.c (.c (.c (.c (.c (.c (.c .n)))))))))) (@ai _ _ _ _ _ _ _ (aE K) (pv 2) af (λ_ _=>rfl)) (λ_ _=>rfl)))) rfl (Or.inl rfl))
    (@ah _ _ _ _ _ (@aA _ _ 4 _ _ _ _ nd rfl (Or.inl rfl) (@ai _ _ _ _ _ _ _ (aE K) (pv 2) af (λ_ _=>rfl)) rfl (Or.inl rfl))
    (@ah _ _ _ _ _ (cN (aR bT (@ai _ _ _ _ _ _ _ (aE K) (pv 2) af (λ_ _=>rfl)) af (aM _)) (@ao _ _ _ (@aA _ _ 4 _ _ _ _ nd rfl (Or.inl rfl) (@ai _ _ _ _ _ _ _ (aE K) (pv 2) af (λ_ _=>rfl)) rfl (Or.inl rfl))) aT)
    (@ah _ _ _ _ _ (@aA _ _ 5 _ _ _ _ nd rfl (Or.inl rfl) (@bw _ _ _ _ ae) rfl (Or.inl rfl))
    (@ah _ _ _ _ _ (bG PassesOwn.never rfl (cx rfl T.range_ (@aa _ _ _ _ _ (pv 4) ae rfl)) (aN (i:=6) nd rfl (Or.inl rfl)) (@ah _ _ _ _ _ (@eQ _ _ _ _ _ _ (gW (gE K) (pv 2) (fe (aq aS af (aq dE af (pv 6)))) (fe (aq aS af (aq dE af (pv 6))))) (wU (n:=4) K rfl (bX (aN (i:=7) nd rfl (Or.inl rfl)) (bX (aN (i:=8) nd rfl (Or.inl rfl)) (bX (aN (i:=9) nd rfl (Or.inl rfl)) (bX (aN (i:=10) nd rfl (Or.inl rfl)) fS))))) rfl rfl rfl)
    (@ah _ _ _ _ _ (@aA _ _ 11 _ _ _ _ nd rfl (Or.inl rfl) (@ai _ _ _ _ _ _ _ (aE K) (@bw _ _ _ _ (@aa _ _ _ _ _ aO (@aa _ _ _ _ _ aO (@aa _ _ _ _ _ aO (@aa _ _ _ _ _ aO (@aa _ _ _ _ _ aO (@aa _ _ _ _ _ aO ae rfl) rfl) rfl) rfl) rfl) rfl)) (pv 8) (λ_ _=>rfl)) rfl (Or.inl rfl))
    (@ao _ _ _ (aX (bR K Dw DJ DK b0 (pv 5) (@aa _ _ _ _ _ (@bz _ _ _ _ _ (@aa _ _ _ _ _ (aq bN (pv 7) (pv 3)) (@aa _ _ _ _ _ (pv 11) (@aa _ _ _ _ _ (aq bN (pv 9) (pv 3)) (@aa _ _ _ _ _ (@ai _ _ _ _ _ _ _ vY aO (pv 10) (λ_ _=>rfl)) ae rfl) rfl) rfl) rfl)) ae rfl)))))))
    (@ao _ _ _ (@aB _ _ _ _ (@bz _ _ _ _ _ (@aa _ _ _ _ _ (pv 3) (@aa _ _ _ _ _ (av C__law_unlike hr (@aa _ _ _ _ _ (pv 5) ae rfl)) ae rfl) rfl)))))))))),?_⟩
  walk_at"";refine aH λw0 G1 f1 hw0 _=>?_;walk_at"";refine aH λw1 G2 f2 hw1 _=>?_;walk_at"";refine i4 hw1 (by omega) (bD (by decide)) (bP λw2 G3 f3 hw2 _=>?_);walk_at"";refine kA (f3 _ _ (f2 _ _ hw0)) hw2 (bD (by decide)) (bP λw3 G4 f4 hw3 _=>?_);walk_at"";refine jO dU hw3 (by decide +kernel) (by decide +kernel) (hp) λdq ds H1 e1 hd hdn hl hb=>?_;have eH:Ext H H1:=f1.trans (f2.trans (f3.trans (f4.trans e1)));have hl':ds.length=124:=hl;have at_:∀(i:Nat) (x:Int),dU[i]?=some x->∃d,ds[i]?=some d/\0<=d/\d<x:=λi x hx=>by
   have hi:i<ds.length:=by rw[hl];exact(Dx.mp hx).1
   exact⟨ds[i],Dp hi,hb i _ x (Dp hi) hx⟩
  obtain⟨d0,g0,b00,b01⟩:=at_ 0 8 rfl;obtain⟨d1,g1,b10,b11⟩:=at_ 1 12 rfl;obtain⟨d2,g2,b20,b21⟩:=at_ 2 13 rfl;obtain⟨d3,g3,b30,b31⟩:=at_ 3 31 rfl;have pick:∀{i:Nat} {d:Int},ds[i]?=some d->bo (ds.map V.int) (i:Int)=some (.int d):=λ{i d} h=>dQ (by rw[Dr,h];rfl);walk_at"";refine aD (ag.of hd) (pick (i:=1) g1) ?_;walk_at"";refine aH λmq H2 e2 hmq _=>?_;walk_at"";refine aD (ag.of (e2 _ _ hd)) (pick (i:=0) g0) ?_;obtain⟨w,hw,hw1',hw2'⟩:=xP b00 b01;refine aD (ag.of hmq) hw ?_
  try refine rd_I (show(0:Int)<w by omega) ?_
  walk_at"";have r0:0<=d1 % w:=Int.emod_nonneg _ (by omega);have r1:d1 % w<w:=Int.emod_lt_of_pos _ (by omega);obtain⟨m,hm,m1,m2⟩:∃m,1+d1 % w=m/\1<=m/\m<=12:=⟨_,rfl,by omega,by omega⟩;rw[hm];refine aD (ag.of (e2 _ _ hd)) (pick (i:=2) g2) ?_;walk_at"";have eH2:Ext H H2:=eH.trans e2;have hd2:=e2 _ _ hd;refine ft (λσ' H'=>H'=H2/\∃o:Nat,o<=30/\σ'=[some (.int c),some (.int p),some (.ref dq),some (.int m),some (.int o),none,none,none,none,none,none,none]) ?_ ?_
  ·walk_at"";refine aD (ag.of hd2) (pick (i:=0) g0) ?_;walk_at"";refine eX (λh=>?_) (λh=>?_)
   ·walk_at"";refine aD (ag.of hd2) (pick (i:=3) g3) ?_;walk_at"";exact⟨rfl,d3.toNat,by omega,by rw[DC b30];rfl⟩
   ·walk_at"";exact⟨rfl,d2.toNat,by omega,by rw[DC b20];rfl⟩
  rintro σ' H' ⟨rfl,o,ho,rfl⟩;clear hw hw1' hw2' r0 r1 b00 b01 b10 b11 b20 b21 b30 b31;walk_at"";refine aH λf H3 e3 hf hfn=>?_;walk_at"";refine cq (by omega) ?_;refine forR (λi σ H4=>Ext H' H4/\∃(k1 k2 k3 k4 k5 k6:Option V) (cs:List Addr) (us:List Way),σ=[some (.int c),some (.int p),some (.ref dq),some (.int m),some (.int o),some (.ref f),k1,k2,k3,k4,k5,k6]/\H4 f=some (.lst (cs.map V.ref))/\aL H4 cs us/\(∀u∈us,u.Ok3 m)/\us.length=i)
   ⟨e3,none,none,none,none,none,none,[],[],rfl,hf,aL.nil _,λu hu=>by simp at hu,rfl⟩ ?_ ?_
  ·rintro i σ H4 hi ⟨e4,k1,k2,k3,k4,k5,k6,cs,us,rfl,hf4,al,ok,len⟩;rw[DB]at hi;have hi30:i<30:=by omega
   obtain⟨a,b,c',d,hcut,ga,gb,gc,gd⟩:=wV (ds:=ds) (i:=4+4*i) (by omega);obtain⟨y0,y1,y2,y3⟩:=xq hi30;have ba:=hb _ _ _ ga y0;have bb:=hb _ _ _ gb y1;have bc:=hb _ _ _ gc y2;have bd:=hb _ _ _ gd y3;have hd4:=e4 _ _ hd2;walk_at"";refine ik (ag.of hd4) (bP λt H5 e5 ht htn=>?_);rw[show (4:Int)+4*(0+(i:Int))=((4+4*i:Nat):Int) by omega,show (8:Int)+4*(0+(i:Int))=((4+4*i+4:Nat):Int) by omega,hcut]at ht;walk_at"";refine zt (ag.of ht) rfl ?_;walk_at"";refine aH λu1 H6 e6 hu1 _=>?_;walk_at"";obtain⟨z,hz,okz⟩:=xC bb.1 bb.2;refine aD (ag.of hu1) hz ?_;walk_at"";have hf6:=e6 _ _ (e5 _ _ hf4);refine⟨dM (ag.of hf6),?_⟩;walk_at""
   try refine rd_I (show(0:Int)<m by omega) ?_
   walk_at""
   try refine rd_I (show(0:Int)<m by omega) ?_
   walk_at"";obtain⟨s,hs,s1,s2⟩:=xK bd.1 bd.2;refine⟨_,_,s,rfl,rfl,jD (by decide +kernel),hs,?_⟩;walk_at"";refine aH λv H7 e7 hv _=>?_;have hf7:=e7 _ _ hf6;walk_at"";refine cc hf7 (by rw[Dn,al.1,len];exact Nat.lt_of_le_of_lt (show i<=1000 by omega) (by decide)) ?_;walk_at"";have al7:aL H7 cs us:=((al.ext e5).ext e6).ext e7;have hv7:H7 v=some (.tup (Way.vs ⟨a % m,z,c' % m,⟨#[s]⟩⟩)):=hv;refine⟨cJ (e4.trans (e5.trans (e6.trans e7))) hfn,_,_,_,_,_,_,cs++[v],us++[⟨a % m,z,c' % m,⟨#[s]⟩⟩],rfl,by rw[aJ,DF];rfl,(al7.put hf7).snoc ?_,?_,by simp[len]⟩
   ·rw[ax (eC hv7 hf7 (by intro z;cases z))];exact hv7
   ·intro u hu;rcases DL.mp hu with hu|hu
    ·exact ok u hu
    ·rw[Dz.mp hu];exact⟨Int.emod_nonneg _ (by omega),Int.emod_lt_of_pos _ (by omega),Int.emod_nonneg _ (by omega),Int.emod_lt_of_pos _ (by omega),okz,s,s1,s2,rfl⟩
  ·rintro σ H4 ⟨e4,k1,k2,k3,k4,k5,k6,cs,us,rfl,hf4,al,ok,len⟩;rw[DB]at len;walk_at"";refine⟨f,cs,us,rfl,hf4,al,λu hu=>(ok u hu).lay,by omega,λr H5 ws e5 hws nd sub ln=>?_⟩;walk_at"";refine aH λt H6 e6 ht _=>?_;exact q _ m ws H6 (eH2.trans (e4.trans (e5.trans e6))) (bx.mk ht (hws.ext e6)) ⟨m1,m2,by omega,λu hu=>ok u (sub u hu),nd⟩
structure WL(H0 H:Hp)(f:Addr)(us:List Way):Prop where
 ext:Ext H0 H
 at_:∃cs:List Addr,H f=some (.lst (cs.map V.ref))/\aL H cs us
def WL.nil{H0 H:Hp}{f:Addr}(e:Ext H0 H)(hf:H f=some (.lst [])):WL H0 H f []:=⟨e,[],hf,aL.nil _⟩
def WL.push{H0 H H1:Hp}{f v:Addr}{us:List Way}{w:Way}(h:WL H0 H f us)(hfn:H0 f=none)(e:Ext H H1)(hv:H1 v=some (.tup w.vs)):
  ∃xs,H1 f=some (.lst xs)/\xs.length=us.length/\WL H0 (upd H1 f (.lst (xs++[.ref v]))) f (us++[w]):=by
 obtain⟨e0,cs,hf,al⟩:=h;have hf1:=e _ _ hf;refine⟨cs.map V.ref,hf1,by rw[Dn];exact al.1,cJ (e0.trans e) hfn,cs++[v],by rw[aJ,DF];rfl,((al.ext e).put hf1).snoc ?_⟩;rw[ax (eC hv hf1 (by intro z;cases z))];exact hv
def WL.ty{K:Dj}{H0 H H1:Hp}{f:Addr}{us:List Way}(h:WL H0 H f us)(e:Ext H H1):iT K "list" (.ref f) H1:=by obtain⟨_,cs,hf,al⟩:=h;exact dM (ag.of (e _ _ hf))
def jt:kg "a":=⟨97,by decide,by decide,by decide +kernel⟩
def iA:kg "b":=⟨98,by decide,by decide,by decide +kernel⟩
def lV:kg "c":=⟨99,by decide,by decide,by decide +kernel⟩
def iB:bI "up":=.inl rfl
def jg:bI "down":=.inr (.inl rfl)
def gr:bI "stay":=.inr (.inr (.inl rfl))
def jR:bI "zero":=.inr (.inr (.inr rfl))
def dR{n:Nat}(h:n<=1000):n<sizeLine:=Nat.lt_of_le_of_lt h (by decide)
def ki{a b:V}{e:Int}(h0:0<=e)(h1:e<2):∃v,bo [a,b] e=some v/\(v=a\/v=b):=by
 have:e=0\/e=1:=by omega
 rcases this with rfl|rfl
 ·exact⟨a,rfl,.inl rfl⟩
 ·exact⟨b,rfl,.inr rfl⟩
def dJ{m:Int}{us:List Way}{w:Way}(h:∀u∈us,u.Ok3 m)(hw:w.Ok3 m):∀u∈us++[w],u.Ok3 m:=λu hu=>by
 rcases DL.mp hu with hu|hu
 ·exact h u hu
 ·rw[Dz.mp hu];exact hw
def zf:(DY "ab").cps.toList=[97,98]:=by decide +kernel
def Ao{e:Int}(h0:0<=e)(h1:e<2):∃c,bo (DY "ab").cps.toList e=some c/\97<=c/\c<=99:=by
 rw[zf];have:e=0\/e=1:=by omega
 rcases this with rfl|rfl
 ·exact⟨97,rfl,by decide,by decide⟩
 ·exact⟨98,rfl,by decide,by decide⟩
def bU{ws ds:List Int}(hl:ds.length=ws.length)(hb:∀(i:Nat) (d x:Int),ds[i]?=some d->ws[i]?=some x->0<=d/\d<x)(i:Nat){x:Int}(hx:ws[i]?=some x):∃d,bo (ds.map V.int) (i:Int)=some (.int d)/\0<=d/\d<x:=by
 have hi:i<ds.length:=by rw[hl];exact(Dx.mp hx).1
 have g:ds[i]?=some ds[i]:=Dp hi;exact⟨ds[i],dQ (by rw[Dr,g];rfl),hb i _ x g hx⟩
def sT(K:Dj):Sp:=λvs H Q _=>∃c p,vs=[.int c,.int p]/\0<p/\∀v m ws H',Ext H H'->bx H' v m ws->HOuse3 m ws->Q v H'
abbrev oK:Stmt:=stq 74
def tN:FnScope ["_law_cell_here","_law_prime","_law_draws_here","_law_up","_law_down","_law_many","_law_ways","_law_k"] ["_law_cell_here","_law_prime"] (aC oK):=⟨rfl,rfl,rfl,by decide +kernel,rfl,by decide +kernel,by decide +kernel⟩
def Ak{P:Program}{w:World}{K:Dj}{mg:Str->Option Value}{base:Heap}(D:Dfn K mg "_law_gate_house" oK ["_law_cell_here","_law_prime"])(T:Blt mg)(C__law_unlike:Cal P w K mg base "_law_unlike" 1 ["_law_ways"] (oj K))(C__law_draws:Cal P w K mg base "_law_draws" 2 ["_law_cell_here","_law_widths","_law_prime"] (fg K)):Cal P w K mg base "_law_gate_house" 3 ["_law_cell_here","_law_prime"] (sT K):=by
 have nd:=(tN).nd;refine D.ok tN (λvs H Q E h=>?_) (λX hX H vs Q E h=>?_)
 ·obtain⟨c,p,rfl,_⟩:=h;rfl
 ·obtain⟨f,cdv,A,outer,s,H0,E0,rfl,hr⟩:=hX;obtain⟨c,p,rfl,hp,q⟩:=h;refine⟨_,(@ah _ _ _ _ _ (@aA _ _ 2 _ _ _ _ nd rfl (Or.inl rfl) (av C__law_draws hr (@aa _ _ _ _ _ (pv 0) (@aa _ _ _ _ _ (@bw _ _ _ _ (gU (.c (.c (.c (.c (.c (.c (.c .n))))))))) (@aa _ _ _ _ _ (pv 1) ae rfl) rfl) rfl)) rfl (Or.inl rfl))
    (@ah _ _ _ _ _ (pV (i:=3) (j:=4) rfl nd rfl rfl (by decide) rfl rfl (@aa _ _ _ _ _ (aq aS af (@ai _ _ _ _ _ _ _ (aE K) (pv 2) af (λ_ _=>rfl))) (@aa _ _ _ _ _ (aq aS af (@ai _ _ _ _ _ _ _ (aE K) (pv 2) af (λ_ _=>rfl))) ae rfl) rfl) rfl)
    (@ah _ _ _ _ _ (@aA _ _ 5 _ _ _ _ nd rfl (Or.inl rfl) (aq aS (aq aS (pv 3) (pv 4)) af) rfl (Or.inl rfl))
    (@ah _ _ _ _ _ (@aA _ _ 6 _ _ _ _ nd rfl (Or.inl rfl) (@bw _ _ _ _ ae) rfl (Or.inl rfl))
    (@ah _ _ _ _ _ (bG PassesOwn.never rfl (cx rfl T.range_ (@aa _ _ _ _ _ (pv 3) ae rfl)) (aN (i:=7) nd rfl (Or.inl rfl)) (@ao _ _ _ (aX (bR K Dw DJ DK b0 (pv 6) (@aa _ _ _ _ _ (@bz _ _ _ _ _ (@aa _ _ _ _ _ (pv 7) (@aa _ _ _ _ _ aO (@aa _ _ _ _ _ (aq bN (aq aS (pv 7) af) (pv 3)) (@aa _ _ _ _ _ (@ai _ _ _ _ _ _ _ vY aO (@ai _ _ _ _ _ _ _ (aE K) (pv 2) af (λ_ _=>rfl)) (λ_ _=>rfl)) ae rfl) rfl) rfl) rfl)) ae rfl)))))
    (@ah _ _ _ _ _ (aX (bR K Dw DJ DK b0 (pv 6) (@aa _ _ _ _ _ (@bz _ _ _ _ _ (@aa _ _ _ _ _ (aq bN (@ai _ _ _ _ _ _ _ (aE K) (pv 2) af (λ_ _=>rfl)) (pv 3)) (@aa _ _ _ _ _ aO (@aa _ _ _ _ _ (pv 3) (@aa _ _ _ _ _ aO ae rfl) rfl) rfl) rfl)) ae rfl)))
    (@ah _ _ _ _ _ (bG PassesOwn.never rfl (cx rfl T.range_ (@aa _ _ _ _ _ (pv 4) ae rfl)) (aN (i:=7) nd rfl (Or.inl rfl)) (@ao _ _ _ (aX (bR K Dw DJ DK b0 (pv 6) (@aa _ _ _ _ _ (@bz _ _ _ _ _ (@aa _ _ _ _ _ (aq aS (pv 3) (pv 7)) (@aa _ _ _ _ _ aO (@aa _ _ _ _ _ (aq aS (pv 3) (aq bN (aq aS (pv 7) af) (pv 4))) (@aa _ _ _ _ _ aO ae rfl) rfl) rfl) rfl)) ae rfl)))))
    (@ah _ _ _ _ _ (aX (bR K Dw DJ DK b0 (pv 6) (@aa _ _ _ _ _ (@bz _ _ _ _ _ (@aa _ _ _ _ _ (aq aS (pv 3) (aq bN (@ai _ _ _ _ _ _ _ (aE K) (pv 2) af (λ_ _=>rfl)) (pv 4))) (@aa _ _ _ _ _ aO (@aa _ _ _ _ _ (aq cH (pv 5) af) (@aa _ _ _ _ _ aO ae rfl) rfl) rfl) rfl)) ae rfl)))
    (@ah _ _ _ _ _ (aX (bR K Dw DJ DK b0 (pv 6) (@aa _ _ _ _ _ (@bz _ _ _ _ _ (@aa _ _ _ _ _ (aq cH (pv 5) af) (@aa _ _ _ _ _ (@ai _ _ _ _ _ _ _ (aE K) (@bw _ _ _ _ (@aa _ _ _ _ _ aO (@aa _ _ _ _ _ aO ae rfl) rfl)) (@ai _ _ _ _ _ _ _ (aE K) (pv 2) af (λ_ _=>rfl)) (λ_ _=>rfl)) (@aa _ _ _ _ _ (@ai _ _ _ _ _ _ _ (aE K) (@bw _ _ _ _ (@aa _ _ _ _ _ af (@aa _ _ _ _ _ (aq cH (pv 5) af) ae rfl) rfl)) (@ai _ _ _ _ _ _ _ (aE K) (pv 2) af (λ_ _=>rfl)) (λ_ _=>rfl)) (@aa _ _ _ _ _ aO ae rfl) rfl) rfl) rfl)) ae rfl)))
    (@ao _ _ _ (@aB _ _ _ _ (@bz _ _ _ _ _ (@aa _ _ _ _ _ (pv 5) (@aa _ _ _ _ _ (av C__law_unlike hr (@aa _ _ _ _ _ (pv 6) ae rfl)) ae rfl) rfl))))))))))))),?_⟩
  walk_at"";refine aH λw0 G1 f1 hw0 _=>?_;walk_at"";refine jO [6,5,6,5,2,2,2] hw0 (by decide) (by decide) (hp) λdq ds H1 e1 hd hdn hl hb=>?_;have eH:Ext H H1:=f1.trans e1;obtain⟨d0,g0,b00,b01⟩:=bU hl hb 0 rfl;obtain⟨d1,g1,b10,b11⟩:=bU hl hb 1 rfl;obtain⟨d2,g2,b20,b21⟩:=bU hl hb 2 rfl;obtain⟨d3,g3,b30,b31⟩:=bU hl hb 3 rfl;obtain⟨d4,g4,b40,b41⟩:=bU hl hb 4 rfl;obtain⟨d5,g5,b50,b51⟩:=bU hl hb 5 rfl;obtain⟨d6,g6,b60,b61⟩:=bU hl hb 6 rfl;clear hb hl;walk_at"";refine aD (ag.of hd) g0 ?_;walk_at"";refine aD (ag.of hd) g1 ?_;walk_at"";obtain⟨U,hU⟩:∃U:Nat,1+d0=(U:Int):=⟨(1+d0).toNat,by omega⟩;obtain⟨D,hD⟩:∃D:Nat,1+d1=(D:Int):=⟨(1+d1).toNat,by omega⟩;rw[hU,hD];have u1:1<=U:=by omega
  have u6:U<=6:=by omega
  have v1:1<=D:=by omega
  have v5:D<=5:=by omega
  clear b00 b01 b10 b11 hU hD;obtain⟨m,hm⟩:∃m:Int,(U:Int)+(D:Int)+1=m:=⟨_,rfl⟩;rw[hm];refine aH λf H2 e2 hf hfn=>?_;walk_at"";refine cq (by omega) ?_;have hfn0:H1 f=none:=hfn;refine forR (λi σ H3=>∃(k:Option V) (us:List Way),σ=[some (.int c),some (.int p),some (.ref dq),some (.int U),some (.int D),some (.int m),some (.ref f),k]/\WL H1 H3 f us/\(∀u∈us,u.Ok3 m)/\us.length=i)
   ⟨none,[],rfl,WL.nil e2 hf,λu hu=>by simp at hu,rfl⟩ ?_ ?_
  ·rintro i σ H3 hi ⟨k,us,rfl,wl,ok,len⟩;rw[DB]at hi;walk_at"";refine⟨wl.ty (Ext.rfl' _),?_⟩;walk_at""
   try refine rd_I (show(0:Int)<(U:Int) by omega) ?_
   walk_at"";refine aD (ag.of (wl.ext _ _ hd)) g4 ?_;obtain⟨s,hs,s1,s2⟩:=Ao b40 b41;refine⟨_,_,s,rfl,rfl,jD (by decide +kernel),hs,?_⟩;walk_at"";refine aH λv H4 e4 hv _=>?_;walk_at"";obtain⟨xs,hx,hlx,wl'⟩:=wl.push (w:=⟨0+(i:Int),"up",(0+(i:Int)+1) % (U:Int),⟨#[s]⟩⟩) hfn0 e4 hv;refine cc hx (dR (by omega)) ?_;walk_at"";exact⟨_,_,rfl,wl',dJ ok ⟨by show 0<=0+(i:Int);omega,by show 0+(i:Int)<m;omega,Int.emod_nonneg _ (by omega),Int.lt_trans (Int.emod_lt_of_pos _ (by omega)) (by omega),iB,s,s1,s2,rfl⟩,by simp[len]⟩
  rintro σ H3 ⟨k,us,rfl,wl,ok,len⟩;rw[DB]at len;walk_at"";refine⟨wl.ty (Ext.rfl' _),?_⟩;walk_at"";refine aD (ag.of (wl.ext _ _ hd)) g2 ?_
  try refine rd_I (show(0:Int)<(U:Int) by omega) ?_
  walk_at"";refine aH λv H4 e4 hv _=>?_;walk_at"";have r0:0<=d2 % (U:Int):=Int.emod_nonneg _ (by omega);have r1:d2 % (U:Int)<U:=Int.emod_lt_of_pos _ (by omega);obtain⟨xs,hx,hlx,wl2⟩:=wl.push (w:=⟨d2 % (U:Int),"stay",(U:Int),"b"⟩) hfn0 e4 hv;have ok2:=dJ ok (w:=⟨d2 % (U:Int),"stay",(U:Int),"b"⟩) ⟨r0,by show d2 % (U:Int)<m;omega,by show 0<=(U:Int);omega,by show(U:Int)<m;omega,gr,iA⟩;refine cc hx (dR (by omega)) ?_;generalize upd H4 f _=H5 at wl2 ⊢;generalize hus2:us++[_]=us2 at wl2 ok2;have len2:us2.length=U+1:=by rw[←hus2];simp[len]
  clear hus2 hx hlx hv e4 r0 r1 wl ok len;walk_at"";refine cq (by omega) ?_;refine forR (λi σ H3=>∃(k:Option V) (us:List Way),σ=[some (.int c),some (.int p),some (.ref dq),some (.int U),some (.int D),some (.int m),some (.ref f),k]/\WL H1 H3 f us/\(∀u∈us,u.Ok3 m)/\us.length=U+1+i)
   ⟨_,us2,rfl,wl2,ok2,len2⟩ ?_ ?_
  ·rintro i σ H3 hi ⟨k,us,rfl,wl,ok,len⟩;rw[DB]at hi;walk_at"";refine⟨wl.ty (Ext.rfl' _),?_⟩;walk_at""
   try refine rd_I (show(0:Int)<(D:Int) by omega) ?_
   walk_at"";refine aH λv H4 e4 hv _=>?_;walk_at"";have r0:0<=(0+(i:Int)+1) % (D:Int):=Int.emod_nonneg _ (by omega);have r1:(0+(i:Int)+1) % (D:Int)<D:=Int.emod_lt_of_pos _ (by omega);obtain⟨xs,hx,hlx,wl'⟩:=wl.push (w:=⟨(U:Int)+(0+(i:Int)),"down",(U:Int)+(0+(i:Int)+1) % (D:Int),"a"⟩) hfn0 e4 hv;refine cc hx (dR (by omega)) ?_;walk_at"";exact⟨_,_,rfl,wl',dJ ok ⟨by show 0<=(U:Int)+(0+(i:Int));omega,by show(U:Int)+(0+(i:Int))<m;omega,by show 0<=(U:Int)+(0+(i:Int)+1) % (D:Int);omega,by show(U:Int)+(0+(i:Int)+1) % (D:Int)<m;omega,jg,jt⟩,by simp[len];omega⟩
  clear wl2 ok2 len2;rintro σ H3 ⟨k,us,rfl,wl,ok,len⟩;rw[DB]at len;walk_at"";refine⟨wl.ty (Ext.rfl' _),?_⟩;walk_at"";refine aD (ag.of (wl.ext _ _ hd)) g3 ?_
  try refine rd_I (show(0:Int)<(D:Int) by omega) ?_
  walk_at"";refine aH λv H4 e4 hv _=>?_;walk_at"";have r0:0<=d3 % (D:Int):=Int.emod_nonneg _ (by omega);have r1:d3 % (D:Int)<D:=Int.emod_lt_of_pos _ (by omega);obtain⟨xs,hx,hlx,wl2⟩:=wl.push (w:=⟨(U:Int)+d3 % (D:Int),"zero",m-1,"c"⟩) hfn0 e4 hv;have ok2:=dJ ok (w:=⟨(U:Int)+d3 % (D:Int),"zero",m-1,"c"⟩) ⟨by show 0<=(U:Int)+d3 % (D:Int);omega,by show(U:Int)+d3 % (D:Int)<m;omega,by show 0<=m-1;omega,by show m-1<m;omega,jR,lV⟩;refine cc hx (dR (by omega)) ?_;generalize upd H4 f _=H5 at wl2 ⊢;generalize hus2:us++[_]=us2 at wl2 ok2;have len2:us2.length=U+D+2:=by rw[←hus2];simp[len];omega
  clear hus2 hx hlx hv e4 r0 r1 wl ok len;walk_at"";refine⟨wl2.ty (Ext.rfl' _),?_⟩;walk_at"";refine aH λt1 H6 e6 ht1 _=>?_;walk_at"";refine aD (ag.of (e6 _ _ (wl2.ext _ _ hd))) g5 ?_;obtain⟨x5,hx5,ax5⟩:=ki (a:=V.str "up") (b:=V.str "stay") b50 b51;refine aD (ag.of ht1) hx5 ?_;walk_at"";refine aH λt2 H7 e7 ht2 _=>?_;walk_at"";refine aD (ag.of (e7 _ _ (e6 _ _ (wl2.ext _ _ hd)))) g6 ?_;obtain⟨x6,hx6,ax6⟩:=ki (a:=V.int 0) (b:=V.int (m-1)) b60 b61;refine aD (ag.of ht2) hx6 ?_;walk_at"";refine aH λv H8 e8 hv _=>?_;walk_at"";obtain⟨z,rfl,oz⟩:∃z,x5=.str z/\bI z:=by
   rcases ax5 with rfl|rfl
   ·exact⟨_,rfl,iB⟩
   ·exact⟨_,rfl,gr⟩
  obtain⟨y,rfl,y0,y1⟩:∃y:Int,x6=.int y/\0<=y/\y<m:=by
   rcases ax6 with rfl|rfl
   ·exact⟨_,rfl,by omega,by omega⟩
   ·exact⟨_,rfl,by omega,by omega⟩
  obtain⟨xs,hx,hlx,wl3⟩:=wl2.push (w:=⟨m-1,z,y,"b"⟩) hfn0 (e6.trans (e7.trans e8)) hv;have ok3:=dJ ok2 (w:=⟨m-1,z,y,"b"⟩) ⟨by show 0<=m-1;omega,by show m-1<m;omega,y0,y1,oz,iA⟩;refine cc hx (dR (by omega)) ?_;generalize upd H8 f _=H9 at wl3 ⊢;generalize hus3:us2++[_]=us3 at wl3 ok3;have len3:us3.length=U+D+3:=by rw[←hus3];simp[len2]
  walk_at"";obtain⟨ew,cs,hcs,al⟩:=wl3;refine⟨f,cs,us3,rfl,hcs,al,λu hu=>(ok3 u hu).lay,by omega,λr I1 ws e5 hws nd sub ln=>?_⟩;walk_at"";refine aH λt I2 e6' ht _=>?_;exact q _ m ws I2 (eH.trans (ew.trans (e5.trans e6'))) (bx.mk ht (hws.ext e6')) ⟨by omega,by omega,by omega,λu hu=>ok3 u (sub u hu),nd⟩
def aL.rev{H:Hp}{bs:List Addr}{ws:List Way}(h:aL H bs ws):aL H bs.reverse ws.reverse:=by
 refine⟨by rw[List.length_reverse,List.length_reverse];exact h.1,λj b w e1 e2=>?_⟩;have hj:j<bs.length:=by have:=(Dx.mp e1).1;simpa using this
 rw[List.getElem?_reverse hj]at e1;rw[List.getElem?_reverse (by rw[←h.1];exact hj),←h.1]at e2;exact h.2 _ b w e1 e2
def fY{us:List Way}{w:Way}(h:us.Nodup)(hw:w∉us):(us++[w]).Nodup:=by rw[List.nodup_append];exact⟨h,by simp,λa ha c hc=>by rw[Dz.mp hc];exact λz=>hw (z ▸ ha)⟩
def iR{P:Way->Prop}{us:List Way}{w:Way}(h:∀u∈us,P u)(hw:P w):∀u∈us++[w],P u:=λu hu=>by
 rcases DL.mp hu with hu|hu
 ·exact h u hu
 ·rw[Dz.mp hu];exact hw
def sM:(DY "a")≠"b":=by decide +kernel
def uX:(DY "a")≠"c":=by decide +kernel
def o6:(DY "b")≠"c":=by decide +kernel
def vX(K:Dj):Sp:=λvs H Q _=>∃c p,vs=[.int c,.int p]/\0<p/\∀v m ws H',Ext H H'->bx H' v m ws->HOuse3 m ws->Q v H'
abbrev lK:Stmt:=stq 72
def vx:FnScope ["_law_cell_here","_law_prime","_law_draws_here","_law_one","_law_two","_law_many","_law_ways","_law_k"] ["_law_cell_here","_law_prime"] (aC lK):=⟨rfl,rfl,rfl,by decide +kernel,rfl,by decide +kernel,by decide +kernel⟩
def BF{P:Program}{w:World}{K:Dj}{mg:Str->Option Value}{base:Heap}(D:Dfn K mg "_law_ring_house" lK ["_law_cell_here","_law_prime"])(T:Blt mg)(C__law_draws:Cal P w K mg base "_law_draws" 2 ["_law_cell_here","_law_widths","_law_prime"] (fg K)):Cal P w K mg base "_law_ring_house" 3 ["_law_cell_here","_law_prime"] (vX K):=by
 have nd:=(vx).nd;refine D.ok vx (λvs H Q E h=>?_) (λX hX H vs Q E h=>?_)
 ·obtain⟨c,p,rfl,_⟩:=h;rfl
 ·obtain⟨f,cdv,A,outer,s,H0,E0,rfl,hr⟩:=hX;obtain⟨c,p,rfl,hp,q⟩:=h;refine⟨_,(@ah _ _ _ _ _ (@aA _ _ 2 _ _ _ _ nd rfl (Or.inl rfl) (av C__law_draws hr (@aa _ _ _ _ _ (pv 0) (@aa _ _ _ _ _ (@bw _ _ _ _ (gU (.c (.c (.c (.c (.c (.c (.c .n))))))))) (@aa _ _ _ _ _ (pv 1) ae rfl) rfl) rfl)) rfl (Or.inl rfl))
    (@ah _ _ _ _ _ (pV (i:=3) (j:=4) rfl nd rfl rfl (by decide) rfl rfl (@aa _ _ _ _ _ (aq aS af (@ai _ _ _ _ _ _ _ (aE K) (pv 2) af (λ_ _=>rfl))) (@aa _ _ _ _ _ (aq aS af (@ai _ _ _ _ _ _ _ (aE K) (pv 2) af (λ_ _=>rfl))) ae rfl) rfl) rfl)
    (@ah _ _ _ _ _ (@aA _ _ 5 _ _ _ _ nd rfl (Or.inl rfl) (aq aS (aq aS (pv 3) (pv 4)) af) rfl (Or.inl rfl))
    (@ah _ _ _ _ _ (@aA _ _ 6 _ _ _ _ nd rfl (Or.inl rfl) (@bw _ _ _ _ (@aa _ _ _ _ _ (@bz _ _ _ _ _ (@aa _ _ _ _ _ af (@aa _ _ _ _ _ aO (@aa _ _ _ _ _ af (@aa _ _ _ _ _ aO ae rfl) rfl) rfl) rfl)) (@aa _ _ _ _ _ (@bz _ _ _ _ _ (@aa _ _ _ _ _ af (@aa _ _ _ _ _ (@ai _ _ _ _ _ _ _ (aE K) (@bw _ _ _ _ (@aa _ _ _ _ _ aO (@aa _ _ _ _ _ aO ae rfl) rfl)) (@ai _ _ _ _ _ _ _ (aE K) (pv 2) af (λ_ _=>rfl)) (λ_ _=>rfl)) (@aa _ _ _ _ _ (aq aS af (pv 3)) (@aa _ _ _ _ _ aO ae rfl) rfl) rfl) rfl)) ae rfl) rfl)) rfl (Or.inl rfl))
    (@ah _ _ _ _ _ (bG PassesOwn.never rfl (cx rfl T.range_ (@aa _ _ _ _ _ (pv 3) ae rfl)) (aN (i:=7) nd rfl (Or.inl rfl)) (@ao _ _ _ (aX (bR K Dw DJ DK b0 (pv 6) (@aa _ _ _ _ _ (@bz _ _ _ _ _ (@aa _ _ _ _ _ (aq aS af (pv 7)) (@aa _ _ _ _ _ aO (@aa _ _ _ _ _ (aq aS af (aq bN (aq aS (pv 7) af) (pv 3))) (@aa _ _ _ _ _ aO ae rfl) rfl) rfl) rfl)) ae rfl)))))
    (@ah _ _ _ _ _ (bG PassesOwn.never rfl (cx rfl T.range_ (@aa _ _ _ _ _ (pv 4) ae rfl)) (aN (i:=7) nd rfl (Or.inl rfl)) (@ao _ _ _ (aX (bR K Dw DJ DK b0 (pv 6) (@aa _ _ _ _ _ (@bz _ _ _ _ _ (@aa _ _ _ _ _ (aq aS (aq aS af (pv 3)) (pv 7)) (@aa _ _ _ _ _ (@ai _ _ _ _ _ _ _ (aE K) (@bw _ _ _ _ (@aa _ _ _ _ _ aO (@aa _ _ _ _ _ aO ae rfl) rfl)) (@ai _ _ _ _ _ _ _ (aE K) (pv 2) af (λ_ _=>rfl)) (λ_ _=>rfl)) (@aa _ _ _ _ _ (aq aS (aq aS af (pv 3)) (aq bN (aq aS (pv 7) af) (pv 4))) (@aa _ _ _ _ _ aO ae rfl) rfl) rfl) rfl)) ae rfl)))))
    (@ah _ _ _ _ _ (aX (bR K Dw DJ DK b0 (pv 6) (@aa _ _ _ _ _ (@bz _ _ _ _ _ (@aa _ _ _ _ _ af (@aa _ _ _ _ _ aO (@aa _ _ _ _ _ (aq cH (pv 5) af) (@aa _ _ _ _ _ aO ae rfl) rfl) rfl) rfl)) ae rfl)))
    (@ah _ _ _ _ _ (aX (bR K Dw DJ DK b0 (pv 6) (@aa _ _ _ _ _ (@bz _ _ _ _ _ (@aa _ _ _ _ _ (aq aS af (pv 3)) (@aa _ _ _ _ _ aO (@aa _ _ _ _ _ (aq cH (pv 5) af) (@aa _ _ _ _ _ aO ae rfl) rfl) rfl) rfl)) ae rfl)))
    (@ah _ _ _ _ _ (cN (aR bT (@ai _ _ _ _ _ _ _ (aE K) (pv 2) af (λ_ _=>rfl)) af (aM _)) (@ao _ _ _ (aX (bR K Dw DJ DK b0 (pv 6) (@aa _ _ _ _ _ (@bz _ _ _ _ _ (@aa _ _ _ _ _ (aq cH (pv 5) af) (@aa _ _ _ _ _ aO (@aa _ _ _ _ _ (aq cH (pv 5) af) (@aa _ _ _ _ _ aO ae rfl) rfl) rfl) rfl)) ae rfl)))) aT)
    (@ah _ _ _ _ _ (cN (aR bT (@ai _ _ _ _ _ _ _ (aE K) (pv 2) af (λ_ _=>rfl)) af (aM _)) (@ao _ _ _ (aX (bR K Dw DJ DK b0 (pv 6) (@aa _ _ _ _ _ (@bz _ _ _ _ _ (@aa _ _ _ _ _ (aq cH (pv 5) af) (@aa _ _ _ _ _ aO (@aa _ _ _ _ _ af (@aa _ _ _ _ _ aO ae rfl) rfl) rfl) rfl)) ae rfl)))) aT)
    (@ah _ _ _ _ _ (cN (aR bT (@ai _ _ _ _ _ _ _ (aE K) (pv 2) af (λ_ _=>rfl)) af (aM _)) (@ao _ _ _ (@aA _ _ 6 _ _ _ _ nd rfl (Or.inl rfl) (xF K (pv 6) (fe (ir gX af))) rfl (Or.inl rfl))) aT)
    (@ao _ _ _ (@aB _ _ _ _ (@bz _ _ _ _ _ (@aa _ _ _ _ _ (pv 5) (@aa _ _ _ _ _ (gR (jk K) rfl T.tuple_ PyProof.Rows.boot_tuple (@aa _ _ _ _ _ (pv 6) ae rfl)) ae rfl) rfl))))))))))))))),?_⟩
  walk_at"";refine aH λw0 G1 f1 hw0 _=>?_;walk_at"";refine jO [5,5,2,2,4,4,2] hw0 (by decide) (by decide) (hp) λdq ds H1 e1 hd hdn hl hb=>?_;have eH:Ext H H1:=f1.trans e1;obtain⟨d0,g0,b00,b01⟩:=bU hl hb 0 rfl;obtain⟨d1,g1,b10,b11⟩:=bU hl hb 1 rfl;obtain⟨d2,g2,b20,b21⟩:=bU hl hb 2 rfl;obtain⟨d3,g3,b30,b31⟩:=bU hl hb 3 rfl;obtain⟨d4,g4,_⟩:=bU hl hb 4 rfl;obtain⟨d5,g5,_⟩:=bU hl hb 5 rfl;obtain⟨d6,g6,_⟩:=bU hl hb 6 rfl;clear hb hl;walk_at"";refine aD (ag.of hd) g0 ?_;walk_at"";refine aD (ag.of hd) g1 ?_;walk_at"";obtain⟨U,hU⟩:∃U:Nat,1+d0=(U:Int):=⟨(1+d0).toNat,by omega⟩;obtain⟨D,hD⟩:∃D:Nat,1+d1=(D:Int):=⟨(1+d1).toNat,by omega⟩;rw[hU,hD];have u1:1<=U:=by omega
  have u6:U<=5:=by omega
  have v1:1<=D:=by omega
  have v5:D<=5:=by omega
  clear b00 b01 b10 b11 hU hD;obtain⟨m,hm⟩:∃m:Int,(U:Int)+(D:Int)+2=m:=⟨_,rfl⟩;rw[hm];refine aH λa1 H2 e2 ha1 _=>?_;walk_at"";refine aH λt1 H3 e3 ht1 _=>?_;walk_at"";refine aD (ag.of (e3 _ _ (e2 _ _ hd))) g2 ?_;obtain⟨x2,hx2,ax2⟩:=ki (a:=V.str "stay") (b:=V.str "zero") b20 b21;refine aD (ag.of ht1) hx2 ?_;walk_at"";obtain⟨z2,rfl,oz2⟩:∃z,x2=.str z/\bI z:=by
   rcases ax2 with rfl|rfl
   ·exact⟨_,rfl,gr⟩
   ·exact⟨_,rfl,jR⟩
  refine aH λa2 H4 e4 ha2 _=>?_;walk_at"";refine aH λf H5 e5 hf hfn=>?_;have e15:Ext H1 H5:=e2.trans (e3.trans (e4.trans e5));have hfn0:H1 f=none:=(e2.trans (e3.trans e4)).none hfn;obtain⟨y1,hy1⟩:∃y:Way,y=⟨0,"stay",1,"a"⟩:=⟨_,rfl⟩;obtain⟨y2,hy2⟩:∃y:Way,y=⟨0,z2,1+(U:Int),"b"⟩:=⟨_,rfl⟩;have wl0:WL H1 H5 f [y1,y2]:=by
   refine⟨e15,[a1,a2],hf,?_⟩;have k1:H5 a1=some (.tup y1.vs):=by rw[hy1];exact e5 _ _ (e4 _ _ (e3 _ _ ha1))
   have k2:H5 a2=some (.tup y2.vs):=by rw[hy2];exact e5 _ _ ha2
   exact((aL.nil H5).snoc k1).snoc k2
  have ok0:∀u∈[y1,y2],u.Ok3 m:=by
   intro u hu;rcases DD.mp hu with rfl|hu
   ·subst hy1;exact⟨Int.le_refl _,by show(0:Int)<m;omega,by show(0:Int)<=1;decide,by show(1:Int)<m;omega,gr,jt⟩
   ·rw[Dz.mp hu];subst hy2;exact⟨Int.le_refl _,by show(0:Int)<m;omega,by show(0:Int)<=1+(U:Int);omega,by show 1+(U:Int)<m;omega,oz2,iA⟩
  have nd0:[y1,y2].Nodup:=by subst hy1 hy2;refine List.nodup_cons.mpr ⟨λz=>?_,by simp⟩;have:=congrArg Way.sign (Dz.mp z);exact sM this
  have pr0:∀u∈[y1,y2],u.room<=((0:Nat):Int)/\u.sign≠"c":=by
   intro u hu;rcases DD.mp hu with rfl|hu
   ·subst hy1;exact⟨Int.le_refl _,uX⟩
   ·rw[Dz.mp hu];subst hy2;exact⟨Int.le_refl _,o6⟩
  have ln0:[y1,y2].length=2:=rfl;generalize [y1,y2]=us0 at wl0 ok0 nd0 pr0 ln0;clear hy1 hy2 ha1 ha2 ht1 hf e2 e3 e4 e5;walk_at"";refine cq (by omega) ?_;refine forR (λi σ H3=>∃(k:Option V) (us:List Way),σ=[some (.int c),some (.int p),some (.ref dq),some (.int U),some (.int D),some (.int m),some (.ref f),k]/\WL H1 H3 f us/\(∀u∈us,u.Ok3 m)/\us.Nodup/\(∀u∈us,u.room<=(i:Int)/\u.sign≠"c")/\us.length=2+i)
   ⟨none,us0,rfl,wl0,ok0,nd0,pr0,ln0⟩ ?_ ?_
  ·rintro i σ H3 hi ⟨k,us,rfl,wl,ok,nd',pr,len⟩;rw[DB]at hi;walk_at"";refine⟨wl.ty (Ext.rfl' _),?_⟩;walk_at""
   try refine rd_I (show(0:Int)<(U:Int) by omega) ?_
   walk_at"";refine aH λv H4 e4 hv _=>?_;walk_at"";have r0:0<=(0+(i:Int)+1) % (U:Int):=Int.emod_nonneg _ (by omega);have r1:(0+(i:Int)+1) % (U:Int)<U:=Int.emod_lt_of_pos _ (by omega);obtain⟨xs,hx,hlx,wl'⟩:=wl.push (w:=⟨1+(0+(i:Int)),"up",1+(0+(i:Int)+1) % (U:Int),"a"⟩) hfn0 e4 hv;refine cc hx (dR (by omega)) ?_;walk_at"";refine⟨_,_,rfl,wl',dJ ok ⟨by show 0<=1+(0+(i:Int));omega,by show 1+(0+(i:Int))<m;omega,by show 0<=1+(0+(i:Int)+1) % (U:Int);omega,by show 1+(0+(i:Int)+1) % (U:Int)<m;omega,iB,jt⟩,fY nd' λz=>?_,iR (λu hu=>⟨by have:=(pr u hu).1;omega,(pr u hu).2⟩) ⟨by show 1+(0+(i:Int))<=_;omega,uX⟩,by simp[len];omega⟩;have:=(pr _ z).1;have:1+(0+(i:Int))<=(i:Int):=this;omega
  clear wl0 ok0 nd0 pr0 ln0;rintro σ H3 ⟨k,us,rfl,wl,ok,nd',pr,len⟩;rw[DB]at pr len;walk_at"";refine cq (by omega) ?_;refine forR (λi σ H3=>∃(k:Option V) (us:List Way),σ=[some (.int c),some (.int p),some (.ref dq),some (.int U),some (.int D),some (.int m),some (.ref f),k]/\WL H1 H3 f us/\(∀u∈us,u.Ok3 m)/\us.Nodup/\(∀u∈us,u.room<=(U:Int)+(i:Int)/\u.sign≠"c"/\(u.room=1+(U:Int)->u.sign = "b"))/\us.length=2+U+i)
   ⟨_,us,rfl,wl,ok,nd',λu hu=>⟨by have:=(pr u hu).1;omega,(pr u hu).2,λz=>by have:=(pr u hu).1;omega⟩,len⟩ ?_ ?_
  ·clear wl ok nd' pr len;rintro i σ H3 hi ⟨k,us,rfl,wl,ok,nd',pr,len⟩;rw[DB]at hi;walk_at"";refine⟨wl.ty (Ext.rfl' _),?_⟩;walk_at"";refine aH λt1 H6 e6 ht1 _=>?_;walk_at"";refine aD (ag.of (e6 _ _ (wl.ext _ _ hd))) g3 ?_;obtain⟨x3,hx3,ax3⟩:=ki (a:=V.str "up") (b:=V.str "down") b30 b31;refine aD (ag.of ht1) hx3 ?_;walk_at"";obtain⟨z3,rfl,oz3⟩:∃z,x3=.str z/\bI z:=by
    rcases ax3 with rfl|rfl
    ·exact⟨_,rfl,iB⟩
    ·exact⟨_,rfl,jg⟩
   try refine rd_I (show(0:Int)<(D:Int) by omega) ?_
   walk_at"";refine aH λv H4 e4 hv _=>?_;walk_at"";have r0:0<=(0+(i:Int)+1) % (D:Int):=Int.emod_nonneg _ (by omega);have r1:(0+(i:Int)+1) % (D:Int)<D:=Int.emod_lt_of_pos _ (by omega);obtain⟨xs,hx,hlx,wl'⟩:=wl.push (w:=⟨1+(U:Int)+(0+(i:Int)),z3,1+(U:Int)+(0+(i:Int)+1) % (D:Int),"b"⟩) hfn0 (e6.trans e4) hv;refine cc hx (dR (by omega)) ?_;walk_at"";refine⟨_,_,rfl,wl',dJ ok ⟨by show 0<=1+(U:Int)+(0+(i:Int));omega,by show 1+(U:Int)+(0+(i:Int))<m;omega,by show 0<=1+(U:Int)+(0+(i:Int)+1) % (D:Int);omega,by show 1+(U:Int)+(0+(i:Int)+1) % (D:Int)<m;omega,oz3,iA⟩,fY nd' λz=>?_,iR (λu hu=>⟨by have:=(pr u hu).1;omega,(pr u hu).2⟩) ⟨by show 1+(U:Int)+(0+(i:Int))<=_;omega,o6,λ_=>rfl⟩,by simp[len];omega⟩;have:=(pr _ z).1;have:1+(U:Int)+(0+(i:Int))<=(U:Int)+(i:Int):=this;omega
  clear wl ok nd' pr len;rintro σ H3 ⟨k,us,rfl,wl,ok,nd',pr,len⟩;rw[DB]at pr len;walk_at"";refine⟨wl.ty (Ext.rfl' _),?_⟩;walk_at"";refine aH λv H4 e4 hv _=>?_;walk_at"";obtain⟨xs,hx,hlx,wl2⟩:=wl.push (w:=⟨1,"stay",m-1,"c"⟩) hfn0 e4 hv;have ok2:=dJ ok (w:=⟨1,"stay",m-1,"c"⟩) ⟨by show(0:Int)<=1;decide,by show(1:Int)<m;omega,by show 0<=m-1;omega,by show m-1<m;omega,gr,lV⟩;have nd2:=fY nd' (w:=⟨1,"stay",m-1,"c"⟩) λz=>(pr _ z).2.1 rfl;have pr2:=iR (P:=λu=>u.room<=(U:Int)+(D:Int)/\(u.room=1+(U:Int)->u.sign = "b")) (λu hu=>⟨(pr u hu).1,(pr u hu).2.2⟩) (w:=⟨1,"stay",m-1,"c"⟩) ⟨by show(1:Int)<=_;omega,λz=>by have:(1:Int)=1+(U:Int):=z;omega⟩;refine cc hx (dR (by omega)) ?_;generalize upd H4 f _=H5 at wl2 ⊢;generalize hus2:us++[_]=us2 at wl2 ok2 nd2 pr2;have len2:us2.length=3+U+D:=by rw[←hus2];simp[len];omega
  clear hus2 hx hlx hv e4 wl ok nd' pr len;walk_at"";refine⟨wl2.ty (Ext.rfl' _),?_⟩;walk_at"";refine aH λv H4 e4 hv _=>?_;walk_at"";obtain⟨xs,hx,hlx,wl3⟩:=wl2.push (w:=⟨1+(U:Int),"stay",m-1,"a"⟩) hfn0 e4 hv;have ok3:=dJ ok2 (w:=⟨1+(U:Int),"stay",m-1,"a"⟩) ⟨by show(0:Int)<=1+(U:Int);omega,by show 1+(U:Int)<m;omega,by show 0<=m-1;omega,by show m-1<m;omega,gr,jt⟩;have nd3:=fY nd2 (w:=⟨1+(U:Int),"stay",m-1,"a"⟩) λz=>sM ((pr2 _ z).2 rfl);have pr3:=iR (P:=λu=>u.room<=(U:Int)+(D:Int)) (λu hu=>(pr2 u hu).1) (w:=⟨1+(U:Int),"stay",m-1,"a"⟩) (by show 1+(U:Int)<=_;omega);refine cc hx (dR (by omega)) ?_;generalize upd H4 f _=H6 at wl3 ⊢;generalize hus3:us2++[_]=us3 at wl3 ok3 nd3 pr3;have len3:us3.length=4+U+D:=by rw[←hus3];simp[len2];omega
  clear hus3 hx hlx hv e4 wl2 ok2 nd2 pr2 len2;walk_at"";refine ft (λσ' H'=>∃(k:Option V) (us:List Way),σ'=[some (.int c),some (.int p),some (.ref dq),some (.int U),some (.int D),some (.int m),some (.ref f),k]/\WL H1 H' f us/\(∀u∈us,u.Ok3 m)/\us.Nodup/\(∀u∈us,u.room<=(U:Int)+(D:Int)\/u.sign = "c")/\us.length<=5+U+D) ?_ ?_
  ·walk_at"";refine aD (ag.of (wl3.ext _ _ hd)) g4 ?_;walk_at"";refine eX (λh=>?_) (λh=>?_)
   ·walk_at"";refine⟨wl3.ty (Ext.rfl' _),?_⟩;walk_at"";refine aH λv H4 e4 hv _=>?_;walk_at"";obtain⟨xs,hx,hlx,wl4⟩:=wl3.push (w:=⟨m-1,"down",m-1,"c"⟩) hfn0 e4 hv;refine cc hx (dR (by omega)) ?_;walk_at"";exact⟨_,_,rfl,wl4,dJ ok3 ⟨by show 0<=m-1;omega,by show m-1<m;omega,by show 0<=m-1;omega,by show m-1<m;omega,jg,lV⟩,fY nd3 λz=>by have:m-1<=(U:Int)+(D:Int):=pr3 _ z;omega,iR (λu hu=>.inl (pr3 u hu)) (.inr rfl),by simp[len3];omega⟩
   ·walk_at"";exact⟨_,us3,rfl,wl3,ok3,nd3,λu hu=>.inl (pr3 u hu),by omega⟩
  clear wl3 ok3 nd3 pr3 len3;rintro σ' H7 ⟨k,us,rfl,wl,ok,nd',pr,len⟩;walk_at"";refine ft (λσ' H'=>∃(k:Option V) (us:List Way),σ'=[some (.int c),some (.int p),some (.ref dq),some (.int U),some (.int D),some (.int m),some (.ref f),k]/\WL H1 H' f us/\(∀u∈us,u.Ok3 m)/\us.Nodup/\us.length<=6+U+D) ?_ ?_
  ·walk_at"";refine aD (ag.of (wl.ext _ _ hd)) g5 ?_;walk_at"";refine eX (λh=>?_) (λh=>?_)
   ·walk_at"";refine⟨wl.ty (Ext.rfl' _),?_⟩;walk_at"";refine aH λv H4 e4 hv _=>?_;walk_at"";obtain⟨xs,hx,hlx,wl4⟩:=wl.push (w:=⟨m-1,"zero",0,"b"⟩) hfn0 e4 hv;refine cc hx (dR (by omega)) ?_;walk_at"";exact⟨_,_,rfl,wl4,dJ ok ⟨by show 0<=m-1;omega,by show m-1<m;omega,by show(0:Int)<=0;decide,by show(0:Int)<m;omega,jR,iA⟩,fY nd' (λz=>(pr _ z).elim (λy=>by have:m-1<=(U:Int)+(D:Int):=y;omega) λy=>o6 y),by simp;omega⟩
   ·walk_at"";exact⟨_,us,rfl,wl,ok,nd',by omega⟩
  clear wl ok nd' pr len;rintro σ' H8 ⟨k,us,rfl,wl,ok,nd',len⟩;walk_at"";refine ft (λσ' H'=>∃(k:Option V) (f:Addr) (cs:List Addr) (us:List Way),σ'=[some (.int c),some (.int p),some (.ref dq),some (.int U),some (.int D),some (.int m),some (.ref f),k]/\Ext H1 H'/\H' f=some (.lst (cs.map V.ref))/\aL H' cs us/\(∀u∈us,u.Ok3 m)/\us.Nodup/\us.length<=6+U+D) ?_ ?_
  ·walk_at"";refine aD (ag.of (wl.ext _ _ hd)) g6 ?_;walk_at"";obtain⟨ew,cs,hcs,al⟩:=wl;refine eX (λh=>?_) (λh=>?_)
   ·walk_at"";refine⟨rfl,yr (ag.of hcs) (bP λr H9 e9 hr9 _=>?_)⟩;walk_at"";exact⟨_,r,cs.reverse,us.reverse,rfl,ew.trans e9,by rw[hr9,List.map_reverse],(al.ext e9).rev,λu hu=>ok u (List.mem_reverse.mp hu),List.pairwise_reverse.mpr (nd'.imp λh=>Ne.symm h),by rw[List.length_reverse];omega⟩
   ·walk_at"";exact⟨_,f,cs,us,rfl,ew,hcs,al,ok,nd',by omega⟩
  clear wl ok nd' len;rintro σ' H9 ⟨k,g,cs,us,rfl,ew,hcs,al,ok,nd',len⟩;walk_at"";refine ka (ag.of hcs) (bP λr I1 i1 hr1 _=>?_);walk_at"";refine aH λt I2 i2 ht _=>?_;exact q _ m us I2 (eH.trans (ew.trans (i1.trans i2))) (bx.mk ht (((al.ext i1).ways hr1).ext i2)) ⟨by omega,by omega,by omega,ok,nd'⟩
def uV(K:Dj):Sp:=λvs H Q _=>∃c p,vs=[.int c,.int p]/\0<p/\∀v m ws H',Ext H H'->bx H' v m ws->HOuse3 m ws->Q v H'
abbrev mR:Stmt:=stq 76
def qU:FnScope ["_law_cell_here","_law_prime","_law_kind","_law_left"] ["_law_cell_here","_law_prime"] (aC mR):=⟨rfl,rfl,rfl,by decide +kernel,rfl,by decide +kernel,by decide +kernel⟩
def Ar{P:Program}{w:World}{K:Dj}{mg:Str->Option Value}{base:Heap}(D:Dfn K mg "_law_house" mR ["_law_cell_here","_law_prime"])(T:Blt mg)(C__law_drawn_house:Cal P w K mg base "_law_drawn_house" 3 ["_law_cell_here","_law_prime"] (wx K))(C__law_gate_house:Cal P w K mg base "_law_gate_house" 3 ["_law_cell_here","_law_prime"] (sT K))(C__law_ring_house:Cal P w K mg base "_law_ring_house" 3 ["_law_cell_here","_law_prime"] (vX K))(C__law_spare:Cal P w K mg base "_law_spare" 1 ["_law_cell_here","_law_width"] (wG K))(C__law_draws:Cal P w K mg base "_law_draws" 2 ["_law_cell_here","_law_widths","_law_prime"] (fg K)):Cal P w K mg base "_law_house" 4 ["_law_cell_here","_law_prime"] (uV K):=by
 have nd:=(qU).nd;refine D.ok qU (λvs H Q E h=>?_) (λX hX H vs Q E h=>?_)
 ·obtain⟨c,p,rfl,_⟩:=h;rfl
 ·obtain⟨f,cdv,A,outer,s,H0,E0,rfl,hr⟩:=hX;obtain⟨c,p,rfl,hp,q⟩:=h;refine⟨_,(ah (aA (i:=2) nd rfl (Or.inl rfl) (ai (aE K) (av C__law_draws hr (aa (pv 0) (aa (bw (aa af ae)) (aa (pv 1) ae)))) af (λ_ _=>rfl)))
    (ah (aA (i:=3) nd rfl (Or.inl rfl) (av C__law_spare hr (aa (pv 0) (aa af ae))))
    (ah (bq (aR bT (pv 2) af (aM _)) (ao (aB (av C__law_ring_house hr (aa (pv 3) (aa (pv 1) ae))))) aT)
    (ah (bq (aR bT (pv 2) af (aM _)) (ao (aB (av C__law_gate_house hr (aa (pv 3) (aa (pv 1) ae))))) aT)
    (ao (aB (av C__law_drawn_house hr (aa (pv 3) (aa (pv 1) ae))))))))),?_⟩
  walk_at"";refine aH λw0 G1 f1 hw0 _=>?_;walk_at"";refine jO [8] hw0 (by decide) (by decide) (hp) λdq ds H1 e1 hd hdn hl hb=>?_;have eH:Ext H H1:=f1.trans e1;obtain⟨d0,g0,_⟩:=bU hl hb 0 rfl;walk_at"";refine aD (ag.of hd) g0 ?_;walk_at"";refine⟨c,8,rfl,by decide,by decide,λz=>?_⟩;walk_at"";refine eX (λh=>?_) (λh=>?_)
  ·walk_at"";exact⟨z,p,rfl,hp,λv m ws H' e hv ok=>q v m ws H' (eH.trans e) hv ok⟩
  ·walk_at"";refine eX (λh=>?_) (λh=>?_)
   ·walk_at"";exact⟨z,p,rfl,hp,λv m ws H' e hv ok=>q v m ws H' (eH.trans e) hv ok⟩
   ·walk_at"";exact⟨z,p,rfl,hp,λv m ws H' e hv ok=>q v m ws H' (eH.trans e) hv ok⟩
def iN{a b:Str}:decide (V.str a=V.str b)=decide (a=b):=by
 by_cases h:a=b
 ·subst h;simp
 ·rw[El h,El (λz=>h (V.str.inj z))]
def fj{a b:Str}{H:Hp}{Q:VK}(h:Q (.bl (decide (a=b))) H):ji (.str a) (.str b) H Q:=⟨rfl,by rw[iN];exact h⟩
def yd{a b:Str}{H:Hp}{Q:VK}(h:Q (.bl (!decide (a=b))) H):jm (.str a) (.str b) H Q:=⟨rfl,by rw[iN];exact h⟩
def fZ{α β:Type}{F:α->β->Prop}{cs:List α}{ts:List β}(h:Paired F cs ts):∀{i:Nat} {c:α},cs[i]?=some c->∃t,ts[i]?=some t/\F c t:=by
 induction h with
 | nil=>intro i c e;simp at e
 | cons h t ih=>
  intro i c e;cases i with
  | zero=>cases e;exact⟨_,rfl,h⟩
  | succ i=>exact ih e
def AI{α β:Type}{F:α->β->Prop}{cs:List α}{ts:List β}(h:Paired F cs ts):∀{i:Nat} {t:β},ts[i]?=some t->∃c,cs[i]?=some c/\F c t:=by
 induction h with
 | nil=>intro i c e;simp at e
 | cons h t ih=>
  intro i c e;cases i with
  | zero=>cases e;exact⟨_,rfl,h⟩
  | succ i=>exact ih e
abbrev aK(H:Hp)(a:Addr)(x:Bfs.Pl):Prop:=H a=some (.tup [.int x.1,.int x.2])
abbrev bK(x:Bfs.Pl):List Key:=[.inl x.1,.inl x.2]
def qQ{x y:Bfs.Pl}(h:bK x=bK y):x=y:=by simp only[bK,List.cons.injEq,Sum.inl.injEq,and_true]at h;exact Prod.ext h.1 h.2
def aK.put{H:Hp}{f a:Addr}{x:Bfs.Pl}{o o':HO}(hf:H f=some o)(hn:∀xs,o≠.tup xs)(h:aK H a x):aK (upd H f o') a x:=by show upd H f o' a=_;rw[ax (eC h hf (λz=>hn _ z.symm))];exact h
def f7(m:Int)(x:Bfs.Pl):Prop:=0<=x.1/\x.1<m/\0<=x.2/\x.2<=1000
def ug(K:Dj):Sp:=λvs H Q _=>∃hp hq m l as xs,vs=[.ref hp,.ref l]/\H hp=some (.tup [.int m,hq])/\H l=some (.lst (List.map V.ref as))/\Paired (aK H) as xs/\(∀x∈xs,f7 m x)/\Q .non H
abbrev mh:Stmt:=stq 45
def rO:FnScope ["house","places","place"] ["house","places"] (aC mh):=⟨rfl,rfl,rfl,by decide +kernel,rfl,by decide +kernel,by decide +kernel⟩
def BC{P:Program}{w:World}{K:Dj}{mg:Str->Option Value}{base:Heap}(D:Dfn K mg "refuse_bad_places" mh ["house","places"])(T:Blt mg)(g_GREATEST_NUMBER:∃t,mg "GREATEST_NUMBER" = some (.int 1000 t))(C_is_room:Cal P w K mg base "is_room" 2 ["thing","many"] (n5 K)):Cal P w K mg base "refuse_bad_places" 3 ["house","places"] (ug K):=by
 have nd:=(rO).nd;refine D.ok rO (λvs H Q E h=>?_) (λX hX H vs Q E h=>?_)
 ·obtain⟨hp,hq,m,l,as,xs,rfl,_⟩:=h;rfl
 ·obtain⟨f,cdv,A,outer,s,H0,E0,rfl,hr⟩:=hX;obtain⟨t_GREATEST_NUMBER,c_GREATEST_NUMBER⟩:=g_GREATEST_NUMBER;obtain⟨hp,hq,m,l,as,xs,rfl,h1,h2,h3,hin,q⟩:=h;refine⟨_,(ah (bG PassesOwn.never rfl (cV K (pv 1)) (aN (i:=2) nd rfl (Or.inl rfl)) (ao (bq (PW.pt (dh (cK (bH (av C_is_room hr (aa (ai (ay K) (pv 2) af (λ_ _=>rfl)) (aa (ai (ay K) (pv 0) af (λ_ _=>rfl)) ae))))) (eW (aR dC (ai (ay K) (pv 2) af (λ_ _=>rfl)) af (aM _))))) (ao fh) aT)))
    (ao (bG PassesOwn.never rfl (cV K (pv 1)) (aN (i:=2) nd rfl (Or.inl rfl)) (ao (bq (aR eB (ai (ay K) (pv 2) af (λ_ _=>rfl)) (gn (v:=.int 1000) rfl c_GREATEST_NUMBER ⟨_,rfl⟩) (aM _)) (ao fh) aT))))),?_⟩
  walk_at"";refine cQ (ag.of h2) ?_;refine forL (xs:=List.map V.ref as) (λi σ H'=>H'=H/\∃k,σ=[some (.ref hp),some (.ref l),k]) ⟨rfl,none,rfl⟩ (λi σ H' _ h=>by rw[h.1];exact ag.of h2) ?_ ?_
  ·rintro i x σ H' hx ⟨rfl,k,rfl⟩;rw[Dr]at hx;obtain⟨b,hb,rfl⟩:=DA.mp hx;obtain⟨t,ht,hp3⟩:=fZ h3 hb;obtain⟨r0,r1,n0,n1⟩:=hin t (Dy ht);walk_at"";refine az (aj.of hp3) (v:=.int t.1) rfl ?_;walk_at"";refine az (aj.of h1) (v:=.int m) rfl ?_;walk_at"";refine⟨_,_,rfl,r0,r1,?_⟩;walk_at"";refine aF ?_;walk_at"";refine az (aj.of hp3) (v:=.int t.2) rfl ?_;walk_at"";rw[El (show ¬t.2<0 by omega)];refine aF ?_;walk_at"";exact⟨rfl,_,rfl⟩
  ·rintro σ H' ⟨rfl,k,rfl⟩;walk_at"";refine cQ (ag.of h2) ?_;refine forL (xs:=List.map V.ref as) (λi σ H2=>H2=H'/\∃k,σ=[some (.ref hp),some (.ref l),k]) ⟨rfl,_,rfl⟩ (λi σ H2 _ h=>by rw[h.1];exact ag.of h2) ?_ ?_
   ·rintro i x σ H2 hx ⟨rfl,k,rfl⟩;rw[Dr]at hx;obtain⟨b,hb,rfl⟩:=DA.mp hx;obtain⟨t,ht,hp3⟩:=fZ h3 hb;obtain⟨r0,r1,n0,n1⟩:=hin t (Dy ht);walk_at"";refine az (aj.of hp3) (v:=.int t.2) rfl ?_;walk_at"";rw[El (show ¬(1000:Int)<t.2 by omega)];refine aF ?_;walk_at"";exact⟨rfl,_,rfl⟩
   ·rintro σ H2 ⟨rfl,k,rfl⟩;walk_at"";exact q
def cw(w:Way)(r n:Int):Bool:=decide (w.room=r) && (if decide (w.deed = "down")=true then decide (0<n)else(!decide (w.deed = "zero") || decide (n=0)))
def r9(K:Dj):Sp:=λvs H Q _=>∃b w p x,vs=[.ref b,.ref p]/\H b=some (.tup (Way.vs w))/\aK H p x/\Q (.bl (cw w x.1 x.2)) H
abbrev nB:Stmt:=stq 46
def qC:FnScope ["way","place"] ["way","place"] (aC nB):=⟨rfl,rfl,rfl,by decide +kernel,rfl,by decide +kernel,by decide +kernel⟩
def xj{P:Program}{w:World}{K:Dj}{mg:Str->Option Value}{base:Heap}(D:Dfn K mg "is_open" nB ["way","place"])(T:Blt mg):Cal P w K mg base "is_open" 1 ["way","place"] (r9 K):=by
 have nd:=(qC).nd;refine D.ok qC (λvs H Q E h=>?_) (λX hX H vs Q E h=>?_)
 ·obtain⟨b,w,p,x,rfl,_⟩:=h;rfl
 ·obtain⟨f,cdv,A,outer,s,H0,E0,rfl,hr⟩:=hX;obtain⟨b,w,p,⟨r,n⟩,rfl,h1,h2,q⟩:=h;refine⟨_,(ah (bq (aR fM (ai (ay K) (pv 0) af (λ_ _=>rfl)) (ai (ay K) (pv 1) af (λ_ _=>rfl)) (aM _)) (ao (aB bA)) aT)
    (ah (bq (aR bT (ai (ay K) (pv 0) af (λ_ _=>rfl)) aO (aM _)) (ao (aB (cE eB (ai (ay K) (pv 1) af (λ_ _=>rfl)) af (aM _)))) aT)
    (ao (aB (kY (cE fM (ai (ay K) (pv 0) af (λ_ _=>rfl)) aO (aM _)) (cM (cE bT (ai (ay K) (pv 1) af (λ_ _=>rfl)) af (aM _)))))))),?_⟩
  walk_at"";refine az (aj.of h1) (v:=.int w.room) rfl ?_;walk_at"";refine az (aj.of h2) (v:=.int r) rfl ?_;walk_at"";unfold cw at q;dsimp only at q;by_cases e:w.room=r
  ·rw[Em e];refine aF ?_;walk_at"";rw[Em e,Bool.true_and]at q;refine az (aj.of h1) (v:=.str w.deed) rfl ?_;walk_at"";refine fj ?_;refine rd_exb ?_;cases ed:decide (w.deed = "down")with
   | true=>
    rw[ed]at q;refine aI ?_;walk_at"";refine az (aj.of h2) (v:=.int n) rfl ?_;walk_at"";exact q
   | false=>
    rw[ed]at q;refine aF ?_;walk_at"";refine az (aj.of h1) (v:=.str w.deed) rfl ?_;walk_at"";refine yd ?_;refine rd_exb ?_;cases ez:decide (w.deed = "zero")with
    | true=>
     rw[ez]at q;refine aF ?_;walk_at"";refine az (aj.of h2) (v:=.int n) rfl ?_;walk_at"";exact q
    | false=>
     rw[ez]at q;exact aI q
  ·rw[El e];refine aI ?_;walk_at"";rw[El e,Bool.false_and]at q;exact q
def ma:List (Key×V):=[(.inr "up",.int 1),(.inr "down",.int (-1)),(.inr "stay",.int 0),(.inr "zero",.int 0)]
def zQ{w:World}{K:Dj}{a:Addr}{t1 t2 t3 t4 t5 t6 t7 t8:Tok}{ep:Nat}(h:K.lookup a=some (hG w [("up",t1,.int 1 t2),("down",t3,.int (-1) t4),("stay",t5,.int 0 t6),("zero",t7,.int 0 t8)] ep))(hs:(a == sysModules)=false):GDict w K a ma:=
 ⟨⟨_,_,h,.cons ⟨rfl,⟨_,rfl⟩⟩ (.cons ⟨rfl,⟨_,rfl⟩⟩ (.cons ⟨rfl,⟨_,rfl⟩⟩ (.cons ⟨rfl,⟨_,rfl⟩⟩ .nil)))⟩,by decide +kernel,hs⟩
def rz(z:Str):Int:=if z = "up" then 1 else if z = "down" then -1 else 0
def Br{z:Str}(h:bI z):bF ma (.inr z)=some (.int (rz z)):=by rcases h with rfl|rfl|rfl|rfl<;>decide +kernel
def sV(K:Dj):Sp:=λvs H Q _=>∃b w,vs=[.ref b]/\H b=some (.tup (Way.vs w))/\bI w.deed/\Q (.int (rz w.deed)) H
abbrev kU:Stmt:=stq 47
def sv:FnScope ["way"] ["way"] (aC kU):=⟨rfl,rfl,rfl,by decide +kernel,rfl,by decide +kernel,by decide +kernel⟩
def Av{P:Program}{w:World}{K:Dj}{mg:Str->Option Value}{base:Heap}(D:Dfn K mg "raised_by" kU ["way"])(T:Blt mg)(g_RAISED:∃a,mg "RAISED" = some (.ref a)/\GDict w K a ma):Cal P w K mg base "raised_by" 1 ["way"] (sV K):=by
 have nd:=(sv).nd;refine D.ok sv (λvs H Q E h=>?_) (λX hX H vs Q E h=>?_)
 ·obtain⟨b,w,rfl,_⟩:=h;rfl
 ·obtain⟨f,cdv,A,outer,s,H0,E0,rfl,hr⟩:=hX;obtain⟨a_RAISED,m_RAISED,d_RAISED⟩:=g_RAISED;obtain⟨b,w,rfl,h1,hd,q⟩:=h;refine⟨_,(ao (aB (yL rfl m_RAISED d_RAISED (ai (ay K) (pv 0) af (λ_ _=>rfl)) (λ_ _=>rfl)))),?_⟩;walk_at"";refine az (aj.of h1) (v:=.str w.deed) rfl ?_;exact CZ (Br hd) q
def qP(K:Dj):Sp:=λvs H Q _=>∃b w p x,vs=[.ref b,.ref p]/\H b=some (.tup (Way.vs w))/\bI w.deed/\aK H p x/\∀t H',Ext H H'->aK H' t (w.other,x.2+rz w.deed)->H t=none->Q (.ref t) H'
abbrev me:Stmt:=stq 48
def pM:FnScope ["way","place"] ["way","place"] (aC me):=⟨rfl,rfl,rfl,by decide +kernel,rfl,by decide +kernel,by decide +kernel⟩
def zg{P:Program}{w:World}{K:Dj}{mg:Str->Option Value}{base:Heap}(D:Dfn K mg "led_to" me ["way","place"])(T:Blt mg)(C_raised_by:Cal P w K mg base "raised_by" 1 ["way"] (sV K)):Cal P w K mg base "led_to" 2 ["way","place"] (qP K):=by
 have nd:=(pM).nd;refine D.ok pM (λvs H Q E h=>?_) (λX hX H vs Q E h=>?_)
 ·obtain⟨b,w,p,x,rfl,_⟩:=h;rfl
 ·obtain⟨f,cdv,A,outer,s,H0,E0,rfl,hr⟩:=hX;obtain⟨b,w,p,⟨r,n⟩,rfl,h1,hd,h2,q⟩:=h;refine⟨_,(ao (aB (bz (aa (ai (ay K) (pv 0) af (λ_ _=>rfl)) (aa (aq aS (ai (ay K) (pv 1) af (λ_ _=>rfl)) (av C_raised_by hr (aa (pv 0) ae))) ae))))),?_⟩;walk_at"";refine az (aj.of h1) (v:=.int w.other) rfl ?_;walk_at"";refine az (aj.of h2) (v:=.int n) rfl ?_;walk_at"";refine⟨b,w,rfl,h1,hd,?_⟩;walk_at"";refine aH λt H1 e1 ht htn=>?_;exact q t H1 e1 ht htn
def ee(z:Str)(n:Int):Option Int:=
 if decide (z = "up")=true then some (n+1)else if decide (z = "down")=true then(if decide (0<n)=true then some (n-1)else none)else if decide (z = "stay")=true then some n else if decide (z = "zero")=true then(if decide (n=0)=true then some n else none)else none
def Aq:decide ((DY "up")=DY "down")=false:=by decide +kernel
def wX:decide ((DY "up")=DY "zero")=false:=by decide +kernel
def Bq:decide ((DY "down")=DY "up")=false:=by decide +kernel
def A8:decide ((DY "stay")=DY "up")=false:=by decide +kernel
def sI:decide ((DY "stay")=DY "down")=false:=by decide +kernel
def Cr:decide ((DY "zero")=DY "up")=false:=by decide +kernel
def rC:decide ((DY "zero")=DY "down")=false:=by decide +kernel
def yn:decide ((DY "zero")=DY "stay")=false:=by decide +kernel
def ig(z:Str):decide (z=z)=true:=Em rfl
def sD(n:Int):ee "up" n=some (n+1):=by unfold ee;rw[ig];rfl
def qw(n:Int):ee "down" n=if decide (0<n)=true then some (n-1)else none:=by unfold ee;rw[Bq,ig];rfl
def uA(n:Int):ee "stay" n=some n:=by unfold ee;rw[A8,sI,ig];rfl
def um(n:Int):ee "zero" n=if decide (n=0)=true then some n else none:=by unfold ee;rw[Cr,rC,yn,ig];rfl
def iU:rz "up" = 1:=by decide +kernel
def jH:rz "down" = -1:=by decide +kernel
def jZ:rz "stay" = 0:=by decide +kernel
def mE:rz "zero" = 0:=by decide +kernel
def B8{w:Way}(hz:bI w.deed)(x:Bfs.Pl):cw w x.1 x.2=true↔w.room=x.1/\ee w.deed x.2=some (x.2+rz w.deed):=by
 unfold cw;rcases hz with e|e|e|e<;>rw[e]
 ·rw[Aq,wX,sD,iU];simp
 ·rw[ig,qw,jH];by_cases h:0<x.2
  ·rw[Em h];simp[Int.sub_eq_add_neg]
  ·rw[El h];simp
 ·rw[sI,El (show ¬(DY "stay")=DY "zero" by decide +kernel),uA,jZ];simp
 ·rw[rC,ig,um,mE];by_cases h:x.2=0
  ·rw[Em h];simp
  ·rw[El h];simp
def ye{z:Str}{n n':Int}(hz:bI z)(h0:0<=n)(h:ee z n=some n'):0<=n':=by
 rcases hz with e|e|e|e<;>rw[e]at h
 ·rw[sD]at h;cases h;omega
 ·rw[qw]at h;split at h
  ·rename_i g;have:=of_decide_eq_true g;cases h;omega
  ·cases h
 ·rw[uA]at h;cases h;exact h0
 ·rw[um]at h;split at h
  ·cases h;exact h0
  ·cases h
section
variable {β:Type} {F:List Key×V->β->Prop} {key:β->Bfs.Pl} {kvs:List (List Key×V)} {q:List β}
def yX(hF:∀kv e,F kv e->kv.1=bK (key e))(h:Paired F kvs q){x:Bfs.Pl}(hx:x∉q.map key):bF kvs (bK x)=none:=by
 induction h with
 | nil=>rfl
 | @cons a b as bs h t ih=>
  rw[List.map_cons,DD,not_or]at hx;rw[iE (λz=>hx.1 (qQ (z.symm.trans (hF _ _ h))))];exact ih hx.2
def yz(hF:∀kv e,F kv e->kv.1=bK (key e))(h:Paired F kvs q)(nd:(q.map key).Nodup){e:β}(he:e∈q):∃v,bF kvs (bK (key e))=some v/\F (bK (key e),v) e:=by
 induction h with
 | nil=>cases he
 | @cons a b as bs h t ih=>
  rw[List.map_cons,List.nodup_cons]at nd;rcases DD.mp he with z|z
  ·subst z;have e1:=hF _ _ h;refine⟨a.2,jV e1,?_⟩;rw[←e1];exact h
  ·obtain⟨v,h1,h2⟩:=ih nd.2 z;refine⟨v,?_,h2⟩;rw[iE (λw=>nd.1 ?_)]
   ·exact h1
   ·rw[qQ ((hF _ _ h).symm.trans w)];exact List.mem_map.mpr ⟨e,z,rfl⟩
end
def ck(m T:Int)(x:Bfs.Pl):Prop:=0<=x.1/\x.1<m/\0<=x.2/\x.2<=T
def ck.few{m T:Int}{l:List Bfs.Pl}(hm:m<=12)(hT:T<=2000)(hn:l.Nodup)(h:∀x∈l,ck m T x):l.length<=24012:=
 Bfs.CG hT hn λx hx=>by obtain⟨a,b,c,d⟩:=h x hx;exact⟨a,by omega,c,d⟩
def mX{n:Nat}(h:n<=24100):n<sizeLine:=Nat.lt_of_le_of_lt h (by decide)
def aG(n:Nat)(f:Nat->Bool):List V:=(Ek n).map λi=>V.bl (f i)
def bp(n:Nat)(f:Nat->Bool):(aG n f).length=n:=by simp[aG]
def cL{n i:Nat}(f:Nat->Bool)(h:i<n):(aG n f)[i]?=some (.bl (f i)):=by unfold aG;rw[Dr,List.getElem?_range h];rfl
def b6{n:Nat}{f g:Nat->Bool}(h:∀i,i<n->f i=g i):aG n f=aG n g:=by unfold aG;apply List.map_congr_left;intro i hi;rw[h i (List.mem_range.mp hi)]
def ib(n:Nat)(f:Nat->Bool):aG (n+1) f=aG n f++[V.bl (f n)]:=by unfold aG;rw[List.range_succ,DF];rfl
def iP{n k:Nat}(f:Nat->Bool)(c:Bool)(hk:k<n):(aG n f).set k (.bl c)=aG n λi=>if i=k then c else f i:=by
 apply List.ext_getElem?;intro i;rcases Ee i n with hi|hi
 ·rw[List.getElem?_set,bp,cL _ hi,cL _ hi];by_cases h:k=i
  ·subst h;simp[hi]
  ·rw[En h,En (Ne.symm h)]
 ·rw[List.getElem?_eq_none (by rw[List.length_set,bp];exact hi),List.getElem?_eq_none (by rw[bp];exact hi)]
def cY{n:Nat}{f:Nat->Bool}{i:Int}(h0:0<=i)(h:i<n):bo (aG n f) i=some (.bl (f i.toNat)):=eS h0 (cL f (by omega))
def jh(n:Nat)(c:Bool):(Ec n [V.bl c]).flatten=aG n λ_=>c:=by
 induction n with
 | zero=>rfl
 | succ n ih=>
  rw[List.replicate_succ',List.flatten_append,ih,ib];rfl
def yW(m n:Nat)(f g:Nat->Bool):aG m f++aG n g=aG (m+n) λi=>if i<m then f i else g (i-m):=by
 apply List.ext_getElem?;intro i;rcases Ee i m with hi|hi
 ·rw[DN (by rw[bp];exact hi),cL _ hi,cL _ (by omega),Eo hi]
 ·rw[DM (by rw[bp];exact hi),bp];rcases Ee i (m+n)with h2|h2
  ·rw[cL _ (by omega),cL _ h2,En (by omega)]
  ·rw[List.getElem?_eq_none (by rw[bp];omega),List.getElem?_eq_none (by rw[bp];omega)]
def xG{n:Nat}{f:Nat->Bool}{i:Int}(h0:0<=i)(h:i<=n):dg (aG n f) none (some i)=aG i.toNat f:=by
 unfold dg;rw[bp,HT.p6];have e:HT.bQ n n (some i)=i.toNat:=by show(if i<0 then(i+(n:Int)).toNat else min i.toNat n)=i.toNat;rw[En (by omega)];omega
 rw[e,List.drop_zero,Nat.sub_zero];apply List.ext_getElem?;intro k;rcases Ee k i.toNat with hk|hk
 ·rw[List.getElem?_take_of_lt hk,cL _ (by omega),cL _ hk]
 ·rw[List.getElem?_eq_none (by rw[Eh,bp];omega),List.getElem?_eq_none (by rw[bp];omega)]
def Rows(H:Hp)(q:Addr)(rs:List Addr)(n:Nat)(M:Nat->Nat->Bool):Prop:=H q=some (.lst (rs.map V.ref))/\∀(i:Nat) (r:Addr),rs[i]?=some r->H r=some (.lst (aG n (M i)))
def Rows.ext{H H':Hp}(e:Ext H H'){q:Addr}{rs:List Addr}{n:Nat}{M:Nat->Nat->Bool}(h:Rows H q rs n M):Rows H' q rs n M:=⟨e _ _ h.1,λi r hi=>e _ _ (h.2 i r hi)⟩
def jJ(K:Dj):Sp:=λvs H Q _=>∃vh m ws d,vs=[vh,.str d]/\bx H vh m ws/\HOuse m ws/\∀l cs us H',Ext H H'->H l=none->H' l=some (.lst (List.map V.ref cs))->aL H' cs us->us=ws.filter (λw=>decide (w.deed=d))->Q (.ref l) H'
abbrev mS:Stmt:=stq 51
def sJ:FnScope ["house","deed"] ["house","deed"] (aC mS):=⟨rfl,rfl,rfl,by decide +kernel,rfl,by decide +kernel,by decide +kernel⟩
def Ce{P:Program}{w:World}{K:Dj}{mg:Str->Option Value}{base:Heap}(D:Dfn K mg "ways_of_deed" mS ["house","deed"])(T:Blt mg):Cal P w K mg base "ways_of_deed" 1 ["house","deed"] (jJ K):=by
 have nd:=(sJ).nd;refine D.ok sJ (λvs H Q E h=>?_) (λX hX H vs Q E h=>?_)
 ·obtain⟨vh,m,ws,d,rfl,_⟩:=h;rfl
 ·obtain⟨f,cdv,A,outer,s,H0,E0,rfl,hr⟩:=hX;obtain⟨vh,m,ws,d,rfl,hv,ok,q⟩:=h;have few:=ok.few;obtain⟨hp0,hq0,rfl,hh,hw⟩:=id hv;obtain⟨bs,hq,hal⟩:=bL.al hw;have hbl:=hal.1;refine⟨_,(@ao _ _ _ (@aB _ _ _ _ (dZ ["way"] [1] (fQ K (@ai _ _ _ _ _ _ _ (ay K) (pv 0) af (λ_ _=>rfl))) (λ_=>(aN (i:=0) (show(["way","deed"]:List Str).Nodup from by decide +kernel) rfl (Or.inl rfl) (Or.inr rfl))) (λ_=>(fA (aR bT (@ai _ _ _ _ _ _ _ (ay K) (pv 0) af (λ_ _=>rfl)) (pv 1) (aM _)))) (λ_=>(pv 0))))),?_⟩;walk_at"";refine az (aj.of hh) (v:=.ref hq0) rfl ?_;walk_at"";refine fN (aj.of hq) ?_;refine vU (xs:=bs.map V.ref) (λi ys H'=>H'=H/\∃cs us,ys=List.map V.ref cs/\aL H cs us/\us=(ws.take i).filter λw=>decide (w.deed=d)) (bD (by rw[Dn];omega)) ⟨rfl,[],[],rfl,aL.nil _,rfl⟩ ?_ ?_ ?_
  ·rintro i ys H' _ ⟨rfl,cs,us,rfl,hau,rfl⟩;refine⟨aj.of hq,?_⟩;rw[Dn,hau.1];exact DS (List.length_filter_le _ _) (by rw[Eh];omega)
  ·rintro i v ys H' hx ⟨rfl,cs,us,rfl,hau,hus⟩;rw[Dr]at hx;obtain⟨b,hb,rfl⟩:=DA.mp hx;have hiw:i<ws.length:=by have:=(Dx.mp hb).1;omega
   have hwi:ws[i]?=some ws[i]:=Dp hiw;have hbw:=hal.2 i b _ hb hwi;generalize ws[i]=w0 at hwi hbw;walk_at"";refine az (aj.of hbw) (v:=.str w0.deed) rfl ?_;walk_at"";refine fj (rd_exb ?_);cases hc:decide (w0.deed=d)with
   | true=>
    refine aI ?_;walk_at"";refine⟨rfl,cs++[b],us++[w0],?_,hau.snoc hbw,?_⟩
    ·rw[DF];rfl
    ·rw[hus,List.take_add_one,hwi,List.filter_append];congr 1;show[w0]=List.filter _ [w0];rw[List.filter_cons,Eo hc];rfl
   | false=>
    refine aF ⟨rfl,cs,us,rfl,hau,?_⟩;rw[hus,List.take_add_one,hwi,List.filter_append];have:List.filter (λw:Way=>decide (w.deed=d)) [w0]=[]:=by rw[List.filter_cons,En (by rw[hc];exact DE)];rfl
    show _=_++List.filter _ [w0];rw[this,List.append_nil]
  ·rintro ys H' pc ⟨hH,cs,us,rfl,hau,hus⟩ hpc;subst hH;rw[Dn,hbl,DQ]at hus;have e:=bJ (o:=.lst (List.map V.ref cs)) hpc;exact q pc cs us _ e hpc aJ (hau.ext e) hus
def uc{x:Addr}:∀{l:List Addr} {i:Nat},l.Nodup->x∉l->(l.set i x).Nodup
 | [],_,_,_=>List.nodup_nil
 | a::l,0,h,hx=>by rw[List.nodup_cons]at h;exact List.nodup_cons.mpr ⟨λz=>hx (Ds _ z),h.2⟩
 | a::l,i+1,h,hx=>by
  rw[List.nodup_cons]at h;refine List.nodup_cons.mpr ⟨λz=>?_,uc h.2 λz=>hx (Ds _ z)⟩;rcases List.mem_or_eq_of_mem_set z with z|z
  ·exact h.1 z
  ·exact hx (by rw[z];exact Dv)
structure TB(H H':Hp)(q:Addr)(rs rs':List Addr)(n:Nat)(M:Nat->Nat->Bool):Prop where
 keep:∀b o,b≠q->H b=some o->H' b=some o
 len:rs'.length=n
 nd:rs'.Nodup
 nq:q∉rs'
 old:∀r∈rs',r∈rs\/H r=none
 rows:Rows H' q rs' n M
def TB.congr{H H':Hp}{q:Addr}{rs rs':List Addr}{n:Nat}{M M':Nat->Nat->Bool}(h:TB H H' q rs rs' n M)(e:∀i j,i<n->j<n->M i j=M' i j):TB H H' q rs rs' n M':=
 ⟨h.keep,h.len,h.nd,h.nq,h.old,h.rows.1,λi r hi=>by
  rw[h.rows.2 i r hi];have hl:i<n:=by rw[←h.len];exact(Dx.mp hi).1
  congr 2;exact b6 λj hj=>e i j hl hj⟩
def TB.set{H H1:Hp}{q p9:Addr}{rs rs1:List Addr}{n i:Nat}{M:Nat->Nat->Bool}{f:Nat->Bool}(h:TB H H1 q rs rs1 n M)(hi:i<n)(hp:H1 p9=none):TB H (upd (upd H1 p9 (.lst (aG n f))) q (.lst ((rs1.map V.ref).set i (.ref p9)))) q rs (rs1.set i p9) n (λa b=>if a=i then f b else M a b):=by
 have hq:H1 q=some (.lst (rs1.map V.ref)):=h.rows.1;have nqp:q≠p9:=λz=>by rw[z,hp]at hq;cases hq
 have nin:p9∉rs1:=λz=>by obtain⟨j,hj⟩:=Ef z;rw[h.rows.2 j p9 hj]at hp;cases hp
 refine⟨λb o nb e=>?_,by rw[List.length_set];exact h.len,uc h.nd nin,λz=>?_,λr hr=>?_,?_,λa r ha=>?_⟩
 ·have e1:=h.keep b o nb e;rw[ax nb,ax (bO e1 hp)];exact e1
 ·rcases List.mem_or_eq_of_mem_set z with z|z
  ·exact h.nq z
  ·exact nqp z
 ·rcases List.mem_or_eq_of_mem_set hr with hr|rfl
  ·exact h.old r hr
  ·right;cases e:H r with
   | none=>rfl
   | some o=>rw[h.keep r o (Ne.symm nqp) e]at hp;cases hp
 ·rw[aJ,List.map_set]
 ·rw[List.getElem?_set]at ha;by_cases hai:i=a
  ·subst hai;rw[Eo rfl,Eo (by rw[h.len];exact hi)]at ha;cases ha;rw[ax (Ne.symm nqp),aJ];congr 2;exact b6 λj _=>by dsimp only;rw[Eo rfl]
  ·rw[En hai]at ha;have e:=h.rows.2 a r ha;have nrq:r≠q:=λz=>h.nq (z ▸ Dy ha);rw[ax nrq,ax (bO e hp),e];congr 2;exact b6 λj _=>by dsimp only;rw[En (Ne.symm hai)]
def jn(M:Nat->Nat->Bool)(k:Nat):Nat->Nat->Bool:=λi j=>M i j || (M i k && M k j)
def bC(M:Nat->Nat->Bool):Nat->Nat->Nat->Bool
 | 0=>M
 | k+1=>jn (bC M k) k
structure Joined(n:Nat)(M M':Nat->Nat->Bool):Prop where
 le:∀i j,M i j=true->M' i j=true
 tr:∀i a j,a<n->M' i a=true->M' a j=true->M' i j=true
 least:∀S:Nat->Nat->Prop,(∀i a j,S i a->S a j->S i j)->(∀i j,M i j=true->S i j)->∀i j,M' i j=true->S i j
def v8(M:Nat->Nat->Bool):∀k,Joined k M (bC M k)
 | 0=>⟨λ_ _ h=>h,λ_ _ _ h=>absurd h (Nat.not_lt_zero _),λ_ _ h=>h⟩
 | k+1=>by
  have ih:=v8 M k;have up:∀i j,bC M (k+1) i j=true↔(bC M k i j=true\/(bC M k i k=true/\bC M k k j=true)):=λi j=>by show(bC M k i j || (bC M k i k && bC M k k j))=true↔_;simp
  refine⟨λi j h=>(up i j).mpr (.inl (ih.le i j h)),λi a j ha h1 h2=>?_,λS ht hm i j h=>?_⟩
  ·rw[up]at h1 h2 ⊢;by_cases hak:a=k
   ·subst hak;have x1:bC M a i a=true:=by rcases h1 with h|h;exact h;exact h.1
    have x2:bC M a a j=true:=by rcases h2 with h|h;exact h;exact h.2
    exact .inr ⟨x1,x2⟩
   ·have hlt:a<k:=by omega
    rcases h1 with h1|⟨h1,h1'⟩<;>rcases h2 with h2|⟨h2,h2'⟩
    ·exact .inl (ih.tr i a j hlt h1 h2)
    ·exact .inr ⟨ih.tr i a k hlt h1 h2,h2'⟩
    ·exact .inr ⟨h1,ih.tr k a j hlt h1' h2⟩
    ·exact .inr ⟨h1,h2'⟩
  ·rcases(up i j).mp h with h|⟨h1,h2⟩
   ·exact ih.least S ht hm i j h
   ·exact ht i k j (ih.least S ht hm i k h1) (ih.least S ht hm k j h2)
def rR(K:Dj):Sp:=λvs H Q _=>∃q rs n M,vs=[.ref q]/\TB H H q rs rs n M/\n<=12/\∀rs' M' H',TB H H' q rs rs' n M'->Joined n M M'->Q .non H'
abbrev mY:Stmt:=stq 54
def qJ:FnScope ["table","many","middle","p"] ["table"] (aC mY):=⟨rfl,rfl,rfl,by decide +kernel,rfl,by decide +kernel,by decide +kernel⟩
def AR{P:Program}{w:World}{K:Dj}{mg:Str->Option Value}{base:Heap}(D:Dfn K mg "join_walks" mY ["table"])(T:Blt mg):Cal P w K mg base "join_walks" 1 ["table"] (rR K):=by
 have nd:=(qJ).nd;refine D.ok qJ (λvs H Q E h=>?_) (λX hX H vs Q E h=>?_)
 ·obtain⟨q,rs,n,M,rfl,_⟩:=h;rfl
 ·obtain⟨f,cdv,A,outer,s,H0,E0,rfl,hr⟩:=hX;obtain⟨qt,rs,n,M,rfl,ht,hn,q⟩:=h;refine⟨_,(@ah _ _ _ _ _ (@aA _ _ 1 _ _ _ _ nd rfl (Or.inl rfl) (br (cZ K) rfl T.len_ PySem.boot_len (@aa _ _ _ _ _ (pv 0) ae rfl)) rfl (Or.inl rfl))
    (@ao _ _ _ (bG PassesOwn.never rfl (cx rfl T.range_ (@aa _ _ _ _ _ (pv 1) ae rfl)) (aN (i:=2) nd rfl (Or.inr rfl)) (@ao _ _ _ (bG PassesOwn.never rfl (cx rfl T.range_ (@aa _ _ _ _ _ (pv 1) ae rfl)) (aN (i:=3) nd rfl (Or.inr rfl)) (@ao _ _ _ (cN (bH (@ai _ _ _ _ _ _ _ (aE K) (@ai _ _ _ _ _ _ _ (aE K) (pv 0) (pv 3) (λ_ _=>rfl)) (pv 2) (λ_ _=>rfl))) (@ao _ _ _ (@eQ _ _ _ _ _ _ (dZ ["q"] [0,3,2] (cx rfl T.range_ (@aa _ _ _ _ _ (pv 1) ae rfl)) (λ_=>(aN (i:=0) (show(["q","table","p","middle"]:List Str).Nodup from by decide +kernel) rfl (Or.inl rfl) (Or.inr rfl))) (λ_=>fF) (λ_=>(kY (@ai _ _ _ _ _ _ _ (aE K) (@ai _ _ _ _ _ _ _ (aE K) (pv 1) (pv 2) (λ_ _=>rfl)) (pv 0) (λ_ _=>rfl)) (cM (@ai _ _ _ _ _ _ _ (aE K) (@ai _ _ _ _ _ _ _ (aE K) (pv 1) (pv 3) (λ_ _=>rfl)) (pv 0) (λ_ _=>rfl)))))) (fV (pv 0) (pv 3) set_list) rfl rfl rfl)) aT))))))),?_⟩
  walk_at"";refine fB (ag.of ht.rows.1) ?_;rw[Dn,ht.len];walk_at"";refine cq (by omega) ?_;rw[DB];refine forR (λk σ H'=>∃rs1 k1 k2,TB H H' qt rs rs1 n (bC M k)/\σ=[some (.ref qt),some (.int (n:Nat)),k1,k2]) ⟨rs,_,_,ht,rfl⟩ ?_ ?_
  ·rintro k σ H1 hk ⟨rs1,k1,k2,tb,rfl⟩;rw[show (0:Int)+(k:Int)=((k:Nat):Int) by omega];walk_at"";refine cq (by omega) ?_;rw[DB];refine forR (λp σ H'=>∃rs2 k2,TB H H' qt rs rs2 n (λi j=>if i<p then jn (bC M k) k i j else bC M k i j)/\σ=[some (.ref qt),some (.int (n:Nat)),some (.int (k:Nat)),k2]) ⟨rs1,_,tb,rfl⟩ ?_ ?_
   ·rintro p σ H2 hp ⟨rs2,k2,tb2,rfl⟩;rw[show (0:Int)+(p:Int)=((p:Nat):Int) by omega];have hp2:p<rs2.length:=by rw[tb2.len];exact hp
    have hk2:k<rs2.length:=by rw[tb2.len];exact hk
    have gp:rs2[p]?=some rs2[p]:=Dp hp2;have gk:rs2[k]?=some rs2[k]:=Dp hk2;have rp:=tb2.rows.2 p _ gp;have rk:=tb2.rows.2 k _ gk;generalize rs2[p]=ap at gp rp;generalize rs2[k]=ak at gk rk;have ap1:bo (rs2.map V.ref) ((p:Nat):Int)=some (.ref ap):=dQ (by rw[Dr,gp];rfl);have ak1:bo (rs2.map V.ref) ((k:Nat):Int)=some (.ref ak):=dQ (by rw[Dr,gk];rfl);have rp':H2 ap=some (.lst (aG n (bC M k p))):=by rw[rp];congr 2;exact b6 λj _=>by dsimp only;rw[En (Nat.lt_irrefl _)]
    have rk':H2 ak=some (.lst (aG n (bC M k k))):=by
     rw[rk];congr 2;refine b6 λj _=>?_;dsimp only;by_cases hkp:k<p
     ·rw[Eo hkp];unfold jn;cases bC M k k j<;>simp
     ·rw[En hkp]
    walk_at"";refine hV ?_;walk_at"";refine aD (ag.of tb2.rows.1) ap1 ?_;walk_at"";refine aD (ag.of rp') (cY (by omega) (by omega)) ?_;rw[DB];walk_at"";cases hc:bC M k p k with
    | false=>
     refine aF ?_;walk_at"";refine⟨rs2,_,tb2.congr λi j hi hj=>?_,rfl⟩
     try dsimp only
     by_cases h1:i<p
     ·rw[Eo h1,Eo (by omega)]
     ·rw[En h1];by_cases h2:i<p+1
      ·have:i=p:=by omega
       subst this;rw[Eo h2];unfold jn;rw[hc];simp
      ·rw[En h2]
    | true=>
     refine aI ?_;walk_at"";refine cq (by omega) ?_;rw[DB];refine fo (λi ys H'=>H'=H2/\ys=aG i (jn (bC M k) k p)) (bD (by omega)) ⟨rfl,rfl⟩ ?_ ?_ ?_
     ·rintro i ys H' _ ⟨_,rfl⟩;rw[bp];exact DI _
     ·rintro i ys H3 hi ⟨rfl,rfl⟩;rw[show (0:Int)+(i:Int)=((i:Nat):Int) by omega];walk_at"";refine aI ?_;walk_at"";refine aD (ag.of tb2.rows.1) ap1 ?_;walk_at"";refine aD (ag.of rp') (cY (by omega) (by omega)) ?_;rw[DB];refine rd_exb ?_;cases hv:bC M k p i with
      | true=>
       refine aI ⟨rfl,?_⟩;rw[ib];congr 1;show[V.bl true]=[V.bl (bC M k p i || _)];rw[hv];rfl
      | false=>
       refine aF ?_;walk_at"";refine aD (ag.of tb2.rows.1) ak1 ?_;walk_at"";refine aD (ag.of rk') (cY (by omega) (by omega)) ?_;rw[DB];refine⟨rfl,?_⟩;rw[ib];congr 1;show[V.bl (bC M k k i)]=[V.bl (bC M k p i || (bC M k p k && bC M k k i))];rw[hv,hc];simp
     ·rintro ys H3 p9 ⟨hH,rfl⟩ hp9;subst hH;have hq2:(upd H3 p9 (.lst (aG n (jn (bC M k) k p)))) qt=some (.lst (rs2.map V.ref)):=(bJ hp9) _ _ tb2.rows.1;walk_at"";refine fJ hq2 (fI (by omega) (by rw[Dn,tb2.len];omega)) ?_;rw[DB];refine⟨_,_,(tb2.set (f:=jn (bC M k) k p) hp hp9).congr λi j hi hj=>?_,rfl⟩
      try dsimp only
      by_cases h1:i=p
      ·subst h1;rw[Eo rfl,Eo (by omega)]
      ·rw[En h1];by_cases h2:i<p
       ·rw[Eo h2,Eo (by omega)]
       ·rw[En h2,En (by omega)]
   ·rintro σ H2 ⟨rs2,k2,tb2,rfl⟩;exact⟨rs2,_,_,tb2.congr (λi j hi hj=>by rw[Eo hi];rfl),rfl⟩
  ·rintro σ H1 ⟨rs1,k1,k2,tb,rfl⟩;walk_at"";exact q rs1 _ H1 tb (v8 M n)
def put2(M:Nat->Nat->Bool)(i x:Nat):Nat->Nat->Bool:=λj y=>if j=i/\y=x then true else M j y
structure TW(H H':Hp)(q:Addr)(rs:List Addr)(n:Nat)(M:Nat->Nat->Bool):Prop where
 keep:∀b o,b∉rs->H b=some o->H' b=some o
 len:rs.length=n
 nd:rs.Nodup
 nq:q∉rs
 rows:Rows H' q rs n M
def TW.mark{H H1:Hp}{q r:Addr}{rs:List Addr}{n i j:Nat}{M:Nat->Nat->Bool}(h:TW H H1 q rs n M)(hi:rs[i]?=some r)(hj:j<n):TW H (upd H1 r (.lst ((aG n (M i)).set j (.bl true)))) q rs n (put2 M i j):=by
 have hm:=Dy hi;have nqr:q≠r:=λz=>h.nq (z ▸ hm);refine⟨λb o nb e=>?_,h.len,h.nd,h.nq,?_,λa r' ha=>?_⟩
 ·have nbr:b≠r:=λz=>nb (by rw[z];exact hm);rw[ax nbr];exact h.keep b o nb e
 ·rw[ax nqr];exact h.rows.1
 ·by_cases hai:a=i
  ·subst hai;rw[hi]at ha;cases ha;rw[aJ,iP _ _ hj];congr 2;refine b6 λy _=>?_;unfold put2;by_cases hy:y=j
   ·rw[Eo hy,Eo ⟨rfl,hy⟩]
   ·rw[En hy,En λz=>hy z.2]
  ·have nr:r'≠r:=λz=>hai ((List.getElem?_inj (by rw[h.len];exact(by rw[←h.len];exact(Dx.mp ha).1)) h.nd).mp (by rw[ha,hi,z]));rw[ax nr,h.rows.2 a r' ha];congr 2;exact b6 λy _=>by unfold put2;rw[En λz=>hai z.1]
structure ArchR(n:Nat)(us ds:List Way)(M M':Nat->Nat->Bool)(ad:Bool):Prop where
 le:∀i j,M i j=true->M' i j=true
 same:ad=false->∀i j,M' i j=M i j
 more:ad=true->∃i j,i<n/\j<n/\M i j=false/\M' i j=true
 least:∀S:Nat->Nat->Prop,(∀u∈us,∀d∈ds,S u.other.toNat d.room.toNat->S u.room.toNat d.other.toNat)->(∀i j,M i j=true->S i j)->∀i j,M' i j=true->S i j
def ArchR.refl{n:Nat}{us ds:List Way}{M:Nat->Nat->Bool}:ArchR n us ds M M false:=⟨λ_ _ h=>h,λ_ _ _=>rfl,λh=>(nomatch h),λ_ _ h=>h⟩
def ArchR.put{n:Nat}{us ds:List Way}{M M':Nat->Nat->Bool}{ad:Bool}(h:ArchR n us ds M M' ad){u d:Way}(hu:u∈us)(hd:d∈ds)(h1:M' u.other.toNat d.room.toNat=true)(h2:M' u.room.toNat d.other.toNat=false)(hn1:u.room.toNat<n)(hn2:d.other.toNat<n):ArchR n us ds M (put2 M' u.room.toNat d.other.toNat) true:=by
 have le:∀i j,M i j=true->put2 M' u.room.toNat d.other.toNat i j=true:=λi j hm=>by
  unfold put2;split
  ·rfl
  ·exact h.le i j hm
 refine⟨le,λz=>(nomatch z),λ_=>⟨_,_,hn1,hn2,?_,by unfold put2;rw[Eo ⟨rfl,rfl⟩]⟩,λS hS hm i j hp=>?_⟩
 ·rw[Bool.eq_false_iff];intro z;rw[h.le _ _ z]at h2;cases h2
 ·unfold put2 at hp;split at hp
  ·rename_i z;rw[z.1,z.2];exact hS u hu d hd (h.least S hS hm _ _ h1)
  ·exact h.least S hS hm i j hp
def we(K:Dj):Sp:=λvs H Q _=>∃q rs n M lu cu us ld cd ds,vs=[.ref q,.ref lu,.ref ld]/\TW H H q rs n M/\H lu=some (.lst (List.map V.ref cu))/\aL H cu us/\H ld=some (.lst (List.map V.ref cd))/\aL H cd ds/\lu∉rs/\ld∉rs/\(∀w∈us++ds,0<=w.room/\w.room<(n:Int)/\0<=w.other/\w.other<(n:Int)) ∧
 ∀M' ad H',TW H H' q rs n M'->ArchR n us ds M M' ad->(ad=false->∀u∈us,∀d∈ds,M u.other.toNat d.room.toNat=true->M u.room.toNat d.other.toNat=true)->Q (.bl ad) H'
abbrev lH:Stmt:=stq 55
def qE:FnScope ["table","ups","downs","added","rise","fall"] ["table","ups","downs"] (aC lH):=⟨rfl,rfl,rfl,by decide +kernel,rfl,by decide +kernel,by decide +kernel⟩
def Cj{P:Program}{w:World}{K:Dj}{mg:Str->Option Value}{base:Heap}(D:Dfn K mg "add_arches" lH ["table","ups","downs"])(T:Blt mg):Cal P w K mg base "add_arches" 1 ["table","ups","downs"] (we K):=by
 have nd:=(qE).nd;refine D.ok qE (λvs H Q E h=>?_) (λX hX H vs Q E h=>?_)
 ·obtain⟨q,rs,n,M,lu,cu,us,ld,cd,ds,rfl,_⟩:=h;rfl
 ·obtain⟨f,cdv,A,outer,s,H0,E0,rfl,hr⟩:=hX;obtain⟨qt,rs,n,M,lu,cu,us,ld,cd,ds,rfl,tw,hlu,hau,hld,had,nlu,nld,hin,q⟩:=h;have hcu:=hau.1;have hcd:=had.1;refine⟨_,(@ah _ _ _ _ _ (@aA _ _ 3 _ _ _ _ nd rfl (Or.inl rfl) bA rfl (Or.inl rfl))
    (@ah _ _ _ _ _ (bG PassesOwn.never rfl (cV K (pv 1)) (aN (i:=4) nd rfl (Or.inl rfl)) (@ao _ _ _ (bG PassesOwn.never rfl (cV K (pv 2)) (aN (i:=5) nd rfl (Or.inl rfl)) (@ao _ _ _ (cN (PW.pt (mn (bH (@ai _ _ _ _ _ _ _ (aE K) (@ai _ _ _ _ _ _ _ (aE K) (pv 0) (@ai _ _ _ _ _ _ _ (ay K) (pv 4) af (λ_ _=>rfl)) (λ_ _=>rfl)) (@ai _ _ _ _ _ _ _ (ay K) (pv 5) af (λ_ _=>rfl)) (λ_ _=>rfl))) (oN (cK (bH (@ai _ _ _ _ _ _ _ (aE K) (@ai _ _ _ _ _ _ _ (aE K) (pv 0) (@ai _ _ _ _ _ _ _ (ay K) (pv 4) af (λ_ _=>rfl)) (λ_ _=>rfl)) (@ai _ _ _ _ _ _ _ (ay K) (pv 5) af (λ_ _=>rfl)) (λ_ _=>rfl))))))) (@ah _ _ _ _ _ (@eQ _ _ _ _ _ _ bA (fV (@ai _ _ _ _ _ _ _ (aE K) (pv 0) (@ai _ _ _ _ _ _ _ (ay K) (pv 4) af (λ_ _=>rfl)) (λ_ _=>rfl)) (@ai _ _ _ _ _ _ _ (ay K) (pv 5) af (λ_ _=>rfl)) set_list) rfl rfl rfl)
    (@ao _ _ _ (@aA _ _ 3 _ _ _ _ nd rfl (Or.inl rfl) bA rfl (Or.inl rfl)))) aT)))))
    (@ao _ _ _ (@aB _ _ _ _ (pv 3))))),?_⟩
  have tupN:∀(b:Addr) (w:Way),H b=some (.tup w.vs)->b∉rs:=λb w hb z=>by obtain⟨j,hj⟩:=Ef z;rw[tw.rows.2 j b hj]at hb;cases hb
  walk_at"";refine cQ (ag.of hlu) ?_;refine forL (xs:=List.map V.ref cu) (λi σ H'=>∃M' ad k1 k2,TW H H' qt rs n M'/\ArchR n us ds M M' ad/\(ad=false->∀a,a<i->∀u,us[a]?=some u->∀d∈ds,M u.other.toNat d.room.toNat=true->M u.room.toNat d.other.toNat=true)/\σ=[some (.ref qt),some (.ref lu),some (.ref ld),some (.bl ad),k1,k2]) ⟨M,false,_,_,tw,.refl,λ_ a ha=>absurd ha (Nat.not_lt_zero _),rfl⟩ (λi σ H' _ h=>by obtain⟨M',ad,k1,k2,t,_⟩:=h;exact ag.of (t.keep _ _ nlu hlu)) ?_ ?_
  ·rintro i v σ H1 hx ⟨M1,ad,k1,k2,tw1,ar1,cl1,rfl⟩;rw[Dr]at hx;obtain⟨bu,hbu,rfl⟩:=DA.mp hx;have hiu:i<us.length:=by rw[←hcu];exact(Dx.mp hbu).1
   have gu:us[i]?=some us[i]:=Dp hiu;have hbu0:=hau.2 i bu _ hbu gu;generalize us[i]=u at gu hbu0;have hum:=Dy gu;obtain⟨u0,u1,u2,u3⟩:=hin u (Eb _ hum);walk_at"";refine cQ (ag.of (tw1.keep _ _ nld hld)) ?_;refine forL (xs:=List.map V.ref cd) (λj σ H'=>∃M' ad k2,TW H H' qt rs n M'/\ArchR n us ds M M' ad/\(ad=false->(∀a,a<i->∀u,us[a]?=some u->∀d∈ds,M u.other.toNat d.room.toNat=true->M u.room.toNat d.other.toNat=true)/\∀b,b<j->∀d,ds[b]?=some d->M u.other.toNat d.room.toNat=true->M u.room.toNat d.other.toNat=true)/\σ=[some (.ref qt),some (.ref lu),some (.ref ld),some (.bl ad),some (.ref bu),k2]) ⟨M1,ad,_,tw1,ar1,λh=>⟨cl1 h,λb hb=>absurd hb (Nat.not_lt_zero _)⟩,rfl⟩ (λj σ H' _ h=>by obtain⟨M',ad,k2,t,_⟩:=h;exact ag.of (t.keep _ _ nld hld)) ?_ ?_
   ·rintro j v σ H2 hx2 ⟨M2,ad2,k2,tw2,ar2,cl2,rfl⟩;rw[Dr]at hx2;obtain⟨bd,hbd,rfl⟩:=DA.mp hx2;have hid:j<ds.length:=by rw[←hcd];exact(Dx.mp hbd).1
    have gd:ds[j]?=some ds[j]:=Dp hid;have hbd0:=had.2 j bd _ hbd gd;generalize ds[j]=d at gd hbd0;have hdm:=Dy gd;obtain⟨d0,d1,d2,d3⟩:=hin d (Ea _ hdm);have ku:=tw2.keep _ _ (tupN bu u hbu0) hbu0;have kd:=tw2.keep _ _ (tupN bd d hbd0) hbd0;have x1:u.other.toNat<rs.length:=by rw[tw2.len];omega
    have x2:u.room.toNat<rs.length:=by rw[tw2.len];omega
    have r1:rs[u.other.toNat]?=some rs[u.other.toNat]:=Dp x1;have r2:rs[u.room.toNat]?=some rs[u.room.toNat]:=Dp x2;have w1:=tw2.rows.2 _ _ r1;have w2:=tw2.rows.2 _ _ r2;generalize rs[u.other.toNat]=a1 at r1 w1;generalize rs[u.room.toNat]=a2 at r2 w2;have at1:bo (rs.map V.ref) u.other=some (.ref a1):=eS u2 (by rw[Dr,r1];rfl);have at2:bo (rs.map V.ref) u.room=some (.ref a2):=eS u0 (by rw[Dr,r2];rfl);have step:(M u.other.toNat d.room.toNat=true->M u.room.toNat d.other.toNat=true)->ad2=false->∀b,b<j+1->∀d',ds[b]?=some d'->M u.other.toNat d'.room.toNat=true->M u.room.toNat d'.other.toNat=true:=λhs hf b hb d' hd'=>by
     by_cases hbj:b<j
     ·exact(cl2 hf).2 b hbj d' hd'
     ·have:b=j:=by omega
      subst this;rw[gd]at hd';cases hd';exact hs
    walk_at"";refine hV ?_;walk_at"";refine az (aj.of ku) (v:=.int u.other) rfl ?_;walk_at"";refine aD (ag.of tw2.rows.1) at1 ?_;walk_at"";refine az (aj.of kd) (v:=.int d.room) rfl ?_;walk_at"";refine aD (ag.of w1) (cY d0 (by omega)) ?_;walk_at"";cases hm1:M2 u.other.toNat d.room.toNat with
    | false=>
     refine aF ?_;walk_at"";refine⟨M2,ad2,_,tw2,ar2,λhf=>⟨(cl2 hf).1,step (λz=>?_) hf⟩,rfl⟩;rw[ar2.same hf]at hm1;rw[hm1]at z;cases z
    | true=>
     refine aI ?_;walk_at"";refine az (aj.of ku) (v:=.int u.room) rfl ?_;walk_at"";refine aD (ag.of tw2.rows.1) at2 ?_;walk_at"";refine az (aj.of kd) (v:=.int d.other) rfl ?_;walk_at"";refine aD (ag.of w2) (cY d2 (by omega)) ?_;walk_at"";cases hm2:M2 u.room.toNat d.other.toNat with
     | true=>
      refine aF ?_;walk_at"";refine⟨M2,ad2,_,tw2,ar2,λhf=>⟨(cl2 hf).1,step (λ_=>?_) hf⟩,rfl⟩;rw[ar2.same hf]at hm2;exact hm2
     | false=>
      refine aI ?_;walk_at"";refine az (aj.of ku) (v:=.int u.room) rfl ?_;walk_at"";refine aD (ag.of tw2.rows.1) at2 ?_;walk_at"";refine az (aj.of kd) (v:=.int d.other) rfl ?_;walk_at"";refine fJ w2 (fI d2 (by rw[bp];omega)) ?_;walk_at"";exact⟨_,true,_,tw2.mark r2 (by omega),ar2.put hum hdm hm1 hm2 (by omega) (by omega),λz=>(nomatch z),rfl⟩
   ·rintro σ H2 ⟨M2,ad2,k2,tw2,ar2,cl2,rfl⟩;rw[Dn,hcd]at cl2;refine⟨M2,ad2,_,_,tw2,ar2,λhf a ha u' hu'=>?_,rfl⟩;by_cases hai:a<i
    ·exact(cl2 hf).1 a hai u' hu'
    ·have:a=i:=by omega
     subst this;rw[gu]at hu';cases hu';intro d hd;obtain⟨b,hb⟩:=Ef hd;exact(cl2 hf).2 b (Dx.mp hb).1 d hb
  ·rintro σ H1 ⟨M1,ad,k1,k2,tw1,ar1,cl1,rfl⟩;rw[Dn,hcu]at cl1;walk_at"";refine q M1 ad H1 tw1 ar1 λhf u hu d hd=>?_;obtain⟨a,ha⟩:=Ef hu;exact cl1 hf a (Dx.mp ha).1 u ha d hd
inductive Kpt(ws:List Way)(n:Nat):Nat->Nat->Prop
 | refl {i:Nat}:i<n->Kpt ws n i i
 | stay {w:Way}:w∈ws->w.deed = "stay"->Kpt ws n w.room.toNat w.other.toNat
 | trans {i a j:Nat}:Kpt ws n i a->Kpt ws n a j->Kpt ws n i j
 | arch {u d:Way}:u∈ws->u.deed = "up"->d∈ws->d.deed = "down"->Kpt ws n u.other.toNat d.room.toNat->Kpt ws n u.room.toNat d.other.toNat
def gH{m:Int}{ws:List Way}(ok:∀w∈ws,w.Ok m){w:Way}(hw:w∈ws):w.room.toNat<m.toNat/\w.other.toNat<m.toNat:=by have h:=ok w hw;have:=h.r0;have:=h.r1;have:=h.o0;have:=h.o1;omega
def Kpt.lt{m:Int}{ws:List Way}(ok:∀w∈ws,w.Ok m){i j:Nat}(h:Kpt ws m.toNat i j):i<m.toNat/\j<m.toNat:=by
 induction h with
 | refl h=>exact⟨h,h⟩
 | stay h _=>exact gH ok h
 | trans _ _ h1 h2=>exact⟨h1.1,h2.2⟩
 | arch h1 _ h2 _ _ _=>exact⟨(gH ok h1).1,(gH ok h2).2⟩
def yE(ws:List Way)(M:Nat->Nat->Bool):Prop:=∀i j,M i j=true↔(i=j\/∃w∈ws,w.deed = "stay"/\w.room.toNat=i/\w.other.toNat=j)
def gK(n:Nat)(M:Nat->Nat->Bool):Nat:=((Ek n).flatMap λi=>(Ek n).map λj=>(i,j)).countP λz=>!M z.1 z.2
def wD{α:Type}{p p':α->Bool}(hi:∀y,p' y=true->p y=true){a:α}(ha:p a=true)(ha':p' a=false):∀{L:List α},a∈L->L.countP p'<L.countP p
 | b::L,hm=>by
  have hle:L.countP p'<=L.countP p:=List.countP_mono_left λy _=>hi y;rw[List.countP_cons,List.countP_cons];rcases DD.mp hm with rfl|hm
  ·rw[ha,ha'];simp;omega
  ·have:=wD hi ha ha' hm;cases h1:p' b with
   | false=>simp[h1];split<;>omega
   | true=>rw[hi b h1];simp;omega
def wY{n i j:Nat}{M M':Nat->Nat->Bool}(hi:i<n)(hj:j<n)(le:∀a b,M a b=true->M' a b=true)(h1:M i j=false)(h2:M' i j=true):gK n M'<gK n M:=by
 refine wD (a:=(i,j)) (λy hy=>?_) (by simp[h1]) (by simp[h2]) (by simp;exact⟨hi,hj⟩);have hy':M' y.1 y.2=false:=by simpa using hy
 have:M y.1 y.2=false:=by rw[Bool.eq_false_iff];intro z;rw[le _ _ z]at hy';cases hy'
 simp[this]
structure KT(H H':Hp)(q:Addr)(rs:List Addr)(n:Nat)(M:Nat->Nat->Bool):Prop where
 ext:Ext H H'
 fq:H q=none
 fr:∀r∈rs,H r=none
 len:rs.length=n
 nd:rs.Nodup
 nq:q∉rs
 rows:Rows H' q rs n M
def KT.tw{H H':Hp}{q:Addr}{rs:List Addr}{n:Nat}{M:Nat->Nat->Bool}(h:KT H H' q rs n M):TW H' H' q rs n M:=⟨λ_ _ _ e=>e,h.len,h.nd,h.nq,h.rows⟩
def KT.tb{H H':Hp}{q:Addr}{rs:List Addr}{n:Nat}{M:Nat->Nat->Bool}(h:KT H H' q rs n M):TB H' H' q rs rs n M:=⟨λ_ _ _ e=>e,h.len,h.nd,h.nq,λ_ h=>.inl h,h.rows⟩
def KT.more{H H1 H2:Hp}{q:Addr}{rs:List Addr}{n:Nat}{M:Nat->Nat->Bool}(h:KT H H1 q rs n M)(e:Ext H1 H2):KT H H2 q rs n M:=⟨h.ext.trans e,h.fq,h.fr,h.len,h.nd,h.nq,h.rows.ext e⟩
def KT.byW{H H1 H2:Hp}{q:Addr}{rs:List Addr}{n:Nat}{M M':Nat->Nat->Bool}(h:KT H H1 q rs n M)(t:TW H1 H2 q rs n M'):KT H H2 q rs n M':=
 ⟨λb o e=>t.keep b o (λz=>by rw[h.fr b z]at e;cases e) (h.ext b o e),h.fq,h.fr,h.len,h.nd,h.nq,t.rows⟩
def KT.byB{H H1 H2:Hp}{q:Addr}{rs rs':List Addr}{n:Nat}{M M':Nat->Nat->Bool}(h:KT H H1 q rs n M)(t:TB H1 H2 q rs rs' n M'):KT H H2 q rs' n M':=
 ⟨λb o e=>t.keep b o (λz=>by rw[z,h.fq]at e;cases e) (h.ext b o e),h.fq,λr hr=>by
  rcases t.old r hr with z|z
  ·exact h.fr r z
  ·cases e:H r with
   | none=>rfl
   | some o=>exact absurd ((h.ext r o e).symm.trans z) (by simp),t.len,t.nd,t.nq,t.rows⟩
def wg(K:Dj):Sp:=λvs H Q _=>∃vh m ws,vs=[vh]/\bx H vh m ws/\HOuse m ws/\∀q rs M H',KT H H' q rs m.toNat M->yE ws M->Q (.ref q) H'
abbrev nI:Stmt:=stq 53
def qg:FnScope ["house","table","p","way"] ["house"] (aC nI):=⟨rfl,rfl,rfl,by decide +kernel,rfl,by decide +kernel,by decide +kernel⟩
def AS{P:Program}{w:World}{K:Dj}{mg:Str->Option Value}{base:Heap}(D:Dfn K mg "beginning_table" nI ["house"])(T:Blt mg)(C_ways_of_deed:Cal P w K mg base "ways_of_deed" 1 ["house","deed"] (jJ K)):Cal P w K mg base "beginning_table" 2 ["house"] (wg K):=by
 have nd:=(qg).nd;refine D.ok qg (λvs H Q E h=>?_) (λX hX H vs Q E h=>?_)
 ·obtain⟨vh,m,ws,rfl,_⟩:=h;rfl
 ·obtain⟨f,cdv,A,outer,s,H0,E0,rfl,hr⟩:=hX;obtain⟨vh,m,ws,rfl,hv,ok,q⟩:=h;have m1:=ok.m1;have m12:=ok.m12;obtain⟨hp0,hq0,rfl,hh,_⟩:=id hv;refine⟨_,(@ah _ _ _ _ _ (@aA _ _ 1 _ _ _ _ nd rfl (Or.inl rfl) (@bw _ _ _ _ ae) rfl (Or.inl rfl))
    (@ah _ _ _ _ _ (bG PassesOwn.never rfl (cx rfl T.range_ (@aa _ _ _ _ _ (@ai _ _ _ _ _ _ _ (ay K) (pv 0) af (λ_ _=>rfl)) ae rfl)) (aN (i:=2) nd rfl (Or.inr rfl)) (@ao _ _ _ (aX (bR K Dw DJ DK b0 (pv 1) (@aa _ _ _ _ _ (dZ ["q"] [2] (cx rfl T.range_ (@aa _ _ _ _ _ (@ai _ _ _ _ _ _ _ (ay K) (pv 0) af (λ_ _=>rfl)) ae rfl)) (λ_=>(aN (i:=0) (show(["q","p"]:List Str).Nodup from by decide +kernel) rfl (Or.inl rfl) (Or.inr rfl))) (λ_=>fF) (λ_=>(cE bT (pv 1) (pv 0) (aM _)))) ae rfl)))))
    (@ah _ _ _ _ _ (bG PassesOwn.never rfl (cV K (av C_ways_of_deed hr (@aa _ _ _ _ _ (pv 0) (@aa _ _ _ _ _ aO ae rfl) rfl))) (aN (i:=3) nd rfl (Or.inl rfl)) (@ao _ _ _ (@eQ _ _ _ _ _ _ bA (fV (@ai _ _ _ _ _ _ _ (aE K) (pv 1) (@ai _ _ _ _ _ _ _ (ay K) (pv 3) af (λ_ _=>rfl)) (λ_ _=>rfl)) (@ai _ _ _ _ _ _ _ (ay K) (pv 3) af (λ_ _=>rfl)) set_list) rfl rfl rfl)))
    (@ao _ _ _ (@aB _ _ _ _ (pv 1)))))),?_⟩
  walk_at"";refine aH λtq H1 e1 htq hfq=>?_;walk_at"";refine az (aj.of (e1 _ _ hh)) (v:=.int m) rfl ?_;walk_at"";refine cq (by omega) ?_;refine forR (λp σ H'=>∃rs k1 k2,Ext H H'/\H' tq=some (.lst (List.map V.ref rs))/\(∀r∈rs,H r=none)/\rs.length=p/\rs.Nodup/\tq∉rs/\(∀(a:Nat) (r:Addr),rs[a]?=some r->H' r=some (.lst (aG m.toNat λj=>decide (a=j))))/\σ=[some (.ref hp0),some (.ref tq),k1,k2]) ⟨[],_,_,e1,htq,λr hr=>(by cases hr),rfl,List.nodup_nil,by simp,λa r h=>by simp at h,rfl⟩ ?_ ?_
  ·rintro p σ H2 hp ⟨rs,k1,k2,e2,hq2,hfr,hln,hnd,hnq,hrs,rfl⟩;rw[show (0:Int)+(p:Int)=((p:Nat):Int) by omega];walk_at"";refine⟨dM (ag.of hq2),?_⟩;walk_at"";refine az (aj.of (e2 _ _ hh)) (v:=.int m) rfl ?_;walk_at"";refine cq (by omega) ?_;refine fo (λi ys H'=>H'=H2/\ys=aG i (λj=>decide (p=j))) (bD (by omega)) ⟨rfl,rfl⟩ ?_ ?_ ?_
   ·rintro i ys H' _ ⟨_,rfl⟩;rw[bp];exact DI _
   ·rintro i ys H3 hi ⟨rfl,rfl⟩;rw[show (0:Int)+(i:Int)=((i:Nat):Int) by omega];walk_at"";refine aI ?_;walk_at"";refine⟨rfl,?_⟩;rw[ib];congr 3;rw[DW];simp;omega
   ·rintro ys H3 p9 ⟨hH,rfl⟩ hp9;subst hH;have e3:=bJ (o:=.lst (aG m.toNat λj=>decide (p=j))) hp9;have hq3:=e3 _ _ hq2;have h9:(upd H3 p9 (.lst (aG m.toNat λj=>decide (p=j)))) p9=_:=aJ;have e03:=e2.trans e3;have hrs3:∀(a:Nat) (r:Addr),rs[a]?=some r->(upd H3 p9 (.lst (aG m.toNat λj=>decide (p=j)))) r=some (.lst (aG m.toNat λj=>decide (a=j))):=λa r h=>e3 _ _ (hrs a r h);have n9:H p9=none:=by
     cases z:H p9 with
     | none=>rfl
     | some o=>rw[e2 _ _ z]at hp9;cases hp9
    have nin:p9∉rs:=λz=>by obtain⟨j,hj⟩:=Ef z;rw[hrs j p9 hj]at hp9;cases hp9
    have nqp:tq≠p9:=λz=>by rw[z,hp9]at hq2;cases hq2
    generalize upd H3 p9 (.lst (aG m.toNat λj=>decide (p=j)))=H4 at e3 hq3 h9 e03 hrs3 ⊢;walk_at"";refine cc hq3 (by rw[Dn];exact Nat.lt_of_le_of_lt (show rs.length<=12 by omega) (by decide)) ?_;walk_at"";have keep:∀b o,b≠tq->H4 b=some o->upd H4 tq (.lst (List.map V.ref rs++[.ref p9])) b=some o:=λb o nb e=>by rw[ax nb];exact e
    refine⟨rs++[p9],_,_,cJ e03 hfq,?_,λr hr=>?_,by rw[DG,hln];rfl,?_,λz=>?_,λa r ha=>?_,rfl⟩
    ·rw[aJ,DF];rfl
    ·rcases DL.mp hr with hr|hr
     ·exact hfr r hr
     ·rw[Dz.mp hr];exact n9
    ·rw[List.nodup_append];refine⟨hnd,by simp,λa ha c hc z=>?_⟩;rw[Dz.mp hc]at z;exact nin (z ▸ ha)
    ·rcases DL.mp z with z|z
     ·exact hnq z
     ·exact nqp (Dz.mp z)
    ·by_cases hal:a<rs.length
     ·rw[DN hal]at ha;exact keep r _ (λz=>hnq (z ▸ Dy ha)) (hrs3 a r ha)
     ·rw[DM (by omega)]at ha;have hz:a-rs.length=0:=by have:=(Dx.mp ha).1;simp at this;omega
      rw[hz]at ha;cases ha;have:a=p:=by omega
      subst this;exact keep p9 _ (Ne.symm nqp) h9
  ·rintro σ H2 ⟨rs,k1,k2,e2,hq2,hfr,hln,hnd,hnq,hrs,rfl⟩;have tw:TW H2 H2 tq rs m.toNat (λi j=>decide (i=j)):=⟨λ_ _ _ e=>e,hln,hnd,hnq,hq2,hrs⟩;have kt:KT H H2 tq rs m.toNat (λi j=>decide (i=j)):=⟨e2,hfq,hfr,hln,hnd,hnq,hq2,hrs⟩;walk_at"";refine⟨.ref hp0,m,ws,_,rfl,hv.ext e2,ok,λl cs us H3 e3 hl3 hl hau hus=>?_⟩;have kt3:=kt.more e3;have nl:l∉rs:=λz=>by obtain⟨j,hj⟩:=Ef z;rw[hrs j l hj]at hl3;cases hl3
   have hcs:=hau.1;have tupN:∀(b:Addr) (w:Way),H3 b=some (.tup w.vs)->b∉rs:=λb w hb z=>by obtain⟨j,hj⟩:=Ef z;rw[kt3.rows.2 j b hj]at hb;cases hb
   refine cQ (ag.of hl) ?_;refine forL (xs:=List.map V.ref cs) (λi σ H'=>∃M k1 k2,TW H3 H' tq rs m.toNat M/\(∀a b,M a b=true↔(a=b\/∃w∈us.take i,w.room.toNat=a/\w.other.toNat=b))/\σ=[some (.ref hp0),some (.ref tq),k1,k2]) ⟨_,_,_,kt3.tw,λa b=>by simp,rfl⟩ (λi σ H' _ h=>by obtain⟨M,k1,k2,t,_⟩:=h;exact ag.of (t.keep _ _ nl hl)) ?_ ?_
   ·rintro i v σ H4 hx ⟨M,k1,k2,tw4,hM,rfl⟩;rw[Dr]at hx;obtain⟨b,hb,rfl⟩:=DA.mp hx;have hi:i<us.length:=by rw[←hcs];exact(Dx.mp hb).1
    have gu:us[i]?=some us[i]:=Dp hi;have hb0:=hau.2 i b _ hb gu;generalize us[i]=u at gu hb0;have hum:u∈ws:=by have:=Dy gu;rw[hus]at this;exact(List.mem_filter.mp this).1
    have oku:=ok.ok u hum;have u0:=oku.r0;have u1:=oku.r1;have u2:=oku.o0;have u3:=oku.o1;have kb:=tw4.keep _ _ (tupN b u hb0) hb0;have x2:u.room.toNat<rs.length:=by rw[tw4.len];omega
    have r2:rs[u.room.toNat]?=some rs[u.room.toNat]:=Dp x2;have w2:=tw4.rows.2 _ _ r2;generalize rs[u.room.toNat]=a2 at r2 w2;have at2:bo (rs.map V.ref) u.room=some (.ref a2):=eS u0 (by rw[Dr,r2];rfl);walk_at"";refine az (aj.of kb) (v:=.int u.room) rfl ?_;walk_at"";refine aD (ag.of tw4.rows.1) at2 ?_;walk_at"";refine az (aj.of kb) (v:=.int u.other) rfl ?_;walk_at"";refine fJ w2 (fI u2 (by rw[bp];omega)) ?_;refine⟨_,_,_,tw4.mark r2 (by omega),λa c=>?_,rfl⟩;rw[List.take_add_one,gu];unfold put2;split
    ·rename_i z;simp only[true_iff];exact .inr ⟨u,Ea _ (by simp),z.1.symm,z.2.symm⟩
    ·rename_i z;rw[hM];constructor
     ·rintro(h|⟨w,hw,h⟩)
      ·exact .inl h
      ·exact .inr ⟨w,Eb _ hw,h⟩
     ·rintro(h|⟨w,hw,h1,h2⟩)
      ·exact .inl h
      ·rcases DL.mp hw with hw|hw
       ·exact .inr ⟨w,hw,h1,h2⟩
       ·have:w=u:=by simpa using hw
        subst this;exact absurd ⟨h1.symm,h2.symm⟩ z
   ·rintro σ H4 ⟨M,k1,k2,tw4,hM,rfl⟩;rw[Dn,hcs,DQ]at hM;walk_at"";refine q tq rs M H4 (kt3.byW tw4) λa b=>?_;rw[hM,hus];constructor
    ·rintro(h|⟨w,hw,h⟩)
     ·exact .inl h
     ·obtain⟨h1,h2⟩:=List.mem_filter.mp hw;exact .inr ⟨w,h1,of_decide_eq_true h2,h⟩
    ·rintro(h|⟨w,hw,hd,h⟩)
     ·exact .inl h
     ·exact .inr ⟨w,List.mem_filter.mpr ⟨hw,Em hd⟩,h⟩
structure UD(H:Hp)(tq:Addr)(rs:List Addr)(lu ld:Addr)(cu cd:List Addr)(us ds:List Way):Prop where
 u:H lu=some (.lst (List.map V.ref cu))
 au:aL H cu us
 d:H ld=some (.lst (List.map V.ref cd))
 ad:aL H cd ds
 nu:lu∉rs
 nd:ld∉rs
 qu:lu≠tq
 qd:ld≠tq
def aL.byW{H H':Hp}{q:Addr}{rs:List Addr}{n:Nat}{M M':Nat->Nat->Bool}(r:Rows H q rs n M)(t:TW H H' q rs n M'){bs:List Addr}{ws:List Way}(h:aL H bs ws):aL H' bs ws:=⟨h.1,λj b w e1 e2=>by have hb:=h.2 j b w e1 e2;refine t.keep b _ (λz=>?_) hb;obtain⟨j,hj⟩:=Ef z;rw[r.2 j b hj]at hb;cases hb⟩
def aL.byB{H H':Hp}{q:Addr}{rs rs':List Addr}{n:Nat}{M M':Nat->Nat->Bool}(r:Rows H q rs n M)(t:TB H H' q rs rs' n M'){bs:List Addr}{ws:List Way}(h:aL H bs ws):aL H' bs ws:=⟨h.1,λj b w e1 e2=>by have hb:=h.2 j b w e1 e2;refine t.keep b _ (λz=>?_) hb;rw[z,r.1]at hb;cases hb⟩
def UD.byW{H H':Hp}{tq:Addr}{rs:List Addr}{lu ld:Addr}{cu cd:List Addr}{us ds:List Way}{n:Nat}{M M':Nat->Nat->Bool}(r:Rows H tq rs n M)(t:TW H H' tq rs n M')(h:UD H tq rs lu ld cu cd us ds):UD H' tq rs lu ld cu cd us ds:=
 ⟨t.keep _ _ h.nu h.u,h.au.byW r t,t.keep _ _ h.nd h.d,h.ad.byW r t,h.nu,h.nd,h.qu,h.qd⟩
def UD.byB{H H':Hp}{tq:Addr}{rs rs':List Addr}{lu ld:Addr}{cu cd:List Addr}{us ds:List Way}{n:Nat}{M M':Nat->Nat->Bool}(r:Rows H tq rs n M)(t:TB H H' tq rs rs' n M')(h:UD H tq rs lu ld cu cd us ds):UD H' tq rs' lu ld cu cd us ds:=by
 have no:∀l o,H l=some o->l∉rs->l∉rs':=λl o hl hn z=>by
  rcases t.old l z with y|y
  ·exact hn y
  ·rw[hl]at y;cases y
 exact⟨t.keep _ _ h.qu h.u,h.au.byB r t,t.keep _ _ h.qd h.d,h.ad.byB r t,no _ _ h.u h.nu,no _ _ h.d h.nd,h.qu,h.qd⟩
def mL(ws:List Way)(n:Nat)(M:Nat->Nat->Bool):Prop:=∀i j,i<n->j<n->(M i j=true↔Kpt ws n i j)
structure KJ(ws:List Way)(n:Nat)(M:Nat->Nat->Bool):Prop where
 beg:∀i j,(i=j\/∃w∈ws,w.deed = "stay"/\w.room.toNat=i/\w.other.toNat=j)->M i j=true
 snd:∀i j,M i j=true->i=j\/Kpt ws n i j
def Ca{m:Int}{ws:List Way}{M:Nat->Nat->Bool}(ok:∀w∈ws,w.Ok m)(h:KJ ws m.toNat M)(tr:∀i a j,a<m.toNat->M i a=true->M a j=true->M i j=true)(ar:∀u∈ws.filter (λw=>decide (w.deed=DY "up")),∀d∈ws.filter (λw=>decide (w.deed=DY "down")),M u.other.toNat d.room.toNat=true->M u.room.toNat d.other.toNat=true):mL ws m.toNat M:=by
 intro i j hi hj;constructor
 ·intro hm;rcases h.snd i j hm with rfl|h
  ·exact .refl hi
  ·exact h
 ·intro hk;clear hi hj;induction hk with
  | refl _=>exact h.beg _ _ (.inl rfl)
  | stay h1 h2=>exact h.beg _ _ (.inr ⟨_,h1,h2,rfl,rfl⟩)
  | trans h1 h2 i1 i2=>exact tr _ _ _ (Kpt.lt ok h1).2 i1 i2
  | arch h1 h2 h3 h4 h5 ih=>exact ar _ (List.mem_filter.mpr ⟨h1,Em h2⟩) _ (List.mem_filter.mpr ⟨h3,Em h4⟩) ih
def KJ.join{m:Int}{ws:List Way}{M M':Nat->Nat->Bool}(h:KJ ws m.toNat M)(j:Joined m.toNat M M'):KJ ws m.toNat M':=by
 refine⟨λa b hb=>j.le _ _ (h.beg a b hb),λa b hm=>j.least (λa b=>a=b\/Kpt ws m.toNat a b) (λi a j h1 h2=>?_) h.snd a b hm⟩;rcases h1 with rfl|h1
 ·exact h2
 ·rcases h2 with rfl|h2
  ·exact .inr h1
  ·exact .inr (.trans h1 h2)
def KJ.arch{m:Int}{ws:List Way}{M M':Nat->Nat->Bool}{ad:Bool}(ok:∀w∈ws,w.Ok m)(h:KJ ws m.toNat M)(a:ArchR m.toNat (ws.filter λw=>decide (w.deed=DY "up")) (ws.filter λw=>decide (w.deed=DY "down")) M M' ad):KJ ws m.toNat M':=by
 refine⟨λi j hb=>a.le _ _ (h.beg i j hb),λi j hm=>a.least (λa b=>a=b\/Kpt ws m.toNat a b) (λu hu d hd hs=>?_) h.snd i j hm⟩;obtain⟨u1,u2⟩:=List.mem_filter.mp hu;obtain⟨d1,d2⟩:=List.mem_filter.mp hd;have u2:=of_decide_eq_true u2;have d2:=of_decide_eq_true d2;right;refine .arch u1 u2 d1 d2 ?_;rcases hs with hs|hs
 ·rw[hs];exact .refl (gH ok d1).1
 ·exact hs
def lb(K:Dj):Sp:=λvs H Q _=>∃vh m ws,vs=[vh]/\bx H vh m ws/\HOuse m ws/\∀q rs M H',KT H H' q rs m.toNat M->mL ws m.toNat M->Q (.ref q) H'
abbrev nF:Stmt:=stq 56
def tW:FnScope ["house","table","ups","downs"] ["house"] (aC nF):=⟨rfl,rfl,rfl,by decide +kernel,rfl,by decide +kernel,by decide +kernel⟩
def A3{P:Program}{w:World}{K:Dj}{mg:Str->Option Value}{base:Heap}(D:Dfn K mg "kept_table" nF ["house"])(T:Blt mg)(C_add_arches:Cal P w K mg base "add_arches" 1 ["table","ups","downs"] (we K))(C_join_walks:Cal P w K mg base "join_walks" 1 ["table"] (rR K))(C_ways_of_deed:Cal P w K mg base "ways_of_deed" 1 ["house","deed"] (jJ K))(C_beginning_table:Cal P w K mg base "beginning_table" 2 ["house"] (wg K)):Cal P w K mg base "kept_table" 3 ["house"] (lb K):=by
 have nd:=(tW).nd;refine D.ok tW (λvs H Q E h=>?_) (λX hX H vs Q E h=>?_)
 ·obtain⟨vh,m,ws,rfl,_⟩:=h;rfl
 ·obtain⟨f,cdv,A,outer,s,H0,E0,rfl,hr⟩:=hX;obtain⟨vh,m,ws,rfl,hv,ok,q⟩:=h;have m1:=ok.m1;have m12:=ok.m12;refine⟨_,(ah (aA (i:=1) nd rfl (Or.inl rfl) (av C_beginning_table hr (aa (pv 0) ae)))
    (ah (aA (i:=2) nd rfl (Or.inl rfl) (av C_ways_of_deed hr (aa (pv 0) (aa aO ae))))
    (ah (aA (i:=3) nd rfl (Or.inl rfl) (av C_ways_of_deed hr (aa (pv 0) (aa aO ae))))
    (ah (aX (av C_join_walks hr (aa (pv 1) ae)))
    (ah (g7 PassesOwn.never (bH (av C_add_arches hr (aa (pv 1) (aa (pv 2) (aa (pv 3) ae))))) (ao (aX (av C_join_walks hr (aa (pv 1) ae)))))
    (ao (aB (pv 1)))))))),?_⟩
  walk_at"";refine⟨vh,m,ws,rfl,hv,ok,λtq rs M H1 kt bg=>?_⟩;walk_at"";refine⟨vh,m,ws,_,rfl,hv.ext kt.ext,ok,λlu cu us H2 e2 hlu hlu2 hau hus=>?_⟩;walk_at"";refine⟨vh,m,ws,_,rfl,hv.ext (kt.ext.trans e2),ok,λld cd ds H3 e3 hld hld2 had hds=>?_⟩;have kt3:=kt.more (e2.trans e3);have kj:KJ ws m.toNat M:=⟨λi j h=>(bg i j).mpr h,λi j h=>by
   rcases(bg i j).mp h with h|⟨w,hw,hd,rfl,rfl⟩
   ·exact .inl h
   ·exact .inr (.stay hw hd)⟩
  have nin:∀l,H1 l=none->l∉rs/\l≠tq:=λl hl=>by
   refine⟨λz=>?_,λz=>?_⟩
   ·obtain⟨j,hj⟩:=Ef z;rw[kt.rows.2 j l hj]at hl;cases hl
   ·rw[z,kt.rows.1]at hl;cases hl
  have hld1:H1 ld=none:=by
   cases z:H1 ld with
   | none=>rfl
   | some o=>rw[e2 _ _ z]at hld;cases hld
  have ud:UD H3 tq rs lu ld cu cd us ds:=⟨e3 _ _ hlu2,hau.ext e3,hld2,had,(nin lu hlu).1,(nin ld hld1).1,(nin lu hlu).2,(nin ld hld1).2⟩;have hin:∀w∈us++ds,0<=w.room/\w.room<(m.toNat:Int)/\0<=w.other/\w.other<(m.toNat:Int):=λw hw=>by
   have hw':w∈ws:=by
    rcases DL.mp hw with h|h
    ·rw[hus]at h;exact(List.mem_filter.mp h).1
    ·rw[hds]at h;exact(List.mem_filter.mp h).1
   have h:=ok.ok w hw';have h1:=h.r0;have h2:=h.r1;have h3:=h.o0;have h4:=h.o1;omega
  clear hlu2 hau hld2 had nin hld1;walk_at"";refine⟨tq,rs,m.toNat,M,rfl,kt3.tb,by omega,λrs1 M1 H4 tb jd=>?_⟩;have kt4:=kt3.byB tb;have ud4:=ud.byB kt3.rows tb;have kj4:=kj.join jd;walk_at"";refine gG (λmm σ H'=>∃rs M,KT H H' tq rs m.toNat M/\UD H' tq rs lu ld cu cd us ds/\KJ ws m.toNat M/\(∀i a j,a<m.toNat->M i a=true->M a j=true->M i j=true)/\mm=gK m.toNat M/\σ=[some vh,some (.ref tq),some (.ref lu),some (.ref ld)]) (λσ H'=>∃rs M,KT H H' tq rs m.toNat M/\mL ws m.toNat M/\σ=[some vh,some (.ref tq),some (.ref lu),some (.ref ld)]) (gK m.toNat M1) ⟨rs1,M1,kt4,ud4,kj4,jd.tr,rfl,rfl⟩ ?_ ?_
  ·rintro mm σ H5 ⟨rs5,M5,kt5,ud5,kj5,tr5,rfl,rfl⟩;walk_at"";refine⟨tq,rs5,m.toNat,M5,lu,cu,us,ld,cd,ds,rfl,kt5.tw,ud5.u,ud5.au,ud5.d,ud5.ad,ud5.nu,ud5.nd,hin,λM6 ad H6 tw ar cl=>?_⟩;have kt6:=kt5.byW tw;have ud6:=ud5.byW kt5.rows tw;rw[hus,hds]at ar;have kj6:=kj5.arch ok.ok ar;walk_at"";cases ad with
   | false=>
    refine aF ⟨rs5,M6,kt6,Ca ok.ok kj6 (λi a j ha h1 h2=>?_) (λu hu d hd hm=>?_),rfl⟩
    ·rw[ar.same rfl]at h1 h2 ⊢;exact tr5 i a j ha h1 h2
    ·rw[ar.same rfl]at hm ⊢;exact cl rfl u (by rw[hus];exact hu) d (by rw[hds];exact hd) hm
   | true=>
    refine aI ⟨λσ' H'=>∃rs M,KT H H' tq rs m.toNat M/\UD H' tq rs lu ld cu cd us ds/\KJ ws m.toNat M/\(∀i a j,a<m.toNat->M i a=true->M a j=true->M i j=true)/\gK m.toNat M<gK m.toNat M5/\σ'=[some vh,some (.ref tq),some (.ref lu),some (.ref ld)],λσ' H' ⟨rs,M,a1,a2,a3,a4,a5,a6⟩=>⟨_,a5,rs,M,a1,a2,a3,a4,rfl,a6⟩,?_⟩;walk_at"";refine⟨tq,rs5,m.toNat,M6,rfl,kt6.tb,by omega,λrs7 M7 H7 tb7 jd7=>?_⟩;walk_at"";obtain⟨i,j,hi,hj,hf,ht⟩:=ar.more rfl;exact⟨rs7,M7,kt6.byB tb7,ud6.byB kt6.rows tb7,kj6.join jd7,jd7.tr,wY hi hj (λa b h=>jd7.le _ _ (ar.le _ _ h)) hf (jd7.le _ _ ht),rfl⟩
  ·rintro σ H5 ⟨rs5,M5,kt5,hk5,rfl⟩;walk_at"";exact q tq rs5 M5 H5 kt5 hk5
def lW{sp:Sp}{js:List Nat}{cells:List (Str×Addr)}{N:List Str}{ta:TA}{σ:St}{H:Hp}{Q:VK} (h:ta σ H λvs H1=>(∀j∈js,∃v,σ[j]?=some (some v)) ∧
 ∀cp:List Cap,cp.length=js.length->(∀(i j:Nat) (e:Cap),js[i]?=some j->cp[i]?=some e->N[j]?=some e.n/\cells.lookup e.n=some e.c/\σ[j]?=some (some e.v)/\H1 e.c=none/\∃u,e.o.data=.cell (some u)/\RelV e.v u) →
  sp vs (bB (cellsOf cp) H1) (λv H'=>(∀b o,(cellsOf cp).lookup b=some o->H' b=some (cI b o))/\Q v (aU (cellsOf cp) H')) E0):iw sp js cells N ta σ H Q:=h
def wc{P:Program}{w:World}{K:Dj}{mg:Str->Option Value}{base:Heap}{k:Nat}{tf:TE}{ta:TA}{σ:St}{H:Hp}{Q:VK}(h:tf σ H λfv H1=>∃f pre R,fv=.ref f/\FunR P w K mg base k f pre R/\pre H1/\ta σ H1 λvs H2=>pre H2/\R vs H2 Q):vE P w K mg base k tf ta σ H Q:=h
def jW{cs:List (Addr×Obj)}{H:Hp}(hn:∀b o,cs.lookup b=some o->H b=none):Ext H (bB cs H):=λb o e=>mI hn e
def fm{cs:List (Addr×Obj)}{H:Hp}(hc:∀b o,cs.lookup b=some o->H b=some (cI b o)){b:Addr}{x:HO}(hb:H b=some x)(nx:∀f,x≠.ext f):aU cs H b=some x:=by
 cases q:cs.lookup b with
 | none=>rw[bY q];exact hb
 | some o=>rw[hc b o q]at hb;cases hb;exact absurd rfl (nx _)
def xW{cs:List (Addr×Obj)}{H:Hp}(hc:∀b o,cs.lookup b=some o->H b=some (cI b o)):Ext H (bB cs (aU cs H)):=λb x e=>by
 cases q:cs.lookup b with
 | none=>rw[cn q,bY q];exact e
 | some o=>rw[dz q,←hc b o q];exact e
def Ci{cs:List (Addr×Obj)}{H H':Hp}(hn:∀b o,cs.lookup b=some o->H b=none)(e:Ext (bB cs H) H'):Ext H (aU cs H'):=λb x hb=>by
 cases q:cs.lookup b with
 | none=>rw[bY q];exact e b x (by rw[cn q];exact hb)
 | some o=>rw[hn b o q]at hb;cases hb
def cC(n:Nat)(g:Nat->Nat->Bool):Nat->List Bfs.Pl
 | 0=>[]
 | p+1=>cC n g p++((Ek n).filter (g p)).map λq:Nat=>(((p:Nat):Int),((q:Nat):Int))
def ij{n:Nat}{g:Nat->Nat->Bool}{x:Bfs.Pl}:∀{k:Nat},x∈cC n g k↔∃p q:Nat,p<k/\q<n/\g p q=true/\x=(((p:Nat):Int),((q:Nat):Int))
 | 0=>⟨λh=>(nomatch h),λ⟨p,_,h,_⟩=>absurd h (Nat.not_lt_zero _)⟩
 | k+1=>by
  show x∈cC n g k++_↔_;rw[DL,ij (k:=k)];constructor
  ·rintro(⟨p,q,h1,h2⟩|h)
   ·exact⟨p,q,by omega,h2⟩
   ·obtain⟨q,hq,rfl⟩:=List.mem_map.mp h;obtain⟨h1,h2⟩:=List.mem_filter.mp hq;exact⟨k,q,by omega,List.mem_range.mp h1,h2,rfl⟩
  ·rintro⟨p,q,h1,h2,h3,rfl⟩;by_cases hp:p<k
   ·exact .inl ⟨p,q,hp,h2,h3,rfl⟩
   ·have:p=k:=by omega
    subst this;exact .inr (List.mem_map.mpr ⟨q,List.mem_filter.mpr ⟨List.mem_range.mpr h2,h3⟩,rfl⟩)
def mH(n:Nat)(g:Nat->Bool):((Ek n).filter g).length<=n:=DS (List.length_filter_le _ _) (by rw[List.length_range];exact DI _)
def nQ{n:Nat}{g:Nat->Nat->Bool}:∀k:Nat,(cC n g k).length<=k*n
 | 0=>by simp[cC]
 | k+1=>by show(cC n g k++_).length<=_;rw[DG,Dn,Nat.succ_mul];have:=nQ (n:=n) (g:=g) k;have:=mH n (g k);omega
def bM{H H':Hp}(f:∀a x,aK H a x->aK H' a x){as:List Addr}{xs:List Bfs.Pl}(h:Paired (aK H) as xs):Paired (aK H') as xs:=by
 induction h with
 | nil=>exact .nil
 | cons h t ih=>exact .cons (f _ _ h) ih
def ja{H:Hp}{as:List Addr}{xs:List Bfs.Pl}{a:Addr}{x:Bfs.Pl}(h:Paired (aK H) as xs)(ht:aK H a x):Paired (aK H) (as++[a]) (xs++[x]):=by
 induction h with
 | nil=>exact .cons ht .nil
 | cons h _ ih=>exact .cons h ih
def pE{H:Hp}{as bs:List Addr}{xs ys:List Bfs.Pl}(h:Paired (aK H) as xs)(h':Paired (aK H) bs ys):Paired (aK H) (as++bs) (xs++ys):=by
 induction h with
 | nil=>exact h'
 | cons h _ ih=>exact .cons h ih
def cP{H:Hp}{as:List Addr}{xs:List Bfs.Pl}(h:Paired (aK H) as xs):as.length=xs.length:=by
 induction h with
 | nil=>rfl
 | cons _ _ ih=>rw[DP,DP,ih]
def oO(P:Program)(w:World)(K:Dj)(mg:Str->Option Value)(base:Heap):Sp:=λvs H Q _=>∃vh m ws f pre g,vs=[vh,.ref f]/\bx H vh m ws/\HOuse m ws/\FunR P w K mg base 1 f pre (λvs H Q=>∃p q:Nat,vs=[.int (p:Nat),.int (q:Nat)]/\(p:Int)<m/\(q:Int)<m/\∀H',Ext H H'->Q (.bl (g p q)) H')/\pre H/\(∀H H',Ext H H'->pre H->pre H') ∧
 ∀l ps H',Ext H H'->H l=none->H' l=some (.lst (List.map V.ref ps))->Paired (aK H') ps (cC m.toNat g m.toNat)->Q (.ref l) H'
abbrev lO:Stmt:=stq 52
def wy:FnScope ["house","choice","pairs","p"] ["house","choice"] (aC lO):=⟨rfl,rfl,rfl,by decide +kernel,rfl,by decide +kernel,by decide +kernel⟩
def yM{P:Program}{w:World}{K:Dj}{mg:Str->Option Value}{base:Heap}(D:Dfn K mg "told_pairs" lO ["house","choice"])(T:Blt mg):Cal P w K mg base "told_pairs" 2 ["house","choice"] (oO P w K mg base):=by
 have nd:=(wy).nd;refine D.ok wy (λvs H Q E h=>?_) (λX hX H vs Q E h=>?_)
 ·obtain⟨vh,m,ws,f,pre,g,rfl,_⟩:=h;rfl
 ·obtain⟨f,cdv,A,outer,s,H0,E0,rfl,hr⟩:=hX;obtain⟨vh,m,ws,ff,pre,g,rfl,hv,ok,hF,hpre,hmono,q⟩:=h;have m1:=ok.m1;have m12:=ok.m12;obtain⟨hp0,hq0,rfl,hh,_⟩:=id hv;refine⟨_,(@ah _ _ _ _ _ (@aA _ _ 2 _ _ _ _ nd rfl (Or.inl rfl) (@bw _ _ _ _ ae) rfl (Or.inl rfl))
    (@ah _ _ _ _ _ (bG PassesOwn.never rfl (cx rfl T.range_ (@aa _ _ _ _ _ (@ai _ _ _ _ _ _ _ (ay K) (pv 0) af (λ_ _=>rfl)) ae rfl)) (aN (i:=3) nd rfl (Or.inr rfl)) (@ao _ _ _ (aX (bR K Dw PySem.F.slot_list_extend PySem.F.type_list_extend za (pv 2) (@aa _ _ _ _ _ (dZ ["q"] [3,1] (cx rfl T.range_ (@aa _ _ _ _ _ (@ai _ _ _ _ _ _ _ (ay K) (pv 0) af (λ_ _=>rfl)) ae rfl)) (λ_=>(aN (i:=0) (show(["q","p","choice"]:List Str).Nodup from by decide +kernel) rfl (Or.inl rfl) (Or.inr rfl))) (λ_=>(fA (bH (vF (P:=P) (w:=w) (K:=K) (mg:=mg) (base:=base) hr (pv 2) (@aa _ _ _ _ _ (pv 1) (@aa _ _ _ _ _ (pv 0) ae rfl) rfl))))) (λ_=>(@bz _ _ _ _ _ (@aa _ _ _ _ _ (pv 1) (@aa _ _ _ _ _ (pv 0) ae rfl) rfl)))) ae rfl)))))
    (@ao _ _ _ (@aB _ _ _ _ (pv 2))))),?_⟩
  walk_at"";refine aH λl H1 e1 hl hfl=>?_;walk_at"";refine az (aj.of (e1 _ _ hh)) (v:=.int m) rfl ?_;walk_at"";refine cq (by omega) ?_;refine forR (λp σ H'=>∃ps k1,Ext H H'/\H' l=some (.lst (List.map V.ref ps))/\Paired (aK H') ps (cC m.toNat g p)/\σ=[some (.ref hp0),some (.ref ff),some (.ref l),k1]) ⟨[],_,e1,hl,.nil,rfl⟩ ?_ ?_
  ·rintro p σ H2 hp ⟨ps,k1,e2,hl2,hps,rfl⟩;rw[show (0:Int)+(p:Int)=((p:Nat):Int) by omega];have hpl:=cP hps;have hpn:=nQ (n:=m.toNat) (g:=g) p;have hpm:p*m.toNat<=12*12:=Nat.mul_le_mul (by omega) (by omega);walk_at"";refine⟨dM (ag.of hl2),?_⟩;walk_at"";refine az (aj.of (e2 _ _ hh)) (v:=.int m) rfl ?_;walk_at"";refine cq (by omega) ?_;refine fo (λi ys H'=>Ext H2 H'/\∃cs,ys=List.map V.ref cs/\Paired (aK H') cs (((Ek i).filter (g p)).map λq:Nat=>(((p:Nat):Int),((q:Nat):Int)))) (bD (by omega)) ⟨Ext.rfl' _,[],rfl,.nil⟩ ?_ ?_ ?_
   ·rintro i ys H' _ ⟨_,cs,rfl,hcs⟩;rw[Dn,cP hcs,Dn];exact mH i (g p)
   ·rintro i ys H3 hi ⟨e3,cs,rfl,hcs⟩;rw[show (0:Int)+(i:Int)=((i:Nat):Int) by omega];have e23:=e2.trans e3;walk_at"";refine wc ?_;walk_at"";refine⟨ff,pre,_,rfl,hF,hmono _ _ e23 hpre,?_⟩;walk_at"";refine⟨hmono _ _ e23 hpre,p,i,rfl,by omega,by omega,λH4 e4=>?_⟩;have e24:=e3.trans e4;cases hg:g p i with
    | false=>
     refine rd_exb (aF ⟨e24,cs,rfl,?_⟩);rw[List.range_succ,List.filter_append];have:List.filter (g p) [i]=[]:=by rw[List.filter_cons,En (by rw[hg];exact DE)];rfl
     rw[this,List.append_nil];exact bM (λa x h=>e4 _ _ h) hcs
    | true=>
     refine rd_exb (aI ?_);walk_at"";refine aH λt H5 e5 ht _=>?_;refine⟨e24.trans e5,cs++[t],?_,?_⟩
     ·rw[DF];rfl
     ·rw[List.range_succ,List.filter_append,DF];have:List.filter (g p) [i]=[i]:=by rw[List.filter_cons,Eo hg];rfl
      rw[this];exact ja (bM (λa x h=>(e4.trans e5) _ _ h) hcs) ht
   ·rintro ys H3 p9 ⟨e3,cs,rfl,hcs⟩ hp9;have e4:=bJ (o:=.lst (List.map V.ref cs)) hp9;have h9:(upd H3 p9 (.lst (List.map V.ref cs))) p9=_:=aJ;have hcs4:=bM (λa x h=>e4 _ _ h) hcs;have e24:=e3.trans e4;have hl4:=e24 _ _ hl2;have hps4:=bM (λa x h=>e24 _ _ h) hps;generalize upd H3 p9 (.lst (List.map V.ref cs))=H4 at e4 h9 hcs4 e24 hl4 hps4 ⊢;have hcl:=cP hcs;rw[Dn]at hcl;have hfl2:=mH m.toNat (g p);walk_at"";refine⟨l,p9,_,_,rfl,rfl,hl4,h9,bD (by rw[Dn,Dn];omega),?_⟩;walk_at"";refine⟨ps++cs,_,cJ (e2.trans e24) hfl,?_,?_,rfl⟩
    ·rw[aJ,DF]
    ·exact pE (bM (λa x h=>aK.put hl4 (λxs z=>by cases z) h) hps4) (bM (λa x h=>aK.put hl4 (λxs z=>by cases z) h) hcs4)
  ·rintro σ H2 ⟨ps,k1,e2,hl2,hps,rfl⟩;walk_at"";exact q l ps H2 e2 hfl hl2 hps
def cR(K:Dj):Prop:=∀x∈(["either","kept","less","low_levels","parting","risen"]:List Str),∀y∈(["either","kept","less","low_levels","parting","risen"]:List Str),x≠y->∀c T c' T',PySem.W.tabIn K x=some (c,T)->PySem.W.tabIn K y=some (c',T')->T'≠T
def BB(K:Dj):Bool:=(["either","kept","less","low_levels","parting","risen"]:List Str).all λx=>(["either","kept","less","low_levels","parting","risen"]:List Str).all λy=>x == y || (match PySem.W.tabIn K x,PySem.W.tabIn K y with|some a,some b=>b.2 != a.2|_,_=>true)
def zJ{K:Dj}(h:BB K=true):cR K:=λx hx y hy hn c T c' T' e1 e2=>by
 have h1:=DU.mp (DU.mp h x hx) y hy;rw[e1,e2,Bool.or_eq_true]at h1;rcases h1 with h1|h1
 ·exact absurd (eq_of_beq h1) hn
 ·exact bne_iff_ne.mp h1
structure Tbs(K:Dj)(H:Hp):Prop where
 either:bS K "either" ("either" ++ ".<locals>." ++ "<lambda>") 111 30 H
 kept:bS K "kept" ("kept" ++ ".<locals>." ++ "<lambda>") 206 29 H
 less:bS K "less" ("less" ++ ".<locals>." ++ "<lambda>") 113 30 H
 low:bS K "low_levels" ("low_levels" ++ ".<locals>." ++ "<lambda>") 239 39 H
 parting:bS K "parting" ("parting" ++ ".<locals>." ++ "<lambda>") 115 39 H
 risen:bS K "risen" ("risen" ++ ".<locals>." ++ "<lambda>") 211 29 H
def Tbs.ext{K:Dj}{H H':Hp}(e:Ext H H')(h:Tbs K H):Tbs K H':=⟨h.either.ext e,h.kept.ext e,h.less.ext e,h.low.ext e,h.parting.ext e,h.risen.ext e⟩
def bL.et{H H':Hp}{p:Addr}{kk:List (List Key)}(e:Et H H')(h:bL H p kk):bL H' p kk:=by obtain⟨bs,h1,h2,h3⟩:=h;exact⟨bs,e _ _ h1 (λps z=>by cases z),h2,λj b k e1 e2=>e _ _ (h3 j b k e1 e2) (λps z=>by cases z)⟩
def bx.et{H H':Hp}{v:V}{m:Int}{ws:List Way}(e:Et H H')(h:bx H v m ws):bx H' v m ws:=by obtain⟨p,q,rfl,h1,h2⟩:=h;exact⟨p,q,rfl,e _ _ h1 (λps z=>by cases z),h2.et e⟩
def Rows.et{H H':Hp}(e:Et H H'){q:Addr}{rs:List Addr}{n:Nat}{M:Nat->Nat->Bool}(h:Rows H q rs n M):Rows H' q rs n M:=⟨e _ _ h.1 (λps z=>by cases z),λi r hi=>e _ _ (h.2 i r hi) (λps z=>by cases z)⟩
def aL.et{H H':Hp}{bs:List Addr}{ws:List Way}(e:Et H H')(h:aL H bs ws):aL H' bs ws:=⟨h.1,λj b w e1 e2=>e _ _ (h.2 j b w e1 e2) (λps z=>by cases z)⟩
def aK.et{H H':Hp}(e:Et H H'){p:Addr}{x:Bfs.Pl}(h:aK H p x):aK H' p x:=e _ _ h (λps z=>by cases z)
def dy(H:Hp)(l:Addr)(n:Nat)(R:Nat->Nat->Prop):Prop:=∃ps g,H l=some (.lst (List.map V.ref ps))/\Paired (aK H) ps (cC n g n)/\∀i j,i<n->j<n->(g i j=true↔R i j)
def dy.et{H H':Hp}(e:Et H H'){l:Addr}{n:Nat}{R:Nat->Nat->Prop}(h:dy H l n R):dy H' l n R:=by obtain⟨ps,g,h1,h2,h3⟩:=h;exact⟨ps,g,e _ _ h1 (λps z=>by cases z),bM (λa x h=>h.et e) h2,h3⟩
def held{cs:List (Addr×Obj)}{H3 H4:Hp}(hn:∀b o,cs.lookup b=some o->H3 b=none)(e4:Ext (bB cs H3) H4):(∀b o,cs.lookup b=some o->H4 b=some (cI b o))/\Ext H3 (aU cs H4)/\(∀l,bB cs H3 l=none->aU cs H4 l=H4 l)/\∀b x,H4 b=some x->(∀f,x≠.ext f)->aU cs H4 b=some x:=by
 have hc:∀b o,cs.lookup b=some o->H4 b=some (cI b o):=λb o q=>e4 _ _ (dz q);refine⟨hc,Ci hn e4,λl hl=>?_,λb x hb nx=>fm hc hb nx⟩;cases q:cs.lookup l with
 | none=>exact bY q
 | some o=>rw[dz q]at hl;cases hl
def oZ{α:Type}{cp:List α}(h:cp.length=1):∃e,cp=[e]:=by
 cases cp with
 | nil=>exact absurd h (by simp)
 | cons e r=>
  cases r with
  | nil=>exact⟨e,rfl⟩
  | cons _ _=>exact absurd h (by simp)
def jf{α:Type}{cp:List α}(h:cp.length=2):∃e e',cp=[e,e']:=by
 cases cp with
 | nil=>exact absurd h (by simp)
 | cons e r=>
  obtain⟨e',rfl⟩:=oZ (cp:=r) (by simpa using h);exact⟨e,e',rfl⟩
def y6{α:Type}{cp:List α}(h:cp.length=3):∃e e' e'',cp=[e,e',e'']:=by
 cases cp with
 | nil=>exact absurd h (by simp)
 | cons e r=>
  obtain⟨e',e'',rfl⟩:=jf (cp:=r) (by simpa using h);exact⟨e,e',e'',rfl⟩
def mF{P:Program}{w:World}{K:Dj}{mg:Str->Option Value}{base:Heap}{k:Nat}{f c:Addr}{q:Str}{params:Arguments}{body:Expr}{scope:Scope}{cl cells:List (Str×Addr)}{H0:Hp}(hf:H0 f=some (dP f c q params body scope cl))(C:ClOk scope cells cl)(ps:List Str)(cp:List Cap)(R:List V->Hp->VK->Prop)(I:Hp->Prop)
  (S:LamSc ps scope) (bind:∀(pm cv ctv:Value) (us:List Value),us.length=ps.length->bindArgs (PySem.W.kla_fn "<lambda>" q params body scope cl pm cv ctv) ⟨us,[]⟩=pure (ps.zip us))
  (hR:∀vs H Q,R vs H Q->vs.length=ps.length)
  (hbody:∀(A:Around) (outer:List Env) (s:Shared) (H:Hp) (vs:List V) (Q:VK),Room k (A.deeper (dD q scope s.heap.objs.size f (.ref c) cl))->gm f c q params body scope cl cp H->I H->R vs H Q →
   ∃te,PE (iW P w K mg base (ps++cp.map (·.n)) q scope f (.ref c) cl A outer s (aU (cellsOf cp) H)) body te/\te (vs.map some++cp.map λe=>some e.v) (aU (cellsOf cp) H) λv H'=>(∀b o,(cellsOf cp).lookup b=some o->H' b=none)->Q v (bB (cellsOf cp) H')) :
  FunR P w K mg base (k+1) f (λH=>gm f c q params body scope cl cp H/\I H) R:=w9 I S C bind hR hbody
def kS(K:Dj):Sp:=λvs H Q _=>∃vh m ws,vs=[vh]/\bx H vh m ws/\HOuse m ws/\cR K/\Tbs K H/\∀l H',Et H H'->Tbs K H'->dy H' l m.toNat (Kpt ws m.toNat)->Q (.ref l) H'
abbrev o8:Stmt:=stq 57
def qI:FnScope ["house","table"] ["house"] (aC o8):=⟨rfl,rfl,rfl,by decide +kernel,rfl,by decide +kernel,by decide +kernel⟩
def B4{P:Program}{w:World}{K:Dj}{mg:Str->Option Value}{base:Heap}(D:Dfn K mg "kept" o8 ["house"])(T:Blt mg){c9 T9:Addr}(B:Tab K mg base "kept" c9 T9)(C_told_pairs:Cal P w K mg base "told_pairs" 2 ["house","choice"] (oO P w K mg base))(C_kept_table:Cal P w K mg base "kept_table" 3 ["house"] (lb K))(C_refuse_no_house:Cal P w K mg base "refuse_no_house" 6 ["thing"] (kh K)):Cal P w K mg base "kept" 7 ["house"] (kS K):=by
 have nd:=(qI).nd;refine D.okL B qI (λvs H Q E h=>?_) (λX hX H vs Q E h=>?_)
 ·obtain⟨vh,m,ws,rfl,_⟩:=h;rfl
 ·obtain⟨f,A,outer,s,H0,E0,rfl,hr⟩:=hX;obtain⟨vh,m,ws,rfl,hv,ok,dis,htb,q⟩:=h;have m1:=ok.m1;have m12:=ok.m12;refine⟨_,(ah (aX (av C_refuse_no_house hr (aa (pv 0) ae)))
    (ah (aA (i:=1) nd rfl (Or.inr rfl) (av C_kept_table hr (aa (pv 0) ae)))
    (ao (aB (nR [1] C_told_pairs hr (aa (pv 0) (aa (oi rfl rfl B.hd B.blt B.gl (by decide +kernel) rfl rfl rfl) ae))))))),?_⟩
  walk_at"";refine⟨vh,m,ws,rfl,hv,ok,λH1 e1=>?_⟩;walk_at"";refine⟨vh,m,ws,rfl,hv.ext e1,ok,λtq rs M H2 kt km=>?_⟩;have e02:=e1.trans kt.ext;have hrows:=kt.rows;have hrl:=kt.len;walk_at"";show iw _ [1] _ (["house","table"]:List Str) _ _ _ _;generalize PySem.Env.cells _=cells0;refine lW ?_;walk_at"";refine kF ?_;refine lI (x:="kept") (htb.ext e02).kept B.tin λfl c' cl H3 hcl e3 ht3 ot hf hc'=>?_;have t3:Tbs K H3:=⟨ot "either" _ _ _ (λc2 T2 e2=>dis "kept" (by simp) "either" (by simp) (by decide +kernel) _ _ _ _ B.tin e2) (htb.ext e02).either,ht3,ot "less" _ _ _ (λc2 T2 e2=>dis "kept" (by simp) "less" (by simp) (by decide +kernel) _ _ _ _ B.tin e2) (htb.ext e02).less,ot "low_levels" _ _ _ (λc2 T2 e2=>dis "kept" (by simp) "low_levels" (by simp) (by decide +kernel) _ _ _ _ B.tin e2) (htb.ext e02).low,ot "parting" _ _ _ (λc2 T2 e2=>dis "kept" (by simp) "parting" (by simp) (by decide +kernel) _ _ _ _ B.tin e2) (htb.ext e02).parting,ot "risen" _ _ _ (λc2 T2 e2=>dis "kept" (by simp) "risen" (by simp) (by decide +kernel) _ _ _ _ B.tin e2) (htb.ext e02).risen⟩;walk_at"";refine⟨λj hj=>?_,λcp hlen hcp=>?_⟩
  ·rw[Dz.mp hj];exact⟨_,rfl⟩
  obtain⟨⟨n,c,o,v⟩,rfl⟩:=oZ hlen;obtain⟨hN,hcc,hσ,hnone,u,hdat,hrel⟩:=hcp 0 1 _ rfl rfl;clear hcp hlen;dsimp only at hN hcc hσ hnone hdat hrel;have hN':(DY "table")=n:=DZ hN;have hσ':(V.ref tq)=v:=DZ (DZ hσ);clear hN hσ;subst hN';subst hσ';have hn3:∀b o',(cellsOf [⟨DY "table",c,o,V.ref tq⟩]).lookup b=some o'->H3 b=none:=λb o' hb=>by obtain⟨e,he,rfl,rfl⟩:=fC hb;rw[Dz.mp he];exact hnone
  have ex:=jW hn3;have hrows3:=(hrows.et e3).ext ex;have hv3:=((hv.ext e02).et e3).ext ex;have hcaps:Caps (bB (cellsOf [⟨DY "table",c,o,V.ref tq⟩]) H3) cl [⟨DY "table",c,o,V.ref tq⟩]:=by
   obtain⟨c2,hc2⟩:=hcl.has (DY "table") rfl;have hc3:=(hcl.fr _ _ hc2).2;rw[hcc]at hc3;cases hc3;refine⟨λe he=>?_,λx d hx=>?_⟩
   ·rw[Dz.mp he];exact⟨hc2,dz (by simp[cellsOf]),u,hdat,hrel⟩
   ·have hm:=gL (hcl.fr x d hx).1;simp at hm;subst hm;rw[hc2]at hx;cases hx;exact⟨_,Dz.mpr rfl,rfl,rfl⟩
  have hF:=mF (P:=P) (w:=w) (K:=K) (mg:=mg) (base:=base) (k:=0) hf hcl (["p","q"]:List Str) [⟨DY "table",c,o,V.ref tq⟩] (λvs H Q=>∃p q:Nat,vs=[.int (p:Nat),.int (q:Nat)]/\(p:Int)<m/\(q:Int)<m/\∀H',Ext H H'->Q (.bl (M p q)) H') (λH=>Rows H tq rs m.toNat M) ⟨rfl,rfl,rfl,by decide +kernel,by decide +kernel⟩ (λ_ _ _ us hl=>by obtain⟨u1,u2,rfl⟩:=jf hl;rfl) (λvs H Q h=>by obtain⟨p,q,rfl,_⟩:=h;rfl) (λA outer s H vs Q hrL hpre hI hR=>by
   obtain⟨p,q,rfl,hp,hq,hQ⟩:=hR;have hlk:=hpre.2.2.look;have hI':Rows (aU (cellsOf [⟨DY "table",c,o,V.ref tq⟩]) H) tq rs m.toNat M:=⟨fm hlk hI.1 (λf z=>by cases z),λi r hi=>fm hlk (hI.2 i r hi) (λf z=>by cases z)⟩;refine⟨_,(ai (aE K) (ai (aE K) (pv 2) (pv 0) (λ_ _=>rfl)) (pv 1) (λ_ _=>rfl)),?_⟩;have hb:=xW hlk;generalize aU (cellsOf [⟨DY "table",c,o,V.ref tq⟩]) H=HU at hI' hb ⊢;have hp2:p<rs.length:=by omega
   have gp:rs[p]?=some rs[p]:=Dp hp2;have rp:=hI'.2 p _ gp;generalize rs[p]=ap at gp rp;show iq _ _ _ [some (.int (p:Nat)),some (.int (q:Nat)),some (.ref tq)] _ _;walk_at"";refine aD (ag.of hI'.1) (v:=.ref ap) (dQ (by rw[Dr,gp];rfl)) ?_;walk_at"";refine aD (ag.of rp) (cY (by omega) (by omega)) ?_;rw[DB];exact λ_=>hQ _ hb)
  refine⟨vh,m,ws,fl,_,M,rfl,hv3,ok,hF,⟨⟨ex _ _ hf,ex _ _ hc',hcaps⟩,hrows3⟩,λH H' e h=>⟨h.1.ext e,h.2.ext e⟩,λl ps H4 e4 hl hl4 hps=>?_⟩;obtain⟨a1,a2,a3,a4⟩:=held hn3 e4;exact⟨a1,q l _ ((e02.et.trans e3).trans a2.et) (t3.ext a2) ⟨ps,M,a4 _ _ hl4 (λf z=>by cases z),bM (λa x h=>a4 _ _ h (λf z=>by cases z)) hps,km⟩⟩
def aV(ws:List Way)(n:Nat)(i j:Nat):Prop:=∃u∈ws,u.deed = "up"/\u.room.toNat=i/\Kpt ws n u.other.toNat j
def vw{cs:List (Addr×Obj)}{H H':Hp}(hc:∀b o,cs.lookup b=some o->H b=some (cI b o))(e:Ext (aU cs H) H'):Ext H (bB cs H'):=λb x hb=>by
 cases q:cs.lookup b with
 | none=>rw[cn q];exact e b x (by rw[bY q];exact hb)
 | some o=>rw[dz q,←hc b o q];exact hb
def jl(us:List Way)(M:Nat->Nat->Bool)(p q:Nat):Bool:=((us.filter λu=>decide (u.room=(p:Int))).map λu=>M u.other.toNat q).any id
def oG(K:Dj):Sp:=λvs H Q _=>∃vh m ws,vs=[vh]/\bx H vh m ws/\HOuse m ws/\cR K/\Tbs K H/\∀l H',Et H H'->Tbs K H'->dy H' l m.toNat (aV ws m.toNat)->Q (.ref l) H'
abbrev mQ:Stmt:=stq 58
def vI:FnScope ["house","table","ups"] ["house"] (aC mQ):=⟨rfl,rfl,rfl,by decide +kernel,rfl,by decide +kernel,by decide +kernel⟩
def zr{P:Program}{w:World}{K:Dj}{mg:Str->Option Value}{base:Heap}(D:Dfn K mg "risen" mQ ["house"])(T:Blt mg){c9 T9:Addr}(B:Tab K mg base "risen" c9 T9)(C_told_pairs:Cal P w K mg base "told_pairs" 2 ["house","choice"] (oO P w K mg base))(C_ways_of_deed:Cal P w K mg base "ways_of_deed" 1 ["house","deed"] (jJ K))(C_kept_table:Cal P w K mg base "kept_table" 3 ["house"] (lb K))(C_refuse_no_house:Cal P w K mg base "refuse_no_house" 6 ["thing"] (kh K)):Cal P w K mg base "risen" 7 ["house"] (oG K):=by
 have nd:=(vI).nd;refine D.okL B vI (λvs H Q E h=>?_) (λX hX H vs Q E h=>?_)
 ·obtain⟨vh,m,ws,rfl,_⟩:=h;rfl
 ·obtain⟨f,A,outer,s,H0,E0,rfl,hr⟩:=hX;obtain⟨vh,m,ws,rfl,hv,ok,dis,htb,q⟩:=h;have m1:=ok.m1;have m12:=ok.m12;have few:=ok.few;refine⟨_,(ah (aX (av C_refuse_no_house hr (aa (pv 0) ae)))
    (ah (aA (i:=1) nd rfl (Or.inr rfl) (av C_kept_table hr (aa (pv 0) ae)))
    (ah (aA (i:=2) nd rfl (Or.inr rfl) (av C_ways_of_deed hr (aa (pv 0) (aa aO ae))))
    (ao (aB (nR [2,1] C_told_pairs hr (aa (pv 0) (aa (oi rfl rfl B.hd B.blt B.gl (by decide +kernel) rfl rfl rfl) ae)))))))),?_⟩
  walk_at"";refine⟨vh,m,ws,rfl,hv,ok,λH1 e1=>?_⟩;walk_at"";refine⟨vh,m,ws,rfl,hv.ext e1,ok,λtq rs M H1b kt km=>?_⟩;walk_at"";refine⟨vh,m,ws,_,rfl,hv.ext (e1.trans kt.ext),ok,λlu cu us H2 e2 hlu hlu2 hau hus=>?_⟩;have e02:=(e1.trans kt.ext).trans e2;have hrows:=kt.rows.ext e2;have hrl:=kt.len;have hcu:=hau.1;have hul:us.length<=100:=by rw[hus];exact DS (List.length_filter_le _ _) few
  have hin:∀u∈us,u∈ws/\u.deed=DY "up":=λu hu=>by rw[hus]at hu;obtain⟨h1,h2⟩:=List.mem_filter.mp hu;exact⟨h1,of_decide_eq_true h2⟩
  walk_at"";show iw _ [2,1] _ (["house","table","ups"]:List Str) _ _ _ _;generalize PySem.Env.cells _=cells0;refine lW ?_;walk_at"";refine kF ?_;refine lI (x:="risen") (htb.ext e02).risen B.tin λfl c' cl H3 hcl e3 ht3 ot hf hc'=>?_;have t3:Tbs K H3:=⟨ot "either" _ _ _ (λc2 T2 e2=>dis "risen" (by simp) "either" (by simp) (by decide +kernel) _ _ _ _ B.tin e2) (htb.ext e02).either,ot "kept" _ _ _ (λc2 T2 e2=>dis "risen" (by simp) "kept" (by simp) (by decide +kernel) _ _ _ _ B.tin e2) (htb.ext e02).kept,ot "less" _ _ _ (λc2 T2 e2=>dis "risen" (by simp) "less" (by simp) (by decide +kernel) _ _ _ _ B.tin e2) (htb.ext e02).less,ot "low_levels" _ _ _ (λc2 T2 e2=>dis "risen" (by simp) "low_levels" (by simp) (by decide +kernel) _ _ _ _ B.tin e2) (htb.ext e02).low,ot "parting" _ _ _ (λc2 T2 e2=>dis "risen" (by simp) "parting" (by simp) (by decide +kernel) _ _ _ _ B.tin e2) (htb.ext e02).parting,ht3⟩;walk_at"";refine⟨λj hj=>?_,λcp hlen hcp=>?_⟩
  ·rcases DD.mp hj with rfl|hj
   ·exact⟨_,rfl⟩
   ·rw[Dz.mp hj];exact⟨_,rfl⟩
  obtain⟨⟨n,c,o,v⟩,⟨n',d,o',v'⟩,rfl⟩:=jf hlen;obtain⟨hN,hcc,hσ,hnone,u,hdat,hrel⟩:=hcp 0 2 _ rfl rfl;obtain⟨hN2,hcc2,hσ2,hnone2,u2,hdat2,hrel2⟩:=hcp 1 1 _ rfl rfl;clear hcp hlen;dsimp only at hN hcc hσ hnone hdat hrel hN2 hcc2 hσ2 hnone2 hdat2 hrel2;have hN':(DY "ups")=n:=DZ hN;have hσ':(V.ref lu)=v:=DZ (DZ hσ);have hN2':(DY "table")=n':=DZ hN2;have hσ2':(V.ref tq)=v':=DZ (DZ hσ2);clear hN hσ hN2 hσ2;subst hN';subst hσ';subst hN2';subst hσ2';obtain⟨c2,hc2⟩:=hcl.has (DY "ups") rfl;obtain⟨d2,hd2⟩:=hcl.has (DY "table") rfl;have hc3:=(hcl.fr _ _ hc2).2;have hd3:=(hcl.fr _ _ hd2).2;rw[hcc]at hc3;rw[hcc2]at hd3;cases hc3;cases hd3;have ncd:c≠d:=λz=>by have:=hcl.inj _ _ _ hc2 (z ▸ hd2);exact absurd this (by decide +kernel)
  have hn3:∀b o9,(cellsOf [⟨DY "ups",c,o,V.ref lu⟩,⟨DY "table",d,o',V.ref tq⟩]).lookup b=some o9->H3 b=none:=λb o9 hb=>by
   obtain⟨e,he,rfl,rfl⟩:=fC hb;rcases DD.mp he with rfl|he
   ·exact hnone
   ·rw[Dz.mp he];exact hnone2
  have ex:=jW hn3;have hrows3:=(hrows.et e3).ext ex;have hlu3:=ex _ _ (e3 _ _ hlu2 (λps z=>by cases z));have hau3:=(hau.et e3).ext ex;have hv3:=((hv.ext e02).et e3).ext ex;have hcaps:Caps (bB (cellsOf [⟨DY "ups",c,o,V.ref lu⟩,⟨DY "table",d,o',V.ref tq⟩]) H3) cl [⟨DY "ups",c,o,V.ref lu⟩,⟨DY "table",d,o',V.ref tq⟩]:=by
   refine⟨λe he=>?_,λx g hx=>?_⟩
   ·rcases DD.mp he with rfl|he
    ·exact⟨hc2,dz (by simp[cellsOf]),u,hdat,hrel⟩
    ·rw[Dz.mp he];refine⟨hd2,dz ?_,u2,hdat2,hrel2⟩;show List.lookup d ((c,o)::[(d,o')])=some o';rw[Eg,show (d == c)=false from beq_eq_false_iff_ne.mpr (Ne.symm ncd),Eg,beq_self_eq_true]
   ·have hm:=gL (hcl.fr x g hx).1;simp at hm;rcases hm with rfl|rfl
    ·first|(rw[hc2]at hx;cases hx;exact⟨_,Dv,rfl,rfl⟩)|(rw[hd2]at hx;cases hx;exact⟨_,Ds _ (Dz.mpr rfl),rfl,rfl⟩)
    ·first|(rw[hc2]at hx;cases hx;exact⟨_,Dv,rfl,rfl⟩)|(rw[hd2]at hx;cases hx;exact⟨_,Ds _ (Dz.mpr rfl),rfl,rfl⟩)
  have hF:=mF (P:=P) (w:=w) (K:=K) (mg:=mg) (base:=base) (k:=0) hf hcl (["p","q"]:List Str) [⟨DY "ups",c,o,V.ref lu⟩,⟨DY "table",d,o',V.ref tq⟩] (λvs H Q=>∃p q:Nat,vs=[.int (p:Nat),.int (q:Nat)]/\(p:Int)<m/\(q:Int)<m/\∀H',Ext H H'->Q (.bl (jl us M p q)) H') (λH=>Rows H tq rs m.toNat M/\H lu=some (.lst (List.map V.ref cu))/\aL H cu us) ⟨rfl,rfl,rfl,by decide +kernel,by decide +kernel⟩ (λ_ _ _ us hl=>by obtain⟨u1,u2,rfl⟩:=jf hl;rfl) (λvs H Q h=>by obtain⟨p,q,rfl,_⟩:=h;rfl) (λA outer s H vs Q hrL hpre hI hR=>by
   obtain⟨p,q,rfl,hp,hq,hQ⟩:=hR;have hlk:=hpre.2.2.look;obtain⟨hI1,hI2,hI3⟩:=hI;have hI1':Rows (aU (cellsOf [⟨DY "ups",c,o,V.ref lu⟩,⟨DY "table",d,o',V.ref tq⟩]) H) tq rs m.toNat M:=⟨fm hlk hI1.1 (λf z=>by cases z),λi r hi=>fm hlk (hI1.2 i r hi) (λf z=>by cases z)⟩;have hI2':=fm hlk hI2 (λf z=>by cases z);have hI3':aL (aU (cellsOf [⟨DY "ups",c,o,V.ref lu⟩,⟨DY "table",d,o',V.ref tq⟩]) H) cu us:=⟨hI3.1,λj b w e1 e2=>fm hlk (hI3.2 j b w e1 e2) (λf z=>by cases z)⟩;refine⟨_,(br (xQ K rfl) rfl T.any_ PyProof.Rows.boot_any (aa (dZ ["way"] [3,1,0] (cV K (pv 2)) (λ_=>(aN (i:=0) (show(["way","table","q","p"]:List Str).Nodup from by decide +kernel) rfl (Or.inl rfl) (Or.inr rfl))) (λ_=>(fA (aR bT (ai (ay K) (pv 0) af (λ_ _=>rfl)) (pv 3) (aM _)))) (λ_=>(ai (aE K) (ai (aE K) (pv 1) (ai (ay K) (pv 0) af (λ_ _=>rfl)) (λ_ _=>rfl)) (pv 2) (λ_ _=>rfl)))) ae)),?_⟩;have hb:∀H',Ext (aU (cellsOf [⟨DY "ups",c,o,V.ref lu⟩,⟨DY "table",d,o',V.ref tq⟩]) H) H'->Ext H (bB (cellsOf [⟨DY "ups",c,o,V.ref lu⟩,⟨DY "table",d,o',V.ref tq⟩]) H'):=λH' e=>vw hlk e;generalize aU (cellsOf [⟨DY "ups",c,o,V.ref lu⟩,⟨DY "table",d,o',V.ref tq⟩]) H=HU at hI1' hI2' hI3' hb ⊢;show jE _ _ [some (.int (p:Nat)),some (.int (q:Nat)),some (.ref lu),some (.ref tq)] _ _;walk_at"";refine cQ (ag.of hI2') ?_;refine iM (xs:=List.map V.ref cu) (λi ys H'=>H'=HU/\ys=(((us.take i).filter λu=>decide (u.room=(p:Int))).map λu=>M u.other.toNat q).map V.bl) (bD (by rw[Dn];omega)) ⟨rfl,rfl⟩ (λi ys H' _ h=>⟨by rw[h.1];exact ag.of hI2',by rw[h.2,Dn,Dn];exact DS (List.length_filter_le _ _) (by rw[Eh];omega)⟩) ?_ ?_
   ·rintro i v ys H4 hx ⟨rfl,rfl⟩;rw[Dr]at hx;obtain⟨b,hb',rfl⟩:=DA.mp hx;have hi:i<us.length:=by rw[←hcu];exact(Dx.mp hb').1
    have gu:us[i]?=some us[i]:=Dp hi;have hb0:=hI3'.2 i b _ hb' gu;generalize us[i]=uu at gu hb0;have oku:=ok.ok uu (hin uu (Dy gu)).1;have v0:=oku.r0;have v1:=oku.r1;have v2:=oku.o0;have v3:=oku.o1;have x2:uu.other.toNat<rs.length:=by omega
    have r2:rs[uu.other.toNat]?=some rs[uu.other.toNat]:=Dp x2;have w2:=hI1'.2 _ _ r2;generalize rs[uu.other.toNat]=a2 at r2 w2;have at2:bo (rs.map V.ref) uu.other=some (.ref a2):=eS v2 (by rw[Dr,r2];rfl);walk_at"";refine az (aj.of hb0) (v:=.int uu.room) rfl ?_;walk_at"";cases hc:decide (uu.room=(p:Int))with
    | true=>
     refine aI ?_;walk_at"";refine az (aj.of hb0) (v:=.int uu.other) rfl ?_;walk_at"";refine aD (ag.of hI1'.1) at2 ?_;walk_at"";refine aD (ag.of w2) (cY (by omega) (by omega)) ?_;rw[DB];refine⟨rfl,?_⟩;rw[List.take_add_one,gu,List.filter_append,DF,DF];congr 1;show[V.bl _]=List.map V.bl (List.map _ (List.filter _ [uu]));rw[List.filter_cons,Eo hc];rfl
    | false=>
     refine aF ⟨rfl,?_⟩;have hno:List.filter (λu:Way=>decide (u.room=(p:Int))) [uu]=[]:=by rw[List.filter_cons,En (by rw[hc];exact DE)];rfl
     rw[List.take_add_one,gu,List.filter_append];show _=List.map V.bl (List.map _ (_++List.filter _ [uu]));rw[hno,List.append_nil]
   ·rintro ys H4 p9 ⟨hH,rfl⟩ hp9;subst hH;rw[Dn,hcu,DQ];have e9:=bJ (o:=.lst (((us.filter λu=>decide (u.room=(p:Int))).map λu=>M u.other.toNat q).map V.bl)) hp9;walk_at"";refine⟨p9,_,rfl,ag.of aJ,?_⟩;exact λ_=>hQ _ (hb _ e9))
  refine⟨vh,m,ws,fl,_,jl us M,rfl,hv3,ok,hF,⟨⟨ex _ _ hf,ex _ _ hc',hcaps⟩,hrows3,hlu3,hau3⟩,λH H' e h=>⟨h.1.ext e,h.2.1.ext e,e _ _ h.2.2.1,h.2.2.2.ext e⟩,λl ps H4 e4 hl hl4 hps=>?_⟩;obtain⟨a1,a2,a3,a4⟩:=held hn3 e4;refine⟨a1,q l _ ((e02.et.trans e3).trans a2.et) (t3.ext a2) ⟨ps,jl us M,a4 _ _ hl4 (λf z=>by cases z),bM (λa x h=>a4 _ _ h (λf z=>by cases z)) hps,λi j hi hj=>?_⟩⟩;unfold jl aV;rw[List.any_map,DV];constructor
  ·rintro⟨x,hx,hm⟩;obtain⟨x1,x2⟩:=List.mem_filter.mp hx;have x2:=of_decide_eq_true x2;obtain⟨y1,y2⟩:=hin x x1;exact⟨x,y1,y2,by omega,(km _ _ (gH ok.ok y1).2 hj).mp hm⟩
  ·rintro⟨x,h1,h2,h3,h4⟩;have r0:=(ok.ok x h1).r0;refine⟨x,List.mem_filter.mpr ⟨by rw[hus];exact List.mem_filter.mpr ⟨h1,Em h2⟩,Em (by omega)⟩,?_⟩;exact(km _ _ (gH ok.ok h1).2 hj).mpr h4
def cz(us:List Way)(x:Bfs.Pl):List Bfs.Pl:=(us.filter λw=>cw w x.1 x.2).map λw=>(w.other,x.2+rz w.deed)
def qM(K:Dj):Sp:=λvs H Q _=>∃l bs us p x,vs=[.ref l,.ref p]/\H l=some (.lst (List.map V.ref bs))/\aL H bs us/\(∀w∈us,bI w.deed)/\us.length<=100/\aK H p x/\∀l' ps H',Ext H H'->H l'=none->H' l'=some (.lst (List.map V.ref ps))->Paired (aK H') ps (cz us x)->Q (.ref l') H'
abbrev lT:Stmt:=stq 49
def p7:FnScope ["ways","place"] ["ways","place"] (aC lT):=⟨rfl,rfl,rfl,by decide +kernel,rfl,by decide +kernel,by decide +kernel⟩
def x9{P:Program}{w:World}{K:Dj}{mg:Str->Option Value}{base:Heap}(D:Dfn K mg "led_to_from" lT ["ways","place"])(T:Blt mg)(C_is_open:Cal P w K mg base "is_open" 1 ["way","place"] (r9 K))(C_led_to:Cal P w K mg base "led_to" 2 ["way","place"] (qP K)):Cal P w K mg base "led_to_from" 3 ["ways","place"] (qM K):=by
 have nd:=(p7).nd;refine D.ok p7 (λvs H Q E h=>?_) (λX hX H vs Q E h=>?_)
 ·obtain⟨l,bs,us,p,x,rfl,_⟩:=h;rfl
 ·obtain⟨f,cdv,A,outer,s,H0,E0,rfl,hr⟩:=hX;obtain⟨l,bs,us,p,x,rfl,hl,hal,hdd,hul,hpx,q⟩:=h;have hbl:=hal.1;refine⟨_,(@ao _ _ _ (@aB _ _ _ _ (dZ ["way"] [1] (cV K (pv 0)) (λ_=>(aN (i:=0) (show(["way","place"]:List Str).Nodup from by decide +kernel) rfl (Or.inl rfl) (Or.inr rfl))) (λ_=>(fA (bH (av C_is_open hr (@aa _ _ _ _ _ (pv 0) (@aa _ _ _ _ _ (pv 1) ae rfl) rfl))))) (λ_=>(av C_led_to hr (@aa _ _ _ _ _ (pv 0) (@aa _ _ _ _ _ (pv 1) ae rfl) rfl)))))),?_⟩;walk_at"";refine cQ (ag.of hl) ?_;refine iM (xs:=List.map V.ref bs) (λi ys H'=>Ext H H'/\∃ps,ys=List.map V.ref ps/\Paired (aK H') ps (cz (us.take i) x)) (bD (by rw[Dn];omega)) ⟨Ext.rfl' _,[],rfl,.nil⟩ (λi ys H' _ h=>by obtain⟨e,ps,rfl,hps⟩:=h;refine⟨ag.of (e _ _ hl),?_⟩;rw[Dn,cP hps];unfold cz;rw[Dn];exact DS (List.length_filter_le _ _) (by rw[Eh];omega)) ?_ ?_
  ·rintro i v ys H1 hx ⟨e1,ps,rfl,hps⟩;rw[Dr]at hx;obtain⟨b,hb,rfl⟩:=DA.mp hx;have hi:i<us.length:=by rw[←hbl];exact(Dx.mp hb).1
   have gu:us[i]?=some us[i]:=Dp hi;have hb0:=e1 _ _ (hal.2 i b _ hb gu);generalize us[i]=u at gu hb0;have hpx1:aK H1 p x:=e1 _ _ hpx;walk_at"";refine⟨b,u,p,x,rfl,hb0,hpx1,?_⟩;have step:cz (us.take (i+1)) x=cz (us.take i) x++cz [u] x:=by unfold cz;rw[List.take_add_one,gu,List.filter_append,DF];rfl
   cases ho:cw u x.1 x.2 with
   | false=>
    refine rd_exb (aF ⟨e1,ps,rfl,?_⟩);rw[step];have:cz [u] x=[]:=by unfold cz;rw[List.filter_cons,En (by rw[ho];exact DE)];rfl
    rw[this,List.append_nil];exact hps
   | true=>
    refine rd_exb (aI ?_);walk_at"";refine⟨b,u,p,x,rfl,hb0,hdd u (Dy gu),hpx1,λt H2 e2 ht _=>?_⟩;refine⟨e1.trans e2,ps++[t],?_,?_⟩
    ·rw[DF];rfl
    ·rw[step];have:cz [u] x=[(u.other,x.2+rz u.deed)]:=by unfold cz;rw[List.filter_cons,Eo ho];rfl
     rw[this];exact ja (bM (λa x h=>e2 _ _ h) hps) ht
  ·rintro ys H1 p9 ⟨e1,ps,rfl,hps⟩ hp9;rw[Dn,hbl,DQ]at hps;have e2:=bJ (o:=.lst (List.map V.ref ps)) hp9;have h9:H p9=none:=by
    cases z:H p9 with
    | none=>rfl
    | some o=>rw[e1 _ _ z]at hp9;cases hp9
   exact q p9 ps _ (e1.trans e2) h9 aJ (bM (λa x h=>e2 _ _ h) hps)
structure WT(H:Hp)(c:Addr)(n:Nat)(ls:List Addr)(ws:List Way):Prop where
 at_:H c=some (.lst (List.map V.ref ls))
 len:ls.length=n
 it:∀(r:Nat) (l:Addr),ls[r]?=some l->∃bs,H l=some (.lst (List.map V.ref bs))/\aL H bs (ws.filter λw=>decide (w.room=(r:Int)))
def WT.ext{H H':Hp}{c:Addr}{n:Nat}{ls:List Addr}{ws:List Way}(e:Ext H H')(h:WT H c n ls ws):WT H' c n ls ws:=
 ⟨e _ _ h.at_,h.len,λr l hl=>by obtain⟨bs,h1,h2⟩:=h.it r l hl;exact⟨bs,e _ _ h1,h2.ext e⟩⟩
def WT.et{H H':Hp}{c:Addr}{n:Nat}{ls:List Addr}{ws:List Way}(e:Et H H')(h:WT H c n ls ws):WT H' c n ls ws:=
 ⟨e _ _ h.at_ (λps z=>by cases z),h.len,λr l hl=>by obtain⟨bs,h1,h2⟩:=h.it r l hl;exact⟨bs,e _ _ h1 (λps z=>by cases z),h2.et e⟩⟩
def CI{ws:List Way}{i:Nat}{w:Way}(h:ws[i]?=some w)(p:Way->Bool):(ws.take (i+1)).filter p=(ws.take i).filter p++if p w then[w]else[]:=by rw[List.take_add_one,h,List.filter_append];congr 1;show List.filter p [w]=_;rw[List.filter_cons];rfl
def u4(K:Dj):Sp:=λvs H Q _=>∃v m ws,vs=[v]/\bx H v m ws/\HOuse m ws/\∀c ls H',Ext H H'->WT H' c m.toNat ls ws->Q (.ref c) H'
abbrev kP:Stmt:=stq 60
def ve:FnScope ["house","ways","way"] ["house"] (aC kP):=⟨rfl,rfl,rfl,by decide +kernel,rfl,by decide +kernel,by decide +kernel⟩
def xm{P:Program}{w:World}{K:Dj}{mg:Str->Option Value}{base:Heap}(D:Dfn K mg "ways_by_room" kP ["house"])(T:Blt mg):Cal P w K mg base "ways_by_room" 1 ["house"] (u4 K):=by
 have nd:=(ve).nd;refine D.ok ve (λvs H Q E h=>?_) (λX hX H vs Q E h=>?_)
 ·obtain⟨v,m,ws,rfl,_⟩:=h;rfl
 ·obtain⟨f,cdv,A,outer,s,H0,E0,rfl,hr⟩:=hX;obtain⟨v,m,ws,rfl,hv,ok,q⟩:=h;obtain⟨hp0,hq0,rfl,hh,hw⟩:=id hv;obtain⟨bs,hq,hal⟩:=bL.al hw;have hbl:=hal.1;have few:=ok.few;have m1:=ok.m1;have m12:=ok.m12;refine⟨_,(@ah _ _ _ _ _ (iu (i:=1) ["room"] [] nd rfl (Or.inl rfl) (cx rfl T.range_ (@aa _ _ _ _ _ (@ai _ _ _ _ _ _ _ (ay K) (pv 0) af (λ_ _=>rfl)) ae rfl)) (λ_=>(aN (i:=0) (show(["room"]:List Str).Nodup from by decide +kernel) rfl (Or.inl rfl) (Or.inr rfl))) (λ_=>fF) (λ_=>(@bw _ _ _ _ ae)))
    (@ah _ _ _ _ _ (bG PassesOwn.never rfl (fQ K (@ai _ _ _ _ _ _ _ (ay K) (pv 0) af (λ_ _=>rfl))) (aN (i:=2) nd rfl (Or.inl rfl)) (@ao _ _ _ (aX (bR K Dw DJ DK b0 (@ai _ _ _ _ _ _ _ (aE K) (pv 1) (@ai _ _ _ _ _ _ _ (ay K) (pv 2) af (λ_ _=>rfl)) (λ_ _=>rfl)) (@aa _ _ _ _ _ (pv 2) ae rfl)))))
    (@ao _ _ _ (@aB _ _ _ _ (pv 1))))),?_⟩
  walk_at"";refine az (aj.of hh) (v:=.int m) rfl ?_;walk_at"";refine cq (by omega) ?_;refine fo (λi ys H'=>Ext H H'/\∃ls:List Addr,ys=List.map V.ref ls/\ls.length=i/\ls.Nodup/\∀l∈ls,H' l=some (.lst [])/\H l=none) (bD (by omega)) ⟨Ext.rfl' _,[],rfl,rfl,List.nodup_nil,λl h=>(nomatch h)⟩ (λi ys H' _ h=>by obtain⟨_,ls,rfl,h,_⟩:=h;rw[Dn,h];exact DI _) ?_ ?_
  ·rintro i ys H' hi ⟨e,ls,rfl,hl,hnd,hls⟩;walk_at"";refine aI ?_;walk_at"";refine aH λl H1 e1 hl1 hln=>?_;refine⟨e.trans e1,ls++[l],by rw[DF];rfl,by rw[DG,hl];rfl,?_,?_⟩
   ·rw[List.nodup_append];refine⟨hnd,by simp,λa ha b hb z=>?_⟩;have hbl:b=l:=by simpa using hb
    subst hbl;subst z;rw[(hls a ha).1]at hln;cases hln
   ·intro a ha;rcases DL.mp ha with z|z
    ·exact⟨e1 _ _ (hls a z).1,(hls a z).2⟩
    ·have hal:a=l:=by simpa using z
     subst hal;refine⟨hl1,?_⟩;cases y:H a with
     | none=>rfl
     | some o=>rw[e _ _ y]at hln;cases hln
  ·rintro ys H1 c ⟨e,ls,rfl,hl,hnd,hls⟩ hc;have eN:Ext H (upd H1 c (.lst (List.map V.ref ls))):=e.trans (bJ hc);have hcH:H c=none:=by
    cases y:H c with
    | none=>rfl
    | some o=>rw[e _ _ y]at hc;cases hc
   have ncl:c∉ls:=λz=>by rw[(hls c z).1]at hc;cases hc
   have hcl:∀l∈ls,H l=none:=λl h=>(hls l h).2;have hit:∀(r:Nat) (l:Addr),ls[r]?=some l->∃bs,(upd H1 c (.lst (List.map V.ref ls))) l=some (.lst (List.map V.ref bs))/\aL (upd H1 c (.lst (List.map V.ref ls))) bs ((ws.take 0).filter λw=>decide (w.room=(r:Int))):=λr l hr=>⟨[],(bJ hc) _ _ (hls l (Dy hr)).1,aL.nil _⟩;have hcc:(upd H1 c (.lst (List.map V.ref ls))) c=_:=aJ;generalize upd H1 c (.lst (List.map V.ref ls))=H2 at eN hit hcc ⊢;clear hls hc e H1;walk_at"";refine az (aj.of (eN _ _ hh)) (v:=.ref hq0) rfl ?_;walk_at"";refine fN (aj.of (eN _ _ hq)) ?_;refine iD (xs:=bs.map V.ref) (λi σ H'=>∃k1,σ=[some (.ref hp0),some (.ref c),k1]/\Ext H H'/\H' c=some (.lst (List.map V.ref ls))/\∀(r:Nat) (l:Addr),ls[r]?=some l->∃bs,H' l=some (.lst (List.map V.ref bs))/\aL H' bs ((ws.take i).filter λw=>decide (w.room=(r:Int)))) ⟨none,rfl,eN,hcc,hit⟩ (λi σ H' _ h=>by obtain⟨_,_,e,_⟩:=h;exact aj.of (e _ _ hq)) ?_ ?_
   ·rintro i u σ H3 hu ⟨k1,rfl,e3,hc3,hit3⟩;rw[Dr]at hu;obtain⟨b,hb,rfl⟩:=DA.mp hu;have hi:i<ws.length:=by rw[←hbl];exact(Dx.mp hb).1
    have hwi:ws[i]?=some ws[i]:=Dp hi;have hbw:=e3 _ _ (hal.2 i b _ hb hwi);generalize ws[i]=w0 at hwi hbw;have okw:=ok.ok w0 (Dy hwi);have r0:=okw.r0;have r1:=okw.r1;have hlr:w0.room.toNat<ls.length:=by rw[hl];omega
    have hlg:ls[w0.room.toNat]?=some ls[w0.room.toNat]:=Dp hlr;generalize ls[w0.room.toNat]=l at hlg;have hlm:=Dy hlg;obtain⟨cs,hl3,hcs⟩:=hit3 _ _ hlg;have hcsl:cs.length<=100:=by rw[hcs.1];exact DS (List.length_filter_le _ _) (by rw[Eh];omega)
    have ncl':c≠l:=λz=>ncl (z ▸ hlm);walk_at"";refine az (aj.of hbw) (v:=.int w0.room) rfl ?_;walk_at"";refine aD (ag.of hc3) (v:=.ref l) (eS r0 (by rw[Dr,hlg];rfl)) ?_;refine⟨dM (ag.of hl3),?_⟩;walk_at"";refine cc hl3 (by rw[Dn];exact Nat.lt_of_le_of_lt hcsl (by decide)) ?_;walk_at"";refine⟨_,rfl,cJ e3 (hcl l hlm),by rw[ax ncl'];exact hc3,λr l' hr=>?_⟩;rw[CI hwi];by_cases hll:l'=l
    ·subst hll;have hrr:r=w0.room.toNat:=(List.getElem?_inj (Dx.mp hr).1 hnd).mp (by rw[hr,hlg]);subst hrr;refine⟨cs++[b],?_,?_⟩
     ·rw[aJ,DF];rfl
     ·rw[Eo (Em (by omega))];have put:aL (upd H3 l' (.lst (List.map V.ref cs++[.ref b]))) cs ((ws.take i).filter λw=>decide (w.room=((w0.room.toNat:Nat):Int))):=hcs.put hl3;exact put.snoc (by rw[ax (eC hbw hl3 (λz=>by cases z))];exact hbw)
    ·obtain⟨ds,h1,h2⟩:=hit3 r l' hr;have hrr:¬(w0.room=(r:Int)):=λz=>hll (by
      have:w0.room.toNat=r:=by omega
      rw[this,hr]at hlg;exact DZ hlg)
     rw[En (by simpa using hrr),List.append_nil];exact⟨ds,by rw[ax hll];exact h1,h2.put hl3⟩
   ·rintro σ H3 ⟨k1,rfl,e3,hc3,hit3⟩;rw[Dn,hbl,DQ]at hit3;walk_at"";exact q c ls H3 e3 ⟨hc3,hl,hit3⟩
def LB(ws:List Way)(n:Nat)(top:Int)(x y:Bfs.Pl):Prop:=(∃w∈ws,cw w x.1 x.2=true/\y=(w.other,x.2+rz w.deed)/\y.2<=top)\/(top<=x.2/\∃i j:Nat,Kpt ws n i j/\x.1=(i:Int)/\y=((j:Int),top))
def gh{w:Way}{r n:Int}(h:cw w r n=true):w.room=r:=by unfold cw at h;rw[DX]at h;exact of_decide_eq_true h.1
def vj(K:Dj):Sp:=λvs H Q _=>∃c kl top p m ws ls x,vs=[.ref c,.ref kl,.int top,.ref p]/\WT H c m.toNat ls ws/\dy H kl m.toNat (Kpt ws m.toNat)/\HOuse m ws/\aK H p x/\0<=x.1/\x.1<m ∧
 ∀l ps ys H',Ext H H'->H l=none->H' l=some (.lst (List.map V.ref ps))->Paired (aK H') ps ys->(∀y,y∈ys↔LB ws m.toNat top x y)->ys.length<=300->Q (.ref l) H'
abbrev kL:Stmt:=stq 62
def vS:FnScope ["ways","keeps","top","here","low"] ["ways","keeps","top","here"] (aC kL):=⟨rfl,rfl,rfl,by decide +kernel,rfl,by decide +kernel,by decide +kernel⟩
def AW{P:Program}{w:World}{K:Dj}{mg:Str->Option Value}{base:Heap}(D:Dfn K mg "low_beside" kL ["ways","keeps","top","here"])(T:Blt mg)(C_led_to_from:Cal P w K mg base "led_to_from" 3 ["ways","place"] (qM K)):Cal P w K mg base "low_beside" 4 ["ways","keeps","top","here"] (vj K):=by
 have nd:=(vS).nd;refine D.ok vS (λvs H Q E h=>?_) (λX hX H vs Q E h=>?_)
 ·obtain⟨c,kl,top,p,m,ws,ls,x,rfl,_⟩:=h;rfl
 ·obtain⟨f,cdv,A,outer,s,H0,E0,rfl,hr⟩:=hX;obtain⟨c,kl,top,p,m,ws,ls,x,rfl,wt,prs,ok,hpx,x0,x1,q⟩:=h;have m1:=ok.m1;have m12:=ok.m12;have few:=ok.few;have hlr:x.1.toNat<ls.length:=by rw[wt.len];omega
  have hlg:ls[x.1.toNat]?=some ls[x.1.toNat]:=Dp hlr;generalize ls[x.1.toNat]=l0 at hlg;obtain⟨bs,hl0,hal⟩:=wt.it _ _ hlg;have hx1:((x.1.toNat:Nat):Int)=x.1:=by omega
  rw[hx1]at hal;have husl:(ws.filter λw=>decide (w.room=x.1)).length<=100:=DS (List.length_filter_le _ _) few;obtain⟨kps,g,hkl,hkp,hkg⟩:=prs;have hkpl:=cP hkp;have hkpn:=nQ (n:=m.toNat) (g:=g) m.toNat;have hkpm:m.toNat*m.toNat<=12*12:=Nat.mul_le_mul (by omega) (by omega);refine⟨_,(@ah _ _ _ _ _ (iu (i:=4) ["there"] [2] nd rfl (Or.inl rfl) (cV K (av C_led_to_from hr (@aa _ _ _ _ _ (@ai _ _ _ _ _ _ _ (aE K) (pv 0) (@ai _ _ _ _ _ _ _ (ay K) (pv 3) af (λ_ _=>rfl)) (λ_ _=>rfl)) (@aa _ _ _ _ _ (pv 3) ae rfl) rfl))) (λ_=>(aN (i:=0) (show(["there","top"]:List Str).Nodup from by decide +kernel) rfl (Or.inl rfl) (Or.inr rfl))) (λ_=>(fA (aR jq (@ai _ _ _ _ _ _ _ (ay K) (pv 0) af (λ_ _=>rfl)) (pv 1) (aM _)))) (λ_=>(pv 0)))
    (@ah _ _ _ _ _ (@bq _ _ _ _ _ _ _ _ (aR dC (@ai _ _ _ _ _ _ _ (ay K) (pv 3) af (λ_ _=>rfl)) (pv 2) (aM _)) (@ao _ _ _ (@aB _ _ _ _ (pv 4))) aT)
    (@ao _ _ _ (@aB _ _ _ _ (aq ke (pv 4) (dZ ["p","q"] [2,3] (cV K (pv 1)) (λ_=>(gF (n:=2) K rfl (bX (aN (i:=0) (show(["p","q","top","here"]:List Str).Nodup from by decide +kernel) rfl (Or.inl rfl) (Or.inr rfl)) (bX (aN (i:=1) (show(["p","q","top","here"]:List Str).Nodup from by decide +kernel) rfl (Or.inl rfl) (Or.inr rfl)) fS)))) (λ_=>(fA (aR bT (pv 0) (@ai _ _ _ _ _ _ _ (ay K) (pv 3) af (λ_ _=>rfl)) (aM _)))) (λ_=>(@bz _ _ _ _ _ (@aa _ _ _ _ _ (pv 1) (@aa _ _ _ _ _ (pv 2) ae rfl) rfl))))))))),?_⟩
  walk_at"";refine az (aj.of hpx) (v:=.int x.1) rfl ?_;walk_at"";refine aD (ag.of wt.at_) (v:=.ref l0) (eS x0 (by rw[Dr,hlg];rfl)) ?_;walk_at"";refine⟨l0,bs,_,p,x,rfl,hl0,hal,λw hw=>(ok.ok w (List.mem_filter.mp hw).1).dd,husl,hpx,λl1 ps1 H1 e1 hn1 hl1 hps1=>?_⟩;have hp1l:=cP hps1;have hledl:(cz (ws.filter λw=>decide (w.room=x.1)) x).length<=100:=by unfold cz;rw[Dn];exact DS (List.length_filter_le _ _) husl
  have hled:∀y,y∈cz (ws.filter λw=>decide (w.room=x.1)) x↔∃w∈ws,cw w x.1 x.2=true/\y=(w.other,x.2+rz w.deed):=λy=>by
   unfold cz;constructor
   ·intro h;obtain⟨w,hw,rfl⟩:=List.mem_map.mp h;obtain⟨h1,h2⟩:=List.mem_filter.mp hw;exact⟨w,(List.mem_filter.mp h1).1,h2,rfl⟩
   ·rintro⟨w,hw,ho,rfl⟩;exact List.mem_map.mpr ⟨w,List.mem_filter.mpr ⟨List.mem_filter.mpr ⟨hw,Em (gh ho)⟩,ho⟩,rfl⟩
  generalize cz (ws.filter λw=>decide (w.room=x.1)) x=zs at hps1 hp1l hledl hled;walk_at"";refine cQ (ag.of hl1) ?_;refine iM (xs:=List.map V.ref ps1) (λi ys H'=>H'=H1/\∃cs,ys=List.map V.ref cs/\Paired (aK H1) cs ((zs.take i).filter λy=>decide (y.2<=top))) (bD (by rw[Dn];omega)) ⟨rfl,[],rfl,.nil⟩ (λi ys H' _ h=>by obtain⟨rfl,cs,rfl,hcs⟩:=h;refine⟨ag.of hl1,?_⟩;rw[Dn,cP hcs];exact DS (List.length_filter_le _ _) (by rw[Eh];omega)) ?_ ?_
  ·rintro i v ys H2 hx ⟨rfl,cs,rfl,hcs⟩;rw[Dr]at hx;obtain⟨b,hb,rfl⟩:=DA.mp hx;obtain⟨y,hy,hby⟩:=fZ hps1 hb;walk_at"";refine az (aj.of hby) (v:=.int y.2) rfl ?_;walk_at"";have step:(zs.take (i+1)).filter (λy=>decide (y.2<=top))=(zs.take i).filter (λy=>decide (y.2<=top))++if decide (y.2<=top)then[y]else[]:=by rw[List.take_add_one,hy,List.filter_append];congr 1;show List.filter _ [y]=_;rw[List.filter_cons];rfl
   cases hc:decide (y.2<=top)with
   | true=>
    refine aI ?_;walk_at"";refine⟨rfl,cs++[b],?_,?_⟩
    ·rw[DF];rfl
    ·rw[step,hc];exact ja hcs hby
   | false=>
    refine aF ⟨rfl,cs,rfl,?_⟩;rw[step,hc];simpa using hcs
  ·rintro ys H2 p9 ⟨hH,cs,rfl,hcs⟩ hp9;subst hH;rw[Dn,hp1l,DQ]at hcs;have e2:=bJ (o:=.lst (List.map V.ref cs)) hp9;have h9:(upd H2 p9 (.lst (List.map V.ref cs))) p9=_:=aJ;have hcs2:=bM (λa x h=>e2 _ _ h) hcs;have hfn:H p9=none:=by
    cases z:H p9 with
    | none=>rfl
    | some o=>rw[e1 _ _ z]at hp9;cases hp9
   have e02:=e1.trans e2;generalize upd H2 p9 (.lst (List.map V.ref cs))=H3 at e2 h9 hcs2 e02 ⊢;have hcl:=cP hcs;have hfl:=List.length_filter_le (λy:Bfs.Pl=>decide (y.2<=top)) zs;have first:∀y,y∈zs.filter (λy=>decide (y.2<=top))↔∃w∈ws,cw w x.1 x.2=true/\y=(w.other,x.2+rz w.deed)/\y.2<=top:=λy=>by
    rw[List.mem_filter,hled];constructor
    ·rintro⟨⟨w,h1,h2,h3⟩,h4⟩;exact⟨w,h1,h2,h3,of_decide_eq_true h4⟩
    ·rintro⟨w,h1,h2,h3,h4⟩;exact⟨⟨w,h1,h2,h3⟩,Em h4⟩
   walk_at"";refine az (aj.of (e02 _ _ hpx)) (v:=.int x.2) rfl ?_;walk_at"";cases hc:decide (x.2<top)with
   | true=>
    have hc':=of_decide_eq_true hc;refine aI ?_;walk_at"";refine q p9 cs _ H3 e02 hfn h9 hcs2 (λy=>?_) (by omega);rw[first];constructor
    ·exact λh=>.inl h
    ·rintro(h|⟨h,_⟩)
     ·exact h
     ·omega
   | false=>
    have hc':=of_decide_eq_false hc;refine aF ?_;walk_at"";have hkl3:=e02 _ _ hkl;have hkp3:=bM (λa x h=>e02 _ _ h) hkp;refine cQ (ag.of hkl3) ?_;refine iM (xs:=List.map V.ref kps) (λi ys H'=>Ext H3 H'/\∃ds,ys=List.map V.ref ds/\Paired (aK H') ds ((((cC m.toNat g m.toNat).take i).filter λz=>decide (z.1=x.1)).map λz=>(z.2,top))) (bD (by rw[Dn];omega)) ⟨Ext.rfl' _,[],rfl,.nil⟩ (λi ys H' _ h=>by obtain⟨e,ds,rfl,hds⟩:=h;refine⟨ag.of (e _ _ hkl3),?_⟩;rw[Dn,cP hds,Dn];exact DS (List.length_filter_le _ _) (by rw[Eh];omega)) ?_ ?_
    ·rintro i v ys H4 hx ⟨e4,ds,rfl,hds⟩;rw[Dr]at hx;obtain⟨b,hb,rfl⟩:=DA.mp hx;obtain⟨z,hz,hbz⟩:=fZ hkp3 hb;have hbz4:aK H4 b z:=e4 _ _ hbz;refine il (aj.of hbz4) rfl ?_;walk_at"";refine az (aj.of ((e02.trans e4) _ _ hpx)) (v:=.int x.1) rfl ?_;walk_at"";have step:(((cC m.toNat g m.toNat).take (i+1)).filter (λz=>decide (z.1=x.1))).map (λz=>(z.2,top))=(((cC m.toNat g m.toNat).take i).filter (λz=>decide (z.1=x.1))).map (λz=>(z.2,top))++if decide (z.1=x.1)then[(z.2,top)]else[]:=by rw[List.take_add_one,hz,List.filter_append,DF];congr 1;show List.map _ (List.filter _ [z])=_;rw[List.filter_cons];split<;>rfl
     cases hc2:decide (z.1=x.1)with
     | true=>
      refine aI ?_;walk_at"";refine aH λt H5 e5 ht _=>?_;refine⟨e4.trans e5,ds++[t],?_,?_⟩
      ·rw[DF];rfl
      ·rw[step,hc2];exact ja (bM (λa x h=>e5 _ _ h) hds) ht
     | false=>
      refine aF ⟨e4,ds,rfl,?_⟩;rw[step,hc2];simpa using hds
    ·rintro ys H4 p8 ⟨e4,ds,rfl,hds⟩ hp8;rw[Dn,hkpl,DQ]at hds;have e5:=bJ (o:=.lst (List.map V.ref ds)) hp8;have h8:(upd H4 p8 (.lst (List.map V.ref ds))) p8=_:=aJ;have hds5:=bM (λa x h=>e5 _ _ h) hds;have e35:=e4.trans e5;generalize upd H4 p8 (.lst (List.map V.ref ds))=H5 at e5 h8 hds5 e35 ⊢;have hdl:=cP hds;rw[Dn]at hdl;have hfl2:=List.length_filter_le (λz:Bfs.Pl=>decide (z.1=x.1)) (cC m.toNat g m.toNat);walk_at"";refine kA (e35 _ _ h9) h8 (bD (by rw[Dn,Dn];omega)) (bP λl' H6 e6 hl' hn'=>?_);rw[←DF]at hl';have e06:=(e02.trans e35).trans e6;have hn0:H l'=none:=by
      cases z:H l' with
      | none=>rfl
      | some o=>rw[(e02.trans e35) _ _ z]at hn';cases hn'
     refine q l' (cs++ds) _ H6 e06 hn0 hl' (pE (bM (λa x h=>(e35.trans e6) _ _ h) hcs2) (bM (λa x h=>e6 _ _ h) hds5)) (λy=>?_) (by rw[DG,Dn];omega);rw[DL,first];constructor
     ·rintro(h|h)
      ·exact .inl h
      ·obtain⟨z,hz,rfl⟩:=List.mem_map.mp h;obtain⟨z1,z2⟩:=List.mem_filter.mp hz;obtain⟨i,j,hi,hj,hg,rfl⟩:=ij.mp z1;exact .inr ⟨by omega,i,j,(hkg i j hi hj).mp hg,(of_decide_eq_true z2).symm,rfl⟩
     ·rintro(h|⟨_,i,j,hk,hxi,rfl⟩)
      ·exact .inl h
      ·right;have hlt:=Kpt.lt ok.ok hk;exact List.mem_map.mpr ⟨((i:Int),(j:Int)),List.mem_filter.mpr ⟨ij.mpr ⟨i,j,hlt.1,hlt.2,(hkg i j hlt.1 hlt.2).mpr hk,rfl⟩,Em hxi.symm⟩,rfl⟩
structure RR(H0 H:Hp)(f rw:Addr)(qs:List Bfs.Pl):Prop where
 ext:Ext H0 H
 fn:H0 f=none
 rn:H0 rw=none
 d:∃kvs,H f=some (.dT kvs)/\Paired (λ(kv:List Key×V) z=>kv.1=bK z) kvs qs
 r:∃as,H rw=some (.lst (List.map V.ref as))/\Paired (aK H) as qs
def RR.step{H0 H H1:Hp}{f rw:Addr}{qs:List Bfs.Pl}(h:RR H0 H f rw qs)(e:Ext H H1):RR H0 H1 f rw qs:=by obtain⟨h1,h2,h3,⟨kvs,h4,h5⟩,as,h6,h7⟩:=h;exact⟨h1.trans e,h2,h3,⟨kvs,e _ _ h4,h5⟩,as,e _ _ h6,bM (λa x h=>e _ _ h) h7⟩
def tO{kvs:List (List Key×V)}{qs:List Bfs.Pl}(h:Paired (λ(kv:List Key×V) z=>kv.1=bK z) kvs qs){x:Bfs.Pl}(hx:x∉qs):bF kvs (bK x)=none:=
 yX (key:=λz=>z) (λ_ _ z=>z) h (by simpa using hx)
def Ck{kvs:List (List Key×V)}{qs:List Bfs.Pl}(h:Paired (λ(kv:List Key×V) z=>kv.1=bK z) kvs qs)(nd:qs.Nodup){x:Bfs.Pl}(hx:x∈qs):∃v,bF kvs (bK x)=some v:=by obtain⟨v,hv,_⟩:=yz (key:=λz=>z) (λ_ _ z=>z) h (by simpa using nd) hx;exact⟨v,hv⟩
def RR.push{H0 H:Hp}{f rw th:Addr}{qs:List Bfs.Pl}{y:Bfs.Pl}{v:V}(h:RR H0 H f rw qs)(hy:y∉qs)(hth:aK H th y):
  ∃kvs,H f=some (.dT kvs)/\kvs.length=qs.length/\∃as,upd H f (.dT (putK kvs (bK y) v)) rw=some (.lst (List.map V.ref as))/\as.length=qs.length ∧
   RR H0 (upd (upd H f (.dT (putK kvs (bK y) v))) rw (.lst (List.map V.ref as++[.ref th]))) f rw (qs++[y]):=by
 obtain⟨h1,h2,h3,⟨kvs,h4,h5⟩,as,h6,h7⟩:=h;have nf:∀xs,(HO.dT kvs)≠.tup xs:=λxs z=>by cases z
 have nr:∀xs,(HO.lst (List.map V.ref as))≠.tup xs:=λxs z=>by cases z
 have ne:rw≠f:=eC h6 h4 (by intro z;cases z);have h6':upd H f (.dT (putK kvs (bK y) v)) rw=some (.lst (List.map V.ref as)):=by rw[ax ne];exact h6
 refine⟨kvs,h4,Paired.length h5,as,h6',Paired.length h7,cJ (cJ h1 h2) h3,h2,h3,⟨kvs++[(bK y,v)],?_,?_⟩,as++[th],?_,?_⟩
 ·rw[ax ne.symm,aJ,BH _ (tO h5 hy)]
 ·exact Paired.snoc h5 rfl
 ·rw[aJ,DF];rfl
 ·exact ja (bM (λa x z=>aK.put h6' nr (aK.put h4 nf z)) h7) (aK.put h6' nr (aK.put h4 nf hth))
structure RQ(S:Bfs.Pl->Bfs.Pl->Prop)(m T:Int)(x:Bfs.Pl)(qs:List Bfs.Pl)(i:Nat):Prop where
 nd:qs.Nodup
 has:x∈qs
 wk:∀z∈qs,∃n,Bfs.Rw S n x z
 ins:∀z∈qs,ck m T z
 cl:∀j,j<i->∀y,qs[j]?=some y->∀z,S y z->z∈qs
def RQ.done{S:Bfs.Pl->Bfs.Pl->Prop}{m T:Int}{x:Bfs.Pl}{qs:List Bfs.Pl}{i:Nat}(h:RQ S m T x qs i)(hi:qs.length<=i):∀z,z∈qs↔∃n,Bfs.Rw S n x z:=λz=>by
 refine⟨h.wk z,λ⟨n,hn⟩=>?_⟩;have go:∀(n:Nat) (a b:Bfs.Pl),Bfs.Rw S n a b->a∈qs->b∈qs:=by
  intro n a b hr;induction hr with
  | nil=>exact λh=>h
  | snoc _ hs ih=>
   intro ha;obtain⟨j,hj⟩:=Ef (ih ha);have:=(Dx.mp hj).1;exact h.cl j (by omega) _ hj _ hs
 exact go n x z hn h.has
def wJ(m T:Int)(S:Bfs.Pl->Bfs.Pl->Prop):List V->Hp->VK->Prop:=λvs H Q=>∃p y,vs=[.ref p]/\aK H p y/\ck m T y/\∀l ps ys H',Ext H H'->H l=none->H' l=some (.lst (List.map V.ref ps))->Paired (aK H') ps ys->(∀z,z∈ys↔S y z)->ys.length<=300->Q (.ref l) H'
def qj(P:Program)(w:World)(K:Dj)(mg:Str->Option Value)(base:Heap):Sp:=λvs H Q _=>∃pa f pre x m T S,vs=[.ref pa,.ref f]/\aK H pa x/\ck m T x/\m<=12/\T<=2000/\FunR P w K mg base 5 f pre (wJ m T S)/\pre H/\(∀H H',Ext H H'->pre H->pre H')/\(∀y z,ck m T y->S y z->ck m T z) ∧
 ∀l as qs H',Ext H H'->H' l=some (.lst (List.map V.ref as))->Paired (aK H') as qs->(∀z∈qs,ck m T z)->qs.length<=24012->(∀z,z∈qs↔∃n,Bfs.Rw S n x z)->Q (.ref l) H'
abbrev lF:Stmt:=stq 61
def qA:FnScope ["place","beside","found","row","looked","here","there"] ["place","beside"] (aC lF):=⟨rfl,rfl,rfl,by decide +kernel,rfl,by decide +kernel,by decide +kernel⟩
def yt{P:Program}{w:World}{K:Dj}{mg:Str->Option Value}{base:Heap}(D:Dfn K mg "reached" lF ["place","beside"])(T:Blt mg):Cal P w K mg base "reached" 6 ["place","beside"] (qj P w K mg base):=by
 have nd:=(qA).nd;refine D.ok qA (λvs H Q E h=>?_) (λX hX H vs Q E h=>?_)
 ·obtain⟨pa,f,pre,x,m,T,S,rfl,_⟩:=h;rfl
 ·obtain⟨f,cdv,A,outer,s,H0,E0,rfl,hr⟩:=hX;obtain⟨pa,ff,pre,x,m,TT,S,rfl,hx,ix,hm12,hT,hF,hpre,hmono,hSin,q⟩:=h;refine⟨_,(@ah _ _ _ _ _ (@aA _ _ 2 _ _ _ _ nd rfl (Or.inl rfl) (B9 (n8 hr) (pv 0) bA) rfl (Or.inl rfl))
    (@ah _ _ _ _ _ (@aA _ _ 3 _ _ _ _ nd rfl (Or.inl rfl) (@bw _ _ _ _ (@aa _ _ _ _ _ (pv 0) ae rfl)) rfl (Or.inl rfl))
    (@ah _ _ _ _ _ (@aA _ _ 4 _ _ _ _ nd rfl (Or.inl rfl) af rfl (Or.inl rfl))
    (@ah _ _ _ _ _ (g7 PassesOwn.never (aR dC (pv 4) (br (cZ K) rfl T.len_ PySem.boot_len (@aa _ _ _ _ _ (pv 3) ae rfl)) (aM _)) (@ah _ _ _ _ _ (@aA _ _ 5 _ _ _ _ nd rfl (Or.inl rfl) (@ai _ _ _ _ _ _ _ (aE K) (pv 3) (pv 4) (λ_ _=>rfl)) rfl (Or.inl rfl))
    (@ah _ _ _ _ _ (kO (i:=4) nd rfl (Or.inl rfl) af uE)
    (@ao _ _ _ (bG PassesOwn.never rfl (cV K (vF (P:=P) (w:=w) (K:=K) (mg:=mg) (base:=base) hr (pv 1) (@aa _ _ _ _ _ (pv 5) ae rfl))) (aN (i:=6) nd rfl (Or.inl rfl)) (@ao _ _ _ (cN (Au (xZ (n8 hr) (pv 6) (pv 2)) (by with_unfolding_all rfl)) (@ah _ _ _ _ _ (CO (n8 hr) (pv 2) (pv 6) bA rfl)
    (@ao _ _ _ (aX (bR K Dw DJ DK b0 (pv 3) (@aa _ _ _ _ _ (pv 6) ae rfl))))) aT)))))))
    (@ao _ _ _ (@aB _ _ _ _ (pv 3))))))),?_⟩
  walk_at"";refine λf hfn=>?_;walk_at"";refine⟨pa,bK x,rfl,(bJ hfn) _ _ hx,aJ,?_⟩;walk_at"";refine aH λrw H3 e3 hrw hrn=>?_;walk_at"";have e13:Ext H (upd (upd H f (.dT [])) f (.dT [(bK x,.bl true)])):=λb o hb=>by rw[ax (bO hb hfn),ax (bO hb hfn)];exact hb
  have hrn1:H rw=none:=by
   cases z:H rw with
   | none=>rfl
   | some o=>rw[e13 _ _ z]at hrn;cases hrn
  have hf3:H3 f=some (.dT [(bK x,.bl true)]):=e3 _ _ aJ;have rr0:RR H H3 f rw [x]:=⟨e13.trans e3,hfn,hrn1,⟨_,hf3,.cons rfl .nil⟩,[pa],hrw,.cons (e3 _ _ (e13 _ _ hx)) .nil⟩;have rq0:RQ S m TT x [x] 0:=⟨by simp,by simp,λz hz=>by rw[Dz.mp hz];exact⟨0,.nil⟩,λz hz=>by rw[Dz.mp hz];exact ix,λj hj=>absurd hj (Nat.not_lt_zero _)⟩;clear hf3 hrn1 e13 hrw hrn e3;refine gG (λM σ H'=>∃qs i k1 k2,RR H H' f rw qs/\RQ S m TT x qs i/\i<=qs.length/\M=24013-i/\σ=[some (.ref pa),some (.ref ff),some (.ref f),some (.ref rw),some (.int (i:Nat)),k1,k2]) (λσ H'=>∃qs i k0 k1 k2,RR H H' f rw qs/\RQ S m TT x qs i/\qs.length<=i/\qs.length<=24012/\σ=[some (.ref pa),some (.ref ff),some (.ref f),some (.ref rw),k0,k1,k2]) 24013 ⟨[x],0,_,_,rr0,rq0,by simp,by simp,rfl⟩ ?_ ?_
  ·rintro M σ H4 ⟨qs,i,k1,k2,rr,rq,hi,rfl,rfl⟩;have hqn:qs.length<=24012:=ck.few hm12 hT rq.nd rq.ins;obtain⟨as,hr4,pr⟩:=rr.r;have hal:=cP pr;walk_at"";refine fB (ag.of hr4) ?_;walk_at"";by_cases hlt:i<qs.length
   rotate_left
   ·rw[El (show ¬((i:Nat):Int)<((List.map V.ref as).length:Nat) by rw[Dn,hal];omega)];refine aF ?_;exact⟨qs,i,_,_,_,rr,rq,by omega,hqn,rfl⟩
   ·rw[Em (show((i:Nat):Int)<((List.map V.ref as).length:Nat) by rw[Dn,hal];omega)];refine aI ?_;refine⟨λσ' H'=>∃qs' k1 k2,RR H H' f rw qs'/\RQ S m TT x qs' (i+1)/\i+1<=qs'.length/\qs'.length<=24012/\σ'=[some (.ref pa),some (.ref ff),some (.ref f),some (.ref rw),some (.int ((i+1:Nat):Int)),k1,k2],λσ' H' ⟨qs',k1,k2,a1,a2,a3,a4,a5⟩=>⟨24013-(i+1),by omega,qs',i+1,k1,k2,a1,a2,a3,rfl,a5⟩,?_⟩;have hqi:qs[i]?=some qs[i]:=Dp hlt;generalize qs[i]=y at hqi;obtain⟨b,hb,hby⟩:=AI pr hqi;have iy:=rq.ins y (Dy hqi);walk_at"";refine aD (ag.of hr4) (dQ (v:=.ref b) (by rw[Dr,hb];rfl)) ?_;walk_at"";refine wc ?_;walk_at"";have hpre4:=hmono _ _ rr.ext hpre;refine⟨ff,pre,_,rfl,hF,hpre4,?_⟩;walk_at"";refine⟨hpre4,b,y,rfl,hby,iy,λl ps ys H5 e5 hln hl5 hps hys hyl=>?_⟩;have hpl:=cP hps;have rr5:=rr.step e5;obtain⟨kvs5,hd5,_⟩:=rr5.d;obtain⟨as5,hr5,_⟩:=rr5.r;have nlf:l≠f:=λz=>by obtain⟨kvs,hd,_⟩:=rr.d;rw[z,hd]at hln;cases hln
    have nlr:l≠rw:=λz=>by rw[z,hr4]at hln;cases hln
    refine cQ (ag.of hl5) ?_;refine forL (xs:=List.map V.ref ps) (λj σ H'=>∃qs' k2,RR H H' f rw qs'/\qs'.Nodup/\(∃new,qs'=qs++new)/\(∀z∈qs',(∃n,Bfs.Rw S n x z)/\ck m TT z)/\(∀a,a<j->∀z,ys[a]?=some z->z∈qs')/\(∀c o,c≠f->c≠rw->H5 c=some o->H' c=some o)/\σ=[some (.ref pa),some (.ref ff),some (.ref f),some (.ref rw),some (.int ((i+1:Nat):Int)),some (.ref b),k2]) ⟨qs,_,rr5,rq.nd,⟨[],by simp⟩,λz hz=>⟨rq.wk z hz,rq.ins z hz⟩,λa ha=>absurd ha (Nat.not_lt_zero _),λc o _ _ h=>h,rfl⟩ (λj σ H' _ h=>by obtain⟨_,_,_,_,_,_,_,kp,_⟩:=h;exact ag.of (kp _ _ nlf nlr hl5)) ?_ ?_
    ·rintro j v σ H6 hv ⟨qs6,k2,rr6,nd6,⟨new,hnew⟩,in6,cl6,kp6,rfl⟩;rw[Dr]at hv;obtain⟨th,hth,rfl⟩:=DA.mp hv;obtain⟨z,hz,hthz5⟩:=fZ hps hth;have nth:∀{c:Addr} {o:HO},H5 c=some o->(∀xs,o≠.tup xs)->th≠c:=λ{c o} hc hn=>eC hthz5 hc (λe=>hn _ e.symm);have hthz:aK H6 th z:=kp6 _ _ (nth hd5 (λxs e=>by cases e)) (nth hr5 (λxs e=>by cases e)) hthz5;have hSz:S y z:=(hys z).mp (Dy hz);have hq6:qs6.length<=24012:=ck.few hm12 hT nd6 λz hz=>(in6 z hz).2;obtain⟨kvs,hd,pk⟩:=rr6.d;walk_at"";refine hV ?_;walk_at"";refine⟨f,_,rfl,gJ.t hd (k:=bK z) hthz,?_⟩;by_cases hin:z∈qs6
     ·obtain⟨v1,hv1⟩:=Ck pk nd6 hin;rw[hv1];refine rd_exb (aF ?_);walk_at"";refine⟨qs6,_,rr6,nd6,⟨new,hnew⟩,in6,λa ha z' hz'=>?_,kp6,rfl⟩;by_cases haj:a<j
      ·exact cl6 a haj z' hz'
      ·have:a=j:=by omega
       subst this;rw[hz]at hz';cases hz';exact hin
     ·rw[tO pk hin];refine rd_exb (aI ?_);obtain⟨kvs,hd',hkl,as7,hr7,hal7,rr8⟩:=rr6.push (v:=.bl true) hin hthz;walk_at"";refine⟨f,_,rfl,g9.t hd' (k:=bK z) hthz (mX (by omega)),?_⟩;walk_at"";refine⟨dM (ag.of hr7),?_⟩;walk_at"";refine cc hr7 (mX (by rw[Dn];omega)) ?_;walk_at"";obtain⟨n0,hn0⟩:=rq.wk y (Dy hqi);refine⟨qs6++[z],_,rr8,?_,⟨new++[z],by rw[hnew,List.append_assoc]⟩,λz' hz'=>?_,λa ha z' hz'=>?_,λc o nf nr hc=>?_,rfl⟩
      ·rw[List.nodup_append];refine⟨nd6,by simp,λa ha c hc e=>?_⟩;rw[Dz.mp hc]at e;exact hin (e ▸ ha)
      ·rcases DL.mp hz' with h|h
       ·exact in6 z' h
       ·rw[Dz.mp h];exact⟨⟨n0+1,.snoc hn0 hSz⟩,hSin y z iy hSz⟩
      ·by_cases haj:a<j
       ·exact Eb _ (cl6 a haj z' hz')
       ·have:a=j:=by omega
        subst this;rw[hz]at hz';cases hz';exact Ea _ (by simp)
      ·rw[ax nr,ax nf];exact kp6 c o nf nr hc
    ·rintro σ H6 ⟨qs6,k2,rr6,nd6,⟨new,hnew⟩,in6,cl6,kp6,rfl⟩;rw[Dn,hpl]at cl6;have hq6:qs6.length<=24012:=ck.few hm12 hT nd6 λz hz=>(in6 z hz).2;have hle:qs.length<=qs6.length:=by rw[hnew,DG];omega
     refine⟨qs6,_,_,rr6,⟨nd6,by rw[hnew];exact Eb _ rq.has,λz hz=>(in6 z hz).1,λz hz=>(in6 z hz).2,λj hj y' hy' z hz=>?_⟩,by omega,hq6,rfl⟩;have hjq:j<qs.length:=by omega
     have hy2:qs[j]?=some y':=by rw[hnew,DN hjq]at hy';exact hy'
     by_cases hji:j<i
     ·rw[hnew];exact Eb _ (rq.cl j hji y' hy2 z hz)
     ·have:j=i:=by omega
      subst this;rw[hqi]at hy2;cases hy2;obtain⟨a,ha⟩:=Ef ((hys z).mpr hz);exact cl6 a (Dx.mp ha).1 z ha
  ·rintro σ H4 ⟨qs,i,k0,k1,k2,rr,rq,hi,hqn,rfl⟩;obtain⟨as,hr4,pr⟩:=rr.r;walk_at"";exact q rw as qs H4 rr.ext hr4 pr rq.ins hqn (rq.done hi)
def Eu(H H':Hp):Prop:=∀b o,H b=some o->(∀f,o≠.ext f)->H' b=some o
def aL.eu{H H':Hp}{bs:List Addr}{ws:List Way}(e:Eu H H')(h:aL H bs ws):aL H' bs ws:=⟨h.1,λj b w e1 e2=>e _ _ (h.2 j b w e1 e2) (λf z=>by cases z)⟩
def aK.eu{H H':Hp}(e:Eu H H'){p:Addr}{x:Bfs.Pl}(h:aK H p x):aK H' p x:=e _ _ h (λf z=>by cases z)
structure TL(H H':Hp)(q:Addr)(rs:List Addr)(n:Nat)(M:Nat->Nat->Bool):Prop where
 keep:∀b o,b∉rs->H b=some o->H' b=some o
 nd:rs.Nodup
 nq:q∉rs
 rows:Rows H' q rs n M
def TL.mark{H H1:Hp}{q r:Addr}{rs:List Addr}{n i j:Nat}{M:Nat->Nat->Bool}(h:TL H H1 q rs n M)(hi:rs[i]?=some r)(hj:j<n):TL H (upd H1 r (.lst ((aG n (M i)).set j (.bl true)))) q rs n (put2 M i j):=by
 have hm:=Dy hi;have nqr:q≠r:=λz=>h.nq (z ▸ hm);refine⟨λb o nb e=>?_,h.nd,h.nq,?_,λa r' ha=>?_⟩
 ·have nbr:b≠r:=λz=>nb (by rw[z];exact hm);rw[ax nbr];exact h.keep b o nb e
 ·rw[ax nqr];exact h.rows.1
 ·by_cases hai:a=i
  ·subst hai;rw[hi]at ha;cases ha;rw[aJ,iP _ _ hj];congr 2;refine b6 λy _=>?_;unfold put2;by_cases hy:y=j
   ·rw[Eo hy,Eo ⟨rfl,hy⟩]
   ·rw[En hy,En λz=>hy z.2]
  ·have nr:r'≠r:=λz=>hai ((List.getElem?_inj (Dx.mp ha).1 h.nd).mp (by rw[ha,hi,z]));rw[ax nr,h.rows.2 a r' ha];congr 2;exact b6 λy _=>by unfold put2;rw[En λz=>hai z.1]
def BU{m:Int}{ws:List Way}(ok:HOuse m ws){top:Int}{x y:Bfs.Pl}(h0:0<=top)(hx:ck m top x)(h:LB ws m.toNat top x y):ck m top y:=by
 have m1:=ok.m1;rcases h with⟨w,hw,ho,rfl,hle⟩|⟨_,i,j,hk,_,rfl⟩
 ·have okw:=ok.ok w hw;refine⟨okw.o0,okw.o1,?_,hle⟩;have hs:=(B8 okw.dd x).mp ho;exact ye okw.dd hx.2.2.1 hs.2
 ·have:=Kpt.lt ok.ok hk;exact⟨by show(0:Int)<=(j:Int);omega,by show(j:Int)<m;omega,h0,Int.le_refl _⟩
def WT.eu{H H':Hp}{c:Addr}{n:Nat}{ls:List Addr}{ws:List Way}(e:Eu H H')(h:WT H c n ls ws):WT H' c n ls ws:=
 ⟨e _ _ h.at_ (λf z=>by cases z),h.len,λr l hl=>by obtain⟨bs,h1,h2⟩:=h.it r l hl;exact⟨bs,e _ _ h1 (λf z=>by cases z),h2.eu e⟩⟩
def dy.eu{H H':Hp}(e:Eu H H'){l:Addr}{n:Nat}{R:Nat->Nat->Prop}(h:dy H l n R):dy H' l n R:=by obtain⟨ps,g,h1,h2,h3⟩:=h;exact⟨ps,g,e _ _ h1 (λf z=>by cases z),bM (λa x h=>h.eu e) h2,h3⟩
def gw{K:Dj}{x q:Str}{line col:Nat}{H H':Hp}{rs:List Addr}(e:∀b o,b∉rs->H b=some o->H' b=some o)(hr:∀r∈rs,∃xs,H r=some (.lst xs))(h:bS K x q line col H):bS K x q line col H':=λc T ht=>by
 have no:∀b o,H b=some o->(∀xs,o≠.lst xs)->H' b=some o:=λb o hb nl=>e b o (λz=>by obtain⟨xs,hx⟩:=hr b z;rw[hx]at hb;cases hb;exact nl _ rfl) hb;rcases h c T ht with h|⟨c',h1,h2⟩
 ·exact .inl (no _ _ h (λxs z=>by cases z))
 ·exact .inr ⟨c',no _ _ h1 (λxs z=>by cases z),no _ _ h2 (λxs z=>by cases z)⟩
def Tbs.kp{K:Dj}{H H':Hp}{rs:List Addr}(e:∀b o,b∉rs->H b=some o->H' b=some o)(hr:∀r∈rs,∃xs,H r=some (.lst xs))(h:Tbs K H):Tbs K H':=⟨gw e hr h.either,gw e hr h.kept,gw e hr h.less,gw e hr h.low,gw e hr h.parting,gw e hr h.risen⟩
def og(K:Dj):Sp:=λvs H Q _=>∃vh m ws pa x,vs=[vh,.ref pa]/\bx H vh m ws/\HOuse m ws/\aK H pa x/\f7 m x/\cR K/\Tbs K H/\∀q rs M H',Et H H'->Tbs K H'->Rows H' q rs m.toNat M->(rs.length:Int)=x.2+1->(∀i r:Nat,(i:Int)<=x.2->(r:Int)<m->(M i r=true↔∃n,Bfs.Rw (LB ws m.toNat x.2) n x ((r:Int),(i:Int))))->Q (.ref q) H'
abbrev lA:Stmt:=stq 63
def rW:FnScope ["house","place","ways","keeps","levels","room","number"] ["house","place"] (aC lA):=⟨rfl,rfl,rfl,by decide +kernel,rfl,by decide +kernel,by decide +kernel⟩
def BJ{P:Program}{w:World}{K:Dj}{mg:Str->Option Value}{base:Heap}(D:Dfn K mg "low_levels" lA ["house","place"])(T:Blt mg){c9 T9:Addr}(B:Tab K mg base "low_levels" c9 T9)(C_reached:Cal P w K mg base "reached" 6 ["place","beside"] (qj P w K mg base))(C_kept:Cal P w K mg base "kept" 7 ["house"] (kS K))(C_ways_by_room:Cal P w K mg base "ways_by_room" 1 ["house"] (u4 K))(C_low_beside:Cal P w K mg base "low_beside" 4 ["ways","keeps","top","here"] (vj K)):Cal P w K mg base "low_levels" 8 ["house","place"] (og K):=by
 have nd:=(rW).nd;refine D.okL B rW (λvs H Q E h=>?_) (λX hX H vs Q E h=>?_)
 ·obtain⟨vh,m,ws,pa,x,rfl,_⟩:=h;rfl
 ·obtain⟨f,A,outer,s,H0,E0,rfl,hr⟩:=hX;obtain⟨vh,m,ws,pa,x,rfl,hv,ok,hpx,ix,dis,htb,q⟩:=h;have m1:=ok.m1;have m12:=ok.m12;obtain⟨i0,i1,i2,i3⟩:=id ix;refine⟨_,(ah (aA (i:=2) nd rfl (Or.inr rfl) (av C_ways_by_room hr (aa (pv 0) ae)))
    (ah (aA (i:=3) nd rfl (Or.inr rfl) (av C_kept hr (aa (pv 0) ae)))
    (ah (iu (i:=4) ["number"] [0] nd rfl (Or.inl rfl) (cx rfl T.range_ (aa (aq aS (ai (ay K) (pv 1) af (λ_ _=>rfl)) af) ae)) (λ_=>(aN (i:=0) (show(["number","house"]:List Str).Nodup from by decide +kernel) rfl (Or.inl rfl) (Or.inr rfl))) (λ_=>fF) (λ_=>(aq i7 (bw (aa bA ae)) (ai (ay K) (pv 1) af (λ_ _=>rfl)))))
    (ah (bG PassesOwn.never rfl (cV K (nR [2,3,1] C_reached hr (aa (pv 1) (aa (oi rfl rfl B.hd B.blt B.gl (by decide +kernel) rfl rfl rfl) ae)))) (gF (n:=2) K rfl (bX (aN (i:=5) nd rfl (Or.inl rfl)) (bX (aN (i:=6) nd rfl (Or.inl rfl)) fS))) (ao (eQ bA (fV (ai (aE K) (pv 4) (pv 6) (λ_ _=>rfl)) (pv 5) set_list))))
    (ao (aB (pv 4))))))),?_⟩
  walk_at"";refine⟨vh,m,ws,rfl,hv,ok,λc ls H1 e1 wt=>?_⟩;walk_at"";refine⟨vh,m,ws,rfl,hv.ext e1,ok,dis,htb.ext e1,λkl H2 e2 tb2 prs=>?_⟩;have e02:=e1.et.trans e2;have wt2:=wt.et e2;have hv2:=hv.et e02;have hpx2:=hpx.et e02;obtain⟨hp0,hq0,hvr,hh2,_⟩:=id hv2;subst hvr;walk_at"";refine az (aj.of hpx2) (v:=.int x.2) rfl ?_;walk_at"";refine cq (by omega) ?_;refine fo (λi ys H'=>Ext H2 H'/\∃rs:List Addr,ys=List.map V.ref rs/\rs.length=i/\rs.Nodup/\∀r∈rs,H' r=some (.lst (aG m.toNat λ_=>false))/\H2 r=none) (bD (by omega)) ⟨Ext.rfl' _,[],rfl,rfl,List.nodup_nil,λl h=>(nomatch h)⟩ (λi ys H' _ h=>by obtain⟨_,ls,rfl,h,_⟩:=h;rw[Dn,h];exact DI _) ?_ ?_
  ·rintro i ys H3 hi ⟨e3,rs,rfl,hl,hnd,hrs⟩;walk_at"";refine aI ?_;walk_at"";refine aH λz1 H4 e4 hz1 _=>?_;walk_at"";refine az (aj.of ((e3.trans e4) _ _ hh2)) (v:=.int m) rfl ?_;refine i4 hz1 (by omega) (bD (by simp;omega)) (bP λz2 H5 e5 hz2 hn5=>?_);rw[jh]at hz2;refine⟨(e3.trans e4).trans e5,rs++[z2],by rw[DF];rfl,by rw[DG,hl];rfl,?_,λr hr=>?_⟩
   ·rw[List.nodup_append];refine⟨hnd,by simp,λa ha b hb z=>?_⟩;rw[Dz.mp hb]at z;subst z;rw[e4 _ _ (hrs a ha).1]at hn5;cases hn5
   ·rcases DL.mp hr with h|h
    ·exact⟨(e4.trans e5) _ _ (hrs r h).1,(hrs r h).2⟩
    ·rw[Dz.mp h];refine⟨hz2,?_⟩;cases y:H2 z2 with
     | none=>rfl
     | some o=>rw[(e3.trans e4) _ _ y]at hn5;cases hn5
  ·rintro ys H3 lq ⟨e3,rs,rfl,hrl,hnd,hrs⟩ hlq;have e34:=bJ (o:=.lst (List.map V.ref rs)) hlq;have hlq4:(upd H3 lq (.lst (List.map V.ref rs))) lq=_:=aJ;have nql:lq∉rs:=λz=>by rw[(hrs lq z).1]at hlq;cases hlq
   have rows4:Rows (upd H3 lq (.lst (List.map V.ref rs))) lq rs m.toNat (λ_ _=>false):=⟨aJ,λi r h=>e34 _ _ (hrs r (Dy h)).1⟩;have e24:=e3.trans e34;generalize upd H3 lq (.lst (List.map V.ref rs))=H4 at e34 hlq4 rows4 e24 ⊢;have e04:=e02.trans e24.et;have tb4:=tb2.ext e24;have wt4:=wt2.ext e24;have prs4:=prs.et e24.et;have hpx4:aK H4 pa x:=e24 _ _ hpx2;walk_at"";show iw _ [2,3,1] _ (["house","place","ways","keeps","levels","room","number"]:List Str) _ _ _ _;generalize PySem.Env.cells _=cells0;refine lW ?_;walk_at"";refine kF ?_;refine lI (x:="low_levels") tb4.low B.tin λfl c' cl H5 hcl e5 ht5 ot hf hc'=>?_;have t5:Tbs K H5:=⟨ot "either" _ _ _ (λc2 T2 e2=>dis "low_levels" (by simp) "either" (by simp) (by decide +kernel) _ _ _ _ B.tin e2) tb4.either,ot "kept" _ _ _ (λc2 T2 e2=>dis "low_levels" (by simp) "kept" (by simp) (by decide +kernel) _ _ _ _ B.tin e2) tb4.kept,ot "less" _ _ _ (λc2 T2 e2=>dis "low_levels" (by simp) "less" (by simp) (by decide +kernel) _ _ _ _ B.tin e2) tb4.less,ht5,ot "parting" _ _ _ (λc2 T2 e2=>dis "low_levels" (by simp) "parting" (by simp) (by decide +kernel) _ _ _ _ B.tin e2) tb4.parting,ot "risen" _ _ _ (λc2 T2 e2=>dis "low_levels" (by simp) "risen" (by simp) (by decide +kernel) _ _ _ _ B.tin e2) tb4.risen⟩;walk_at"";refine⟨λj hj=>?_,λcp hlen hcp=>?_⟩
   ·simp only[DD,DT,or_false]at hj;rcases hj with rfl|rfl|rfl
    ·exact⟨_,rfl⟩
    ·exact⟨_,rfl⟩
    ·exact⟨_,rfl⟩
   obtain⟨⟨n1,d1,o1,v1⟩,⟨n2,d2,o2,v2⟩,⟨n3,d3,o3,v3⟩,rfl⟩:=y6 hlen;obtain⟨hN1,hcc1,hσ1,hno1,u1,hdat1,hrel1⟩:=hcp 0 2 _ rfl rfl;obtain⟨hN2,hcc2,hσ2,hno2,u2,hdat2,hrel2⟩:=hcp 1 3 _ rfl rfl;obtain⟨hN3,hcc3,hσ3,hno3,u3,hdat3,hrel3⟩:=hcp 2 1 _ rfl rfl;clear hcp hlen;dsimp only at hN1 hcc1 hσ1 hno1 hdat1 hrel1 hN2 hcc2 hσ2 hno2 hdat2 hrel2 hN3 hcc3 hσ3 hno3 hdat3 hrel3;have hN1':(DY "ways")=n1:=DZ hN1;have hσ1':(V.ref c)=v1:=DZ (DZ hσ1);have hN2':(DY "keeps")=n2:=DZ hN2;have hσ2':(V.ref kl)=v2:=DZ (DZ hσ2);have hN3':(DY "place")=n3:=DZ hN3;have hσ3':(V.ref pa)=v3:=DZ (DZ hσ3);clear hN1 hσ1 hN2 hσ2 hN3 hσ3;subst hN1';subst hσ1';subst hN2';subst hσ2';subst hN3';subst hσ3';obtain⟨a1,ha1⟩:=hcl.has (DY "ways") rfl;obtain⟨a2,ha2⟩:=hcl.has (DY "keeps") rfl;obtain⟨a3,ha3⟩:=hcl.has (DY "place") rfl;have hb1:=(hcl.fr _ _ ha1).2;have hb2:=(hcl.fr _ _ ha2).2;have hb3:=(hcl.fr _ _ ha3).2;rw[hcc1]at hb1;rw[hcc2]at hb2;rw[hcc3]at hb3;cases hb1;cases hb2;cases hb3;have n12:d1≠d2:=λz=>absurd (hcl.inj _ _ _ ha1 (z ▸ ha2)) (by decide +kernel);have n13:d1≠d3:=λz=>absurd (hcl.inj _ _ _ ha1 (z ▸ ha3)) (by decide +kernel);have n23:d2≠d3:=λz=>absurd (hcl.inj _ _ _ ha2 (z ▸ ha3)) (by decide +kernel);obtain⟨cp,hcp⟩:∃cp:List Cap,cp=[⟨DY "ways",d1,o1,V.ref c⟩,⟨DY "keeps",d2,o2,V.ref kl⟩,⟨DY "place",d3,o3,V.ref pa⟩]:=⟨_,rfl⟩;have hn5:∀b o9,(cellsOf cp).lookup b=some o9->H5 b=none:=λb o9 hb=>by
    obtain⟨e,he,rfl,rfl⟩:=fC hb;rw[hcp]at he;simp only[DD,DT,or_false]at he;rcases he with rfl|rfl|rfl
    ·exact hno1
    ·exact hno2
    ·exact hno3
   have ex:=jW hn5;have hcaps:Caps (bB (cellsOf cp) H5) cl cp:=by
    refine⟨λe he=>?_,λy g hy=>?_⟩
    ·rw[hcp]at he ⊢;simp only[DD,DT,or_false]at he;rcases he with rfl|rfl|rfl
     ·exact⟨ha1,dz (by simp[cellsOf]),u1,hdat1,hrel1⟩
     ·refine⟨ha2,dz ?_,u2,hdat2,hrel2⟩;show List.lookup d2 ((d1,o1)::(d2,o2)::[(d3,o3)])=some o2;rw[Eg,show (d2 == d1)=false from beq_eq_false_iff_ne.mpr (Ne.symm n12),Eg,beq_self_eq_true]
     ·refine⟨ha3,dz ?_,u3,hdat3,hrel3⟩;show List.lookup d3 ((d1,o1)::(d2,o2)::[(d3,o3)])=some o3;rw[Eg,show (d3 == d1)=false from beq_eq_false_iff_ne.mpr (Ne.symm n13),Eg,show (d3 == d2)=false from beq_eq_false_iff_ne.mpr (Ne.symm n23),Eg,beq_self_eq_true]
    ·have hm:=gL (hcl.fr y g hy).1;rw[hcp];simp at hm;rcases hm with rfl|rfl|rfl
     all_goals first|(rw[ha1]at hy;cases hy;exact⟨⟨DY "ways",d1,o1,V.ref c⟩,by simp,rfl,rfl⟩)|(rw[ha2]at hy;cases hy;exact⟨⟨DY "keeps",d2,o2,V.ref kl⟩,by simp,rfl,rfl⟩)|(rw[ha3]at hy;cases hy;exact⟨⟨DY "place",d3,o3,V.ref pa⟩,by simp,rfl,rfl⟩)
   have wt5:=(wt4.et e5).ext ex;have prs5:=(prs4.et e5).et ex.et;have hpx5:aK (bB (cellsOf cp) H5) pa x:=ex _ _ (hpx4.et e5);subst hcp;have hF:=
    mF (P:=P) (w:=w) (K:=K) (mg:=mg) (base:=base) (k:=4) hf hcl (["here"]:List Str) [⟨DY "ways",d1,o1,V.ref c⟩,⟨DY "keeps",d2,o2,V.ref kl⟩,⟨DY "place",d3,o3,V.ref pa⟩] (wJ m x.2 (LB ws m.toNat x.2)) (λH=>WT H c m.toNat ls ws/\dy H kl m.toNat (Kpt ws m.toNat)/\aK H pa x) ⟨rfl,rfl,rfl,by decide +kernel,by decide +kernel⟩ (λ_ _ _ us hl=>by obtain⟨u1,rfl⟩:=oZ hl;rfl) (λvs H Q h=>by obtain⟨p,y,rfl,_⟩:=h;rfl) (λA outer s H vs Q hrL hpre hI hR=>by
     obtain⟨p,y,rfl,hpy,iy,hQ⟩:=hR;have hlk:=hpre.2.2.look;obtain⟨hI1,hI2,hI3⟩:=hI;have eu:Eu H (aU (cellsOf [⟨DY "ways",d1,o1,V.ref c⟩,⟨DY "keeps",d2,o2,V.ref kl⟩,⟨DY "place",d3,o3,V.ref pa⟩]) H):=λb o hb nf=>fm hlk hb nf;have k1:=hI1.eu eu;have k2:=hI2.eu eu;have k3:=hI3.eu eu;have kp:=hpy.eu eu;refine⟨_,(av C_low_beside hrL (aa (pv 1) (aa (pv 2) (aa (ai (ay K) (pv 3) af (λ_ _=>rfl)) (aa (pv 0) ae))))),?_⟩;have hb:∀H',Ext (aU (cellsOf [⟨DY "ways",d1,o1,V.ref c⟩,⟨DY "keeps",d2,o2,V.ref kl⟩,⟨DY "place",d3,o3,V.ref pa⟩]) H) H'->Ext H (bB (cellsOf [⟨DY "ways",d1,o1,V.ref c⟩,⟨DY "keeps",d2,o2,V.ref kl⟩,⟨DY "place",d3,o3,V.ref pa⟩]) H'):=λH' e=>vw hlk e;have hu:∀l,(cellsOf [⟨DY "ways",d1,o1,V.ref c⟩,⟨DY "keeps",d2,o2,V.ref kl⟩,⟨DY "place",d3,o3,V.ref pa⟩]).lookup l=none->aU (cellsOf [⟨DY "ways",d1,o1,V.ref c⟩,⟨DY "keeps",d2,o2,V.ref kl⟩,⟨DY "place",d3,o3,V.ref pa⟩]) H l=H l:=λl hl=>bY hl;generalize aU (cellsOf [⟨DY "ways",d1,o1,V.ref c⟩,⟨DY "keeps",d2,o2,V.ref kl⟩,⟨DY "place",d3,o3,V.ref pa⟩]) H=HU at k1 k2 k3 kp hb hu ⊢;generalize cellsOf [⟨DY "ways",d1,o1,V.ref c⟩,⟨DY "keeps",d2,o2,V.ref kl⟩,⟨DY "place",d3,o3,V.ref pa⟩]=cs at hb hu ⊢;show jB _ _ _ _ [some (.ref p),some (.ref c),some (.ref kl),some (.ref pa)] _ _;walk_at"";refine az (aj.of k3) (v:=.int x.2) rfl ?_;walk_at"";refine⟨c,kl,x.2,p,m,ws,ls,y,rfl,k1,k2,ok,kp,iy.1,iy.2.1,λl ps ys H' e hn hl hps hys hyl=>?_⟩;intro hnc;have nl:cs.lookup l=none:=by
      cases z:cs.lookup l with
      | none=>rfl
      | some o=>rw[hnc l o z]at hl;cases hl
     have et:=jW hnc;exact hQ l ps ys _ (hb H' e) (by rw[←hu l nl];exact hn) (et _ _ hl) (bM (λa x h=>et _ _ h) hps) hys hyl)
   refine⟨pa,fl,_,x,m,x.2,LB ws m.toNat x.2,rfl,hpx5,⟨i0,i1,i2,Int.le_refl _⟩,m12,by omega,hF,⟨⟨ex _ _ hf,ex _ _ hc',hcaps⟩,wt5,prs5,hpx5⟩,λH H' e h=>⟨h.1.ext e,h.2.1.ext e,h.2.2.1.et e.et,e _ _ h.2.2.2⟩,λy z hy hS=>BU ok i2 hy hS,λl as qs H6 e6 hl6 hps hin hqn hqs=>?_⟩;clear hF;obtain⟨b1,b2,b3,b4⟩:=held hn5 e6;refine⟨b1,?_⟩;have hl7:=b4 _ _ hl6 (λf z=>by cases z);have hps7:Paired (aK (aU _ H6)) as qs:=bM (λa x h=>b4 _ _ h (λf z=>by cases z)) hps;have rows7:=(rows4.et e5).ext b2;have e07:=(e04.trans e5).trans b2.et;have t7:=t5.ext b2;generalize aU _ H6=H7 at hl7 hps7 rows7 e07 t7 ⊢;have hal:=cP hps7;have fr0:∀r∈rs,∀o,H r=some o->(∀ps,o≠.tbl ps)->False:=λr hr o ho no=>by have:=e02 _ _ ho no;rw[(hrs r hr).2]at this;cases this
   clear hcaps hn5 ex wt5 prs5 hpx5 e6 hl6 hps b1 b2 b3 b4 hf hc' hcl ha1 ha2 ha3 hcc1 hcc2 hcc3 hno1 hno2 hno3 hrel1 hrel2 hrel3 hdat1 hdat2 hdat3 n12 n13 n23 ot;have tup1:∀(b:Addr) (z:Bfs.Pl),aK H7 b z->b∉rs:=λb z hb hr=>by obtain⟨j,hj⟩:=Ef hr;have h1:=rows7.2 j b hj;have h2:H7 b=some (.tup [.int z.1,.int z.2]):=hb;rw[h1]at h2;cases h2
   have nl:l∉rs:=λhr=>by
    obtain⟨j,hj⟩:=Ef hr;have h1:=rows7.2 j l hj;rw[hl7]at h1;have h2:List.map V.ref as=aG m.toNat λ_=>false:=by
     injection h1 with h1
     injection h1
    have h3:=congrArg (λz:List V=>z[0]?) h2
    try dsimp only at h3
    rw[cL _ (by omega),Dr]at h3;cases y:as[0]? with
    | none=>rw[y]at h3;cases h3
    | some a=>rw[y]at h3;cases h3
   refine cQ (ag.of hl7) ?_;refine forL (xs:=List.map V.ref as) (λj σ H'=>∃M k1 k2,TL H7 H' lq rs m.toNat M/\(∀i r:Nat,M i r=true↔(((r:Nat):Int),((i:Nat):Int))∈qs.take j)/\σ=[some (.ref hp0),some (.ref pa),some (.ref c),some (.ref kl),some (.ref lq),k1,k2]) ⟨_,_,_,⟨λ_ _ _ e=>e,hnd,nql,rows7⟩,λi r=>by simp,rfl⟩ (λj σ H' _ h=>by obtain⟨M,k1,k2,tl,_⟩:=h;exact ag.of (tl.keep _ _ nl hl7)) ?_ ?_
   ·rintro j v σ H8 hx ⟨M,k1,k2,tl,hM,rfl⟩;rw[Dr]at hx;obtain⟨b,hb,rfl⟩:=DA.mp hx;obtain⟨z,hz,hbz⟩:=fZ hps7 hb;obtain⟨z0,z1,z2,z3⟩:=hin z (Dy hz);have hbz8:aK H8 b z:=tl.keep _ _ (tup1 b z hbz) hbz;have hrx:z.2.toNat<rs.length:=by omega
    have hrg:rs[z.2.toNat]?=some rs[z.2.toNat]:=Dp hrx;generalize rs[z.2.toNat]=ar at hrg;have hrow:=tl.rows.2 _ _ hrg;refine il (aj.of hbz8) rfl ?_;walk_at"";refine aD (ag.of tl.rows.1) (v:=.ref ar) (eS z2 (by rw[Dr,hrg];rfl)) ?_;walk_at"";refine fJ hrow (fI z0 (by rw[bp];omega)) ?_;refine⟨_,_,_,tl.mark hrg (by omega),λi r=>?_,rfl⟩;rw[List.take_add_one,hz,DL];unfold put2;split
    ·rename_i y;simp only[true_iff];right;simp;refine Prod.ext ?_ ?_
     ·show((r:Nat):Int)=z.1;omega
     ·show((i:Nat):Int)=z.2;omega
    ·rename_i y;rw[hM];constructor
     ·exact λh=>.inl h
     ·rintro(h|h)
      ·exact h
      ·have h':(((r:Nat):Int),((i:Nat):Int))=z:=by simpa using h
       refine absurd ⟨?_,?_⟩ y
       ·rw[←h'];show i=((i:Nat):Int).toNat;omega
       ·rw[←h'];show r=((r:Nat):Int).toNat;omega
   ·rintro σ H8 ⟨M,k1,k2,tl,hM,rfl⟩;rw[Dn,hal,DQ]at hM;walk_at"";refine q lq rs M H8 (λb o hb no=>?_) (t7.kp tl.keep λr hr=>?_) tl.rows (by omega) λi r hi hr=>?_
    ·have h7:=e07 _ _ hb no;exact tl.keep b o (λhr=>fr0 b hr o hb no) h7
    ·obtain⟨j,hj⟩:=Ef hr;exact⟨_,rows7.2 j r hj⟩
    ·rw[hM];exact hqs _
def qZ(K:Dj):Sp:=λvs H Q _=>∃rl lv n f R,vs=[.ref rl,.ref lv]/\dy H rl n R/\H lv=some (.lst (aG n f))/\n<=12/\∀l g H',Ext H H'->H l=none->H' l=some (.lst (aG n g))->(∀j,j<n->(g j=true↔∃i,i<n/\f i=true/\R i j))->Q (.ref l) H'
abbrev m6:Stmt:=stq 64
def rd:FnScope ["rises","level","risen_to","p","q"] ["rises","level"] (aC m6):=⟨rfl,rfl,rfl,by decide +kernel,rfl,by decide +kernel,by decide +kernel⟩
def xI{P:Program}{w:World}{K:Dj}{mg:Str->Option Value}{base:Heap}(D:Dfn K mg "next_level" m6 ["rises","level"])(T:Blt mg):Cal P w K mg base "next_level" 1 ["rises","level"] (qZ K):=by
 have nd:=(rd).nd;refine D.ok rd (λvs H Q E h=>?_) (λX hX H vs Q E h=>?_)
 ·obtain⟨rl,lv,n,f,R,rfl,_⟩:=h;rfl
 ·obtain⟨f,cdv,A,outer,s,H0,E0,rfl,hr⟩:=hX;obtain⟨rl,lv,n,f',R,rfl,prs,hlv,hn,q⟩:=h;obtain⟨ps,g,hrl,hps,hg⟩:=prs;have hpl:=cP hps;refine⟨_,(@ah _ _ _ _ _ (@aA _ _ 2 _ _ _ _ nd rfl (Or.inl rfl) (aq i7 (@bw _ _ _ _ (@aa _ _ _ _ _ bA ae rfl)) (br (cZ K) rfl T.len_ PySem.boot_len (@aa _ _ _ _ _ (pv 1) ae rfl))) rfl (Or.inl rfl))
    (@ah _ _ _ _ _ (bG PassesOwn.never rfl (cV K (pv 0)) (gF (n:=2) K rfl (bX (aN (i:=3) nd rfl (Or.inl rfl)) (bX (aN (i:=4) nd rfl (Or.inl rfl)) fS))) (@ao _ _ _ (cN (bH (@ai _ _ _ _ _ _ _ (aE K) (pv 1) (pv 3) (λ_ _=>rfl))) (@ao _ _ _ (@eQ _ _ _ _ _ _ bA (fV (pv 2) (pv 4) set_list) rfl rfl rfl)) aT)))
    (@ao _ _ _ (@aB _ _ _ _ (pv 2))))),?_⟩
  walk_at"";refine aH λz1 H1 e1 hz1 _=>?_;walk_at"";refine fB (ag.of (e1 _ _ hlv)) ?_;rw[bp];refine i4 hz1 (by omega) (bD (by simp;omega)) (bP λrt H2 e2 hrt hrn=>?_);rw[jh,DB]at hrt;have e02:=e1.trans e2;have hrt0:H rt=none:=by
   cases y:H rt with
   | none=>rfl
   | some o=>rw[e1 _ _ y]at hrn;cases hrn
  walk_at"";refine cQ (ag.of (e02 _ _ hrl)) ?_;refine forL (xs:=List.map V.ref ps) (λj σ H'=>∃h k1 k2,Ext H H'/\H' rt=some (.lst (aG n h))/\(∀b,h b=true↔∃z∈(cC n g n).take j,f' z.1.toNat=true/\z.2.toNat=b)/\σ=[some (.ref rl),some (.ref lv),some (.ref rt),k1,k2]) ⟨_,_,_,e02,hrt,λb=>by simp,rfl⟩ (λj σ H' _ h=>by obtain⟨_,_,_,e,_⟩:=h;exact ag.of (e _ _ hrl)) ?_ ?_
  ·rintro j v σ H3 hx ⟨h,k1,k2,e3,hr3,hh,rfl⟩;rw[Dr]at hx;obtain⟨b,hb,rfl⟩:=DA.mp hx;obtain⟨z,hz,hbz⟩:=fZ hps hb;obtain⟨i,r,hi,hr,hgz,rfl⟩:=ij.mp (Dy hz);have hbz3:aK H3 b (((i:Nat):Int),((r:Nat):Int)):=e3 _ _ hbz;refine il (aj.of hbz3) rfl ?_;walk_at"";refine hV ?_;walk_at"";refine aD (ag.of (e3 _ _ hlv)) (cY (by omega) (by omega)) ?_;rw[DB];walk_at"";have step:∀P:Bfs.Pl->Prop,(∃z∈(cC n g n).take (j+1),P z)↔(∃z∈(cC n g n).take j,P z)\/P (((i:Nat):Int),((r:Nat):Int)):=λP=>by
    rw[List.take_add_one,hz];constructor
    ·rintro⟨z,hm,hp⟩;rcases DL.mp hm with hm|hm
     ·exact .inl ⟨z,hm,hp⟩
     ·have:z=(((i:Nat):Int),((r:Nat):Int)):=by simpa using hm
      subst this;exact .inr hp
    ·rintro(⟨z,hm,hp⟩|hp)
     ·exact⟨z,Eb _ hm,hp⟩
     ·exact⟨_,Ea _ (by simp),hp⟩
   cases hf:f' i with
   | false=>
    refine aF ?_;walk_at"";refine⟨h,_,_,e3,hr3,λb=>?_,rfl⟩;rw[hh,step];constructor
    ·exact λy=>.inl y
    ·rintro(y|⟨y,_⟩)
     ·exact y
     ·have y':f' ((i:Nat):Int).toNat=true:=y;rw[DB,hf]at y';cases y'
   | true=>
    refine aI ?_;walk_at"";refine fJ hr3 (fI (by omega) (by rw[bp];omega)) ?_;rw[DB,iP _ _ hr];refine⟨_,_,_,cJ e3 hrt0,aJ,λb=>?_,rfl⟩;rw[step];by_cases hbr:b=r
    ·rw[Eo hbr];simp only[true_iff];refine .inr ⟨?_,?_⟩
     ·show f' ((i:Nat):Int).toNat=true;rw[DB];exact hf
     ·show((r:Nat):Int).toNat=b;rw[DB];exact hbr.symm
    ·rw[En hbr,hh];constructor
     ·exact λy=>.inl y
     ·rintro(y|⟨_,y⟩)
      ·exact y
      ·have y':((r:Nat):Int).toNat=b:=y;rw[DB]at y';exact absurd y'.symm hbr
  ·rintro σ H3 ⟨h,k1,k2,e3,hr3,hh,rfl⟩;rw[Dn,hpl,DQ]at hh;walk_at"";refine q rt h H3 e3 hrt0 hr3 λb hb=>?_;rw[hh];constructor
   ·rintro⟨z,hz,hf,rfl⟩;obtain⟨i,r,hi,hr,hgz,rfl⟩:=ij.mp hz;have hf':f' ((i:Nat):Int).toNat=true:=hf;rw[DB]at hf';refine⟨i,hi,hf',?_⟩;show R i ((r:Nat):Int).toNat;rw[DB];exact(hg i r hi hr).mp hgz
   ·rintro⟨i,hi,hf,hR⟩;refine⟨(((i:Nat):Int),((b:Nat):Int)),ij.mpr ⟨i,b,hi,hb,(hg i b hi hb).mpr hR,rfl⟩,?_,?_⟩
    ·show f' ((i:Nat):Int).toNat=true;rw[DB];exact hf
    ·show((b:Nat):Int).toNat=b;exact DB b
def wL{f:Nat->Bool}{lo i:Nat}{ys:List V}(h:ys=(row f lo i).map V.int)(hf:f (lo+i)=true):ys++[V.int ((lo+i:Nat):Int)]=(row f lo (i+1)).map V.int:=by rw[jv,Eo hf,DF,h];rfl
def pA{f:Nat->Bool}{lo i:Nat}{ys:List V}(h:ys=(row f lo i).map V.int)(hf:f (lo+i)=false):ys=(row f lo (i+1)).map V.int:=by rw[jv,En (by rw[hf];decide),List.append_nil,h]
def bt(H:Hp)(v:V)(b s:Int)(o a:List Int):Prop:=∃p q r,v=.ref p/\H p=some (.tup [.int b,.int s,.ref q,.ref r])/\H q=some (.tup (o.map V.int))/\H r=some (.tup (a.map V.int))
def bt.ext{H H':Hp}{v:V}{b s:Int}{o a:List Int}(e:Ext H H')(h:bt H v b s o a):bt H' v b s o a:=by obtain⟨p,q,r,rfl,h1,h2,h3⟩:=h;exact⟨p,q,r,rfl,e _ _ h1,e _ _ h2,e _ _ h3⟩
def oC{n:Nat}{f:Nat->Bool}{i:Int}(h0:0<=i)(h:i<=n):dg (aG n f) (some i) none=aG (n-i.toNat) λk=>f (i.toNat+k):=by
 unfold dg;rw[bp,HT.p6];have e:HT.bQ n 0 (some i)=i.toNat:=by show(if i<0 then(i+(n:Int)).toNat else min i.toNat n)=i.toNat;rw[En (by omega)];omega
 rw[e];apply List.ext_getElem?;intro k;rcases Ee k (n-i.toNat)with hk|hk
 ·rw[List.getElem?_take_of_lt hk,List.getElem?_drop,cL _ (by omega),cL _ hk]
 ·rw[List.getElem?_eq_none (by rw[Eh,List.length_drop,bp];omega),List.getElem?_eq_none (by rw[bp];omega)]
def dB(n:Nat)(f:Nat->Bool):List PyData:=(Ek n).map λi=>PyData.bool (f i)
def nU{α:Type}{R:V->PyData->Prop}{g:α->V}{k:α->PyData}(h:∀x,R (g x) (k x)):∀l:List α,Paired R (l.map g) (l.map k)
 | []=>.nil
 | x::l=>.cons (h x) (nU h l)
def jc{H:Hp}{p:Addr}{n:Nat}{f:Nat->Bool}(h:H p=some (.lst (aG n f))):aQ H 1 (.ref p) (.list (dB n f)):=
 .inr ⟨p,aG n f,dB n f,rfl,.inr ⟨h,rfl⟩,nU (λi=>(rfl:f i=f i)) _⟩
def vA{α:Type}(f g:α->Bool):∀l:List α,PyData.eqvAll (l.map λi=>PyData.bool (f i)) (l.map λi=>PyData.bool (g i))=l.all λi=>f i == g i
 | []=>rfl
 | x::l=>by show(PyData.eqv (.bool (f x)) (.bool (g x)) && PyData.eqvAll (l.map λi=>PyData.bool (f i)) (l.map λi=>PyData.bool (g i)))=((f x == g x) && l.all λi=>f i == g i);rw[vA f g l];rfl
def iX{n:Nat}{f g:Nat->Bool}:PyData.eqv (.list (dB n f)) (.list (dB n g))=true↔∀i,i<n->f i=g i:=by show PyData.eqvAll (dB n f) (dB n g)=true↔_;unfold dB;rw[vA,DU];simp only[List.mem_range,beq_iff_eq]
def xT{n d:Nat}{g:Nat->Bool}(hd:d<=n)(hz:n % d=0):PyData.eqv (.list (dB (n-d) λk=>g (d+k))) (.list (dB (n-d) g))=true↔Alike g 0 n d:=by
 rw[iX];constructor
 ·intro h;refine⟨hz,λi hi=>?_⟩;have:=h i (by omega);rw[show 0+i+d=d+i by omega,this,Nat.zero_add]
 ·intro h i hi;have:=h.2 i (by omega);rw[show 0+i+d=d+i by omega,Nat.zero_add]at this;exact this
def sQ(K:Dj):Sp:=λvs H Q _=>∃(p:Addr) (n:Nat) (g:Nat->Bool),vs=[.ref p]/\1<=n/\n<=20000/\H p=some (.lst (aG n g)) ∧
 ∀(d:Nat) H',Ext H H'->1<=d->d<=n->Alike g 0 n d->(∀e,1<=e->e<d->¬Alike g 0 n e)->Q (.int d) H'
abbrev mZ:Stmt:=stq 18
def pL:FnScope ["turn","whole","step"] ["turn"] (aC mZ):=⟨rfl,rfl,rfl,by decide +kernel,rfl,by decide +kernel,by decide +kernel⟩
def AZ{P:Program}{w:World}{K:Dj}{mg:Str->Option Value}{base:Heap}(D:Dfn K mg "least_step" mZ ["turn"])(T:Blt mg):Cal P w K mg base "least_step" 1 ["turn"] (sQ K):=by
 have nd:=(pL).nd;refine D.ok pL (λvs H Q E h=>?_) (λX hX H vs Q E h=>?_)
 ·obtain⟨p,n,g,rfl,_⟩:=h;rfl
 ·obtain⟨f,cdv,A,outer,s,H0,E0,rfl,hr⟩:=hX;obtain⟨p,n,g,rfl,hn1,hn2,hp,q⟩:=h;refine⟨_,(ah (aA (i:=1) nd rfl (Or.inl rfl) (br (cZ K) rfl T.len_ PySem.boot_len (aa (pv 0) ae)))
    (ah (aA (i:=2) nd rfl (Or.inl rfl) af)
    (ah (g7 PassesOwn.never (PW.pt (dh (aR fM (aq bN (pv 1) (pv 2)) af (aM _)) (eW (aR (tG hr) (gW (gE K) (pv 0) (fe (pv 2)) iz) (gW (gE K) (pv 0) iz (fe (aq cH (pv 1) (pv 2)))) (aM _))))) (ao (kO (i:=2) nd rfl (Or.inl rfl) af uE)))
    (ao (aB (pv 2)))))),?_⟩
  walk_at"";refine fB (ag.of hp) ?_;rw[bp];walk_at"";refine gG (λm σ H'=>Ext H H'/\∃d:Nat,σ=[some (.ref p),some (.int n),some (.int d)]/\1<=d/\d<=n/\m=n-d/\∀e,1<=e->e<d->¬Alike g 0 n e)
   (λσ H'=>Ext H H'/\∃d:Nat,σ=[some (.ref p),some (.int n),some (.int d)]/\1<=d/\d<=n/\Alike g 0 n d/\∀e,1<=e->e<d->¬Alike g 0 n e) (n-1)
   ⟨Ext.rfl' H,1,rfl,DI _,hn1,rfl,λe h1 h2=>by omega⟩ ?_ ?_
  rotate_left
  ·rintro σ H' ⟨e,d,rfl,h1,h2,ha,hf⟩;walk_at"";exact q d H' e h1 h2 ha hf
  rintro m σ H' ⟨e,d,rfl,h1,h2,rfl,hf⟩;have hp':=e _ _ hp;have hmod:((n:Int) % (d:Int)=0)↔n % d=0:=by have:(n:Int) % (d:Int)=((n % d:Nat):Int):=rfl;omega
  have next:∀H2,Ext H' H2->¬Alike g 0 n d->∃m',m'<n-d/\Ext H H2/\∃d':Nat,[some (V.ref p),some (V.int n),some (V.int ((d:Int)+1))]=[some (V.ref p),some (V.int n),some (V.int d')]/\1<=d'/\d'<=n/\m'=n-d'/\∀e,1<=e->e<d'->¬Alike g 0 n e:=by
   intro H2 e2 hna;have hlt:d<n:=by
    rcases Ee d n with h|h
    ·exact h
    ·have:d=n:=by omega
     subst this;exact absurd ⟨Nat.mod_self d,λi hi=>by omega⟩ hna
   refine⟨n-(d+1),by omega,e.trans e2,d+1,rfl,by omega,by omega,rfl,λe' h3 h4=>?_⟩;rcases Ee e' d with h5|h5
   ·exact hf e' h3 h5
   ·have:e'=d:=by omega
    subst this;exact hna
  walk_at"";by_cases hz:(n:Int) % (d:Int)=0
  ·rw[Em hz];refine aF ?_;walk_at"";refine ik (ag.of hp') (bP λp1 H1 e1 hp1 _=>?_);walk_at"";refine ik (ag.of (e1 _ _ hp')) (bP λp2 H2 e2 hp2 _=>?_);rw[oC (by omega) (by omega),DB]at hp1;rw[xG (by omega) (by omega),show ((n:Int)-(d:Int)).toNat=n-d by omega]at hp2;refine⟨1,1,_,_,jc (e2 _ _ hp1),jc hp2,by decide,?_⟩;walk_at"";have hal:=xT (g:=g) h2 (hmod.mp hz);cases hc:PyData.eqv (.list (dB (n-d) λk=>g (d+k))) (.list (dB (n-d) g))with
   | true=>
    exact aF ⟨e.trans (e1.trans e2),d,rfl,h1,h2,hal.mp hc,hf⟩
   | false=>
    refine aI ⟨_,λ_ _ h=>h,?_⟩;walk_at"";exact next H2 (e1.trans e2) λh=>by rw[hal.mpr h]at hc;cases hc
  ·rw[El hz];refine aI (aI ⟨_,λ_ _ h=>h,?_⟩);walk_at"";exact next H' (Ext.rfl' H') λh=>hz (hmod.mpr h.1)
def sC{f:Nat->Bool}{b n d:Nat}:Alike (λk=>f (b+k)) 0 n d↔Alike f b n d:=by unfold Alike;simp only[Nat.zero_add,Nat.add_assoc]
def jP(K:Dj):Sp:=λvs H Q _=>∃(p:Addr) (b n:Nat) (f:Nat->Bool),vs=[.ref p,.int b]/\1<=n/\b+n<=20000/\H p=some (.lst (aG (b+n) f))/\aP f b n ∧
 ∀v (l d:Nat) H',Ext H H'->Least f d l->l<=b->d<=n->bt H' v l d (row f 0 l) (row f l d)->Q v H'
abbrev mW:Stmt:=stq 19
def u7:FnScope ["marks","base","step","low","once","again"] ["marks","base"] (aC mW):=⟨rfl,rfl,rfl,by decide +kernel,rfl,by decide +kernel,by decide +kernel⟩
def zZ{P:Program}{w:World}{K:Dj}{mg:Str->Option Value}{base:Heap}(D:Dfn K mg "stair_of_marks" mW ["marks","base"])(T:Blt mg)(C_least_step:Cal P w K mg base "least_step" 1 ["turn"] (sQ K)):Cal P w K mg base "stair_of_marks" 2 ["marks","base"] (jP K):=by
 have nd:=(u7).nd;refine D.ok u7 (λvs H Q E h=>?_) (λX hX H vs Q E h=>?_)
 ·obtain⟨p,b,n,f,rfl,_⟩:=h;rfl
 ·obtain⟨f,cdv,A,outer,s,H0,E0,rfl,hr⟩:=hX;obtain⟨p,b,n,g,rfl,hn1,hbn,hp,hper,q⟩:=h;refine⟨_,(ah (aA (i:=2) nd rfl (Or.inl rfl) (av C_least_step hr (aa (gW (gE K) (pv 0) (fe (pv 1)) iz) ae)))
    (ah (aA (i:=3) nd rfl (Or.inl rfl) (pv 1))
    (ah (g7 PassesOwn.never (PW.pt (mn (aR eB (pv 3) af (aM _)) (oN (aR bT (ai (aE K) (pv 0) (aq cH (pv 3) af) (λ_ _=>rfl)) (ai (aE K) (pv 0) (aq aS (aq cH (pv 3) af) (pv 2)) (λ_ _=>rfl)) (aM _))))) (ao (kO (i:=3) nd rfl (Or.inl rfl) af CH)))
    (ah (iu (i:=4) ["number"] [0] nd rfl (Or.inl rfl) (cx rfl T.range_ (aa (pv 3) ae)) (λ_=>(aN (i:=0) (show(["number","marks"]:List Str).Nodup from by decide +kernel) rfl (Or.inl rfl) (Or.inr rfl))) (λ_=>(fA (bH (ai (aE K) (pv 1) (pv 0) (λ_ _=>rfl))))) (λ_=>(pv 0)))
    (ah (iu (i:=5) ["number"] [0] nd rfl (Or.inl rfl) (xV rfl T.range_ (aa (pv 3) (aa (aq aS (pv 3) (pv 2)) ae))) (λ_=>(aN (i:=0) (show(["number","marks"]:List Str).Nodup from by decide +kernel) rfl (Or.inl rfl) (Or.inr rfl))) (λ_=>(fA (bH (ai (aE K) (pv 1) (pv 0) (λ_ _=>rfl))))) (λ_=>(pv 0)))
    (ao (aB (bz (aa (pv 3) (aa (pv 2) (aa (gR (jk K) rfl T.tuple_ PyProof.Rows.boot_tuple (aa (pv 4) ae)) (aa (gR (jk K) rfl T.tuple_ PyProof.Rows.boot_tuple (aa (pv 5) ae)) ae)))))))))))),?_⟩
  walk_at"";refine ik (ag.of hp) (bP λp1 H1 e1 hp1 _=>?_);rw[oC (by omega) (by omega),DB,show b+n-b=n by omega]at hp1;walk_at"";refine⟨p1,n,_,rfl,hn1,by omega,hp1,λd H2 e2 hd1 hd2 hal hfirst=>?_⟩;have hal':=sC.mp hal;have hfirst':∀e,1<=e->e<d->¬Alike g b n e:=λe h3 h4 h5=>hfirst e h3 h4 (sC.mpr h5);have e02:Ext H H2:=e1.trans e2;have hp2:=e02 _ _ hp;walk_at"";refine gG (λm σ H'=>H'=H2/\∃l:Nat,σ=[some (.ref p),some (.int b),some (.int d),some (.int l),none,none]/\l<=b/\m=l/\∀x,l<=x->x<b->g x=g (x+d))
   (λσ H'=>H'=H2/\∃l:Nat,σ=[some (.ref p),some (.int b),some (.int d),some (.int l),none,none]/\l<=b/\(∀x,l<=x->x<b->g x=g (x+d))/\(l=0\/g (l-1)≠g (l-1+d))) b
   ⟨rfl,b,rfl,DI _,rfl,λx h1 h2=>by omega⟩ ?_ ?_
  ·rintro m σ H' ⟨rfl,l,rfl,hl,rfl,hdown⟩;walk_at"";by_cases h0:(0:Int)<(m:Int)
   ·rw[Em h0];refine aI ?_;walk_at"";refine aD (ag.of hp2) (cY (by omega) (by omega)) ?_;walk_at"";refine aD (ag.of hp2) (cY (by omega) (by omega)) ?_;walk_at"";rw[show ((m:Int)-1).toNat=m-1 by omega,show ((m:Int)-1+(d:Int)).toNat=m-1+d by omega];cases hc:g (m-1) == g (m-1+d)with
    | true=>
     refine aI ⟨_,λ_ _ h=>h,?_⟩;walk_at"";refine⟨m-1,by omega,rfl,m-1,by rw[show ((m-1:Nat):Int)=(m:Int)-1 by omega];rfl,by omega,rfl,λx h1 h2=>?_⟩;rcases Ee x m with h3|h3
     ·have:x=m-1:=by omega
      rw[this];exact eq_of_beq hc
     ·exact hdown x h3 h2
    | false=>exact aF ⟨rfl,m,rfl,hl,hdown,.inr λh=>by rw[h]at hc;simp at hc⟩
   ·rw[El h0];exact aF (aF ⟨rfl,m,rfl,hl,hdown,.inl (by omega)⟩)
  rintro σ H' ⟨rfl,l,rfl,hl,hdown,hstop⟩;have hleast:Least g d l:=xY hper hn1 hd1 hal' hfirst' hl hdown hstop;walk_at"";refine cq (by omega) ?_;rw[DB];refine fo (λi ys H3=>H3=H'/\ys=(row g 0 i).map V.int) (bD (by omega)) ⟨rfl,rfl⟩ ?_ ?_ ?_
  ·rintro i ys H3 _ ⟨rfl,rfl⟩;rw[Dn];exact wI g 0 i
  ·rintro i ys H3 hi ⟨rfl,hy⟩;walk_at"";refine aD (ag.of hp2) (cY (by omega) (by omega)) ?_;walk_at"";rw[show ((0:Int)+(i:Int)).toNat=i by omega];have e0:g (0+i)=g i:=by rw[Nat.zero_add]
   cases hg:g i with
   | true=>
    refine aI ?_;walk_at"";refine⟨rfl,?_⟩;rw[←wL hy (e0.trans hg)];congr 3
    all_goals omega
   | false=>exact aF ⟨rfl,pA hy (e0.trans hg)⟩
  rintro ys H3 p3 ⟨rfl,rfl⟩ hp3;have e4:Ext H3 (upd H3 p3 (.lst ((row g 0 l).map V.int))):=bJ hp3;have h4:(upd H3 p3 (.lst ((row g 0 l).map V.int))) p3=_:=aJ;generalize upd H3 p3 (.lst ((row g 0 l).map V.int))=H4 at e4 h4;have hp4:=e4 _ _ hp2;walk_at"";refine CQ (by omega) ?_;rw[show ((l:Int)+(d:Int)-(l:Int)).toNat=d by omega];refine fo (λi ys H5=>H5=H4/\ys=(row g l i).map V.int) (bD (by omega)) ⟨rfl,rfl⟩ ?_ ?_ ?_
  ·rintro i ys H5 _ ⟨rfl,rfl⟩;rw[Dn];exact wI g _ i
  ·rintro i ys H5 hi ⟨rfl,hy⟩;walk_at"";refine aD (ag.of hp4) (cY (by omega) (by omega)) ?_;walk_at"";rw[show ((l:Int)+(i:Int)).toNat=l+i by omega];cases hg:g (l+i)with
   | true=>
    refine aI ?_;walk_at"";refine⟨rfl,?_⟩;rw[←wL hy hg];congr 3
    all_goals omega
   | false=>exact aF ⟨rfl,pA hy hg⟩
  rintro ys H5 p5 ⟨rfl,rfl⟩ hp5;have e6:Ext H5 (upd H5 p5 (.lst ((row g l d).map V.int))):=bJ hp5;have h6:(upd H5 p5 (.lst ((row g l d).map V.int))) p5=_:=aJ;generalize upd H5 p5 (.lst ((row g l d).map V.int))=H6 at e6 h6;walk_at"";refine ka (ag.of (e6 _ _ h4)) (bP λt1 H7 e7 ht1 _=>?_);walk_at"";refine ka (ag.of (e7 _ _ h6)) (bP λt2 H8 e8 ht2 _=>?_);walk_at"";refine aH λt H9 e9 ht _=>?_;exact q _ l d H9 (e02.trans (e4.trans (e6.trans (e7.trans (e8.trans e9))))) hleast hl hd2 ⟨t,t1,t2,rfl,ht,e9 _ _ (e8 _ _ ht1),e9 _ _ ht2⟩
open Classical in
def ic(n:Nat)(R:Nat->Nat->Prop)(f:Nat->Bool):Nat->Bool:=λj=>decide (∃i,i<n/\f i=true/\R i j)
def i8{n:Nat}{R:Nat->Nat->Prop}{f:Nat->Bool}{j:Nat}:ic n R f j=true↔∃i,i<n/\f i=true/\R i j:=by unfold ic;simp
def aZ(n:Nat)(R:Nat->Nat->Prop)(f:Nat->Bool):Nat->Nat->Bool
 | 0=>f
 | k+1=>ic n R (aZ n R f k)
def dv(n:Nat)(f g:Nat->Bool):Prop:=∀j,j<n->f j=g j
def CM{n:Nat}{R:Nat->Nat->Prop}{f g:Nat->Bool}(h:dv n f g):dv n (ic n R f) (ic n R g):=λj _=>by
 rw[DW,i8,i8];constructor
 ·rintro⟨i,hi,h1,h2⟩;exact⟨i,hi,by rw[←h i hi];exact h1,h2⟩
 ·rintro⟨i,hi,h1,h2⟩;exact⟨i,hi,by rw[h i hi];exact h1,h2⟩
def tJ{n:Nat}{R:Nat->Nat->Prop}{f:Nat->Bool}{a k:Nat}(h:dv n (aZ n R f a) (aZ n R f k)):∀t,dv n (aZ n R f (a+t)) (aZ n R f (k+t))
 | 0=>h
 | t+1=>CM (tJ h t)
def dN(f:Nat->Bool):Nat->Nat
 | 0=>0
 | n+1=>dN f n+if f n then 2 ^ n else 0
def jU(f:Nat->Bool):∀n,dN f n<2 ^ n
 | 0=>by simp[dN]
 | n+1=>by
  have:=jU f n;have h2:2 ^ (n+1)=2 ^ n+2 ^ n:=by rw[Nat.pow_succ];omega
  show dN f n+(if f n then 2 ^ n else 0)<_;split<;>omega
def uU{f g:Nat->Bool}:∀n,dN f n=dN g n->dv n f g
 | 0,_=>λj hj=>absurd hj (Nat.not_lt_zero _)
 | n+1,h=>by
  have h1:=jU f n;have h2:=jU g n;have h':dN f n+(if f n then 2 ^ n else 0)=dN g n+(if g n then 2 ^ n else 0):=h;have key:f n=g n/\dN f n=dN g n:=by cases hf:f n<;>cases hg:g n<;>simp[hf,hg]at h' ⊢<;>omega
  intro j hj;by_cases hjn:j<n
  ·exact uU n key.2 j hjn
  ·have:j=n:=by omega
   subst this;exact key.1
def pP{n k:Nat}{F:Nat->Nat->Bool}(hn:n<=12)(h:∀a b,a<b->b<k->¬dv n (F a) (F b)):k<=4096:=by
 have h1:=Bfs.gC 4096 ((Ek k).map λa=>dN (F a) n) (by
  rw[List.nodup_iff_pairwise_ne,List.pairwise_map,List.pairwise_iff_getElem];intro i j hi hj hij e;simp at hi hj e;exact h i j hij hj (uU n e)) (λx hx=>by
  obtain⟨a,_,rfl⟩:=List.mem_map.mp hx;exact DR (jU (F a) n) (DS (Nat.pow_le_pow_right (by omega) hn) (by decide)))
 simpa using h1
def eO(n:Nat)(R:Nat->Nat->Prop)(top:Nat)(M:Nat->Nat->Bool):Nat->Nat->Bool:=λi=>if i<top then M i else aZ n R (M top) (i-top)
def BE{α:Type}{xs:List α}{k:Nat}(h:xs.length=k+1){v:α}(hv:xs[k]?=some v):bo xs (-1)=some v:=by unfold bo dI;rw[h,En (by omega),Eo (by omega)];show xs[(-1+((k+1:Nat):Int)).toNat]?=some v;rw[show (-1+((k+1:Nat):Int)).toNat=k by omega];exact hv
def Ay{xs:List V}{k:Nat}(h:xs.length=k+1):dg xs none (some (-1))=xs.take k:=by
 unfold dg;have e1:HT.bQ xs.length xs.length (some (-1))=k:=by show(if(-1:Int)<0 then(-1+(xs.length:Int)).toNat else min (-1:Int).toNat xs.length)=_;rw[Eo (by decide)];omega
 have e2:HT.bQ xs.length 0 none=0:=rfl;rw[e1,e2];simp
def mN{H:Hp}{n:Nat}:∀{hs:List Addr} {F:Nat->Nat->Bool},(∀(a:Nat) (r:Addr),hs[a]?=some r->H r=some (.lst (aG n (F a))))->Paired (aQ H 1) (List.map V.ref hs) ((Ek hs.length).map λa=>PyData.list (dB n (F a)))
 | [],_,_=>.nil
 | r::hs,F,h=>by rw[DP,List.range_succ_eq_map,List.map_cons,List.map_cons,List.map_map];exact .cons (jc (h 0 r rfl)) (mN (F:=λa=>F (a+1)) λa r' hr=>h (a+1) r' (by simpa using hr))
def Az{i x a:Nat}(h:x+a<=i):a+(i-x-a)=i-x:=by omega
def CU{i x a k:Nat}(h:x+a<=i)(ha:a<k+1):k+1+(i-x-a)=i+(k+1-a)-x:=by omega
def qe{i x a c:Nat}(h:x+a<=i):¬i+c<x/\¬i<x:=by omega
def BG{x r h k a:Nat}(hr:r=x+1)(hh:h=k+1)(ha:a<k+1):min x r+h=x+a+(k+1-a):=by omega
def zR{i x r:Nat}(hr:r=x+1):i-min x r=i-x:=by omega
def qT{x r:Nat}(hr:r=x+1):min x r=x:=by omega
def rY(K:Dj):Sp:=λvs H Q _=>∃vh m ws pa x,vs=[vh,.ref pa]/\bx H vh m ws/\HOuse m ws/\aK H pa x/\f7 m x/\cR K/\Tbs K H/\∀p lq rs (b N:Nat) M H',Et H H'->Tbs K H'->H' p=some (.tup [.ref lq,.int (b:Nat)])->Rows H' lq rs m.toNat (eO m.toNat (aV ws m.toNat) x.2.toNat M)->rs.length=b+N->1<=N->b+N<=5200->(∀r,r<m.toNat->aP (λi=>eO m.toNat (aV ws m.toNat) x.2.toNat M i r) b N) →
 (∀i r:Nat,(i:Int)<=x.2->(r:Int)<m->(M i r=true↔∃n,Bfs.Rw (LB ws m.toNat x.2) n x ((r:Int),(i:Int))))->Q (.ref p) H'
abbrev mK:Stmt:=stq 65
def ur:FnScope ["house","place","rises","low","high","level"] ["house","place"] (aC mK):=⟨rfl,rfl,rfl,by decide +kernel,rfl,by decide +kernel,by decide +kernel⟩
def Cn{P:Program}{w:World}{K:Dj}{mg:Str->Option Value}{base:Heap}(D:Dfn K mg "all_levels" mK ["house","place"])(T:Blt mg)(C_next_level:Cal P w K mg base "next_level" 1 ["rises","level"] (qZ K))(C_low_levels:Cal P w K mg base "low_levels" 8 ["house","place"] (og K))(C_risen:Cal P w K mg base "risen" 7 ["house"] (oG K)):Cal P w K mg base "all_levels" 9 ["house","place"] (rY K):=by
 have nd:=(ur).nd;refine D.ok ur (λvs H Q E h=>?_) (λX hX H vs Q E h=>?_)
 ·obtain⟨vh,m,ws,pa,x,rfl,_⟩:=h;rfl
 ·obtain⟨f,cdv,A,outer,s,H0,E0,rfl,hr⟩:=hX;obtain⟨vh,m,ws,pa,x,rfl,hv,ok,hpx,ix,dis,htb,q⟩:=h;have m1:=ok.m1;have m12:=ok.m12;obtain⟨i0,i1,i2,i3⟩:=id ix;refine⟨_,(ah (aA (i:=2) nd rfl (Or.inl rfl) (av C_risen hr (aa (pv 0) ae)))
    (ah (aA (i:=3) nd rfl (Or.inl rfl) (av C_low_levels hr (aa (pv 0) (aa (pv 1) ae))))
    (ah (aA (i:=4) nd rfl (Or.inl rfl) (bw (aa (ai (aE K) (pv 3) (ir gX af) (λ_ _=>rfl)) ae)))
    (ah (aA (i:=5) nd rfl (Or.inl rfl) (av C_next_level hr (aa (pv 2) (aa (ai (aE K) (pv 3) (ir gX af) (λ_ _=>rfl)) ae))))
    (ah (g7 PassesOwn.never (aR (rG hr) (pv 5) (pv 4) (by with_unfolding_all rfl)) (ah (aX (bR K Dw DJ DK b0 (pv 4) (aa (pv 5) ae)))
    (ao (aA (i:=5) nd rfl (Or.inl rfl) (av C_next_level hr (aa (pv 2) (aa (pv 5) ae)))))))
    (ao (aB (bz (aa (aq ke (gW (gE K) (pv 3) iz (fe (ir gX af))) (pv 4)) (aa (aq aS (ai (ay K) (pv 1) af (λ_ _=>rfl)) (bR K Dw PySem.F.slot_list_index PySem.F.type_list_index (wN hr) (pv 4) (aa (pv 5) ae))) ae)))))))))),?_⟩
  walk_at"";refine⟨vh,m,ws,rfl,hv,ok,dis,htb,λrl H1 e1 tb1 prs=>?_⟩;walk_at"";refine⟨vh,m,ws,pa,x,rfl,hv.et e1,ok,hpx.et e1,ix,dis,tb1,λlq rs M H2 e2 tb2 rows hrl hM=>?_⟩;have prs2:=prs.et e2;have hpx2:=(hpx.et e1).et e2;have hrl':rs.length=x.2.toNat+1:=by omega
  have hlast:rs[x.2.toNat]?=some rs[x.2.toNat]:=Dp (by omega);generalize rs[x.2.toNat]=r0 at hlast;have hr0:=rows.2 _ _ hlast;have hat:bo (List.map V.ref rs) (-1)=some (.ref r0):=BE (k:=x.2.toNat) (by rw[Dn];exact hrl') (by rw[Dr,hlast];rfl);walk_at"";refine aD (ag.of rows.1) hat ?_;walk_at"";refine aH λhq H3 e3 hhq hhn=>?_;walk_at"";refine aD (ag.of (e3 _ _ rows.1)) hat ?_;walk_at"";refine⟨rl,r0,m.toNat,_,_,rfl,prs2.et e3.et,e3 _ _ hr0,by omega,λlv g H4 e4 hln hl4 hg=>?_⟩;have e24:=e3.trans e4;have hl4':H4 lv=some (.lst (aG m.toNat (aZ m.toNat (aV ws m.toNat) (M x.2.toNat) 1))):=by
   rw[hl4];congr 2;exact b6 λj hj=>by rw[DW];exact(hg j hj).trans i8.symm
  clear hl4 hg;walk_at"";refine gG (λmm σ H'=>∃hs lv k,Ext H2 H'/\H' hq=some (.lst (List.map V.ref hs))/\hs.length=k+1/\(∀(a:Nat) (r:Addr),hs[a]?=some r->H' r=some (.lst (aG m.toNat (aZ m.toNat (aV ws m.toNat) (M x.2.toNat) a))))/\(∀a b,a<b->b<k+1->¬dv m.toNat (aZ m.toNat (aV ws m.toNat) (M x.2.toNat) a) (aZ m.toNat (aV ws m.toNat) (M x.2.toNat) b))/\H' lv=some (.lst (aG m.toNat (aZ m.toNat (aV ws m.toNat) (M x.2.toNat) (k+1))))/\mm=4097-k/\σ=[some vh,some (.ref pa),some (.ref rl),some (.ref lq),some (.ref hq),some (.ref lv)])
   (λσ H'=>∃hs lv k a,Ext H2 H'/\H' hq=some (.lst (List.map V.ref hs))/\hs.length=k+1/\(∀(a:Nat) (r:Addr),hs[a]?=some r->H' r=some (.lst (aG m.toNat (aZ m.toNat (aV ws m.toNat) (M x.2.toNat) a))))/\(∀a b,a<b->b<k+1->¬dv m.toNat (aZ m.toNat (aV ws m.toNat) (M x.2.toNat) a) (aZ m.toNat (aV ws m.toNat) (M x.2.toNat) b))/\H' lv=some (.lst (aG m.toNat (aZ m.toNat (aV ws m.toNat) (M x.2.toNat) (k+1))))/\a<k+1/\dv m.toNat (aZ m.toNat (aV ws m.toNat) (M x.2.toNat) a) (aZ m.toNat (aV ws m.toNat) (M x.2.toNat) (k+1))/\k+1<=4096/\σ=[some vh,some (.ref pa),some (.ref rl),some (.ref lq),some (.ref hq),some (.ref lv)])
   4097 ⟨[r0],lv,0,e24,e4 _ _ hhq,rfl,λa r ha=>by
    cases a with
    | zero=>cases ha;exact e24 _ _ hr0
    | succ a=>simp at ha,λa b h1 h2=>by omega,hl4',rfl,rfl⟩ ?_ ?_
  ·rintro mm σ H5 ⟨hs,lv,k,e5,hq5,hsl,hrow,hun,hlv,rfl,rfl⟩;have hk:=pP (F:=aZ m.toNat (aV ws m.toNat) (M x.2.toNat)) (show m.toNat<=12 by omega) hun;have hrep:=mN hrow;walk_at"";refine qY (jc hlv) hq5 hrep (by omega) ?_;have hany:((Ek hs.length).map λa=>PyData.list (dB m.toNat (aZ m.toNat (aV ws m.toNat) (M x.2.toNat) a))).any (λe=>PyData.eqv e (.list (dB m.toNat (aZ m.toNat (aV ws m.toNat) (M x.2.toNat) (k+1)))))=true↔∃a,a<k+1/\dv m.toNat (aZ m.toNat (aV ws m.toNat) (M x.2.toNat) a) (aZ m.toNat (aV ws m.toNat) (M x.2.toNat) (k+1)):=by
    rw[List.any_map,DV,hsl];constructor
    ·rintro⟨a,ha,he⟩;exact⟨a,List.mem_range.mp ha,iX.mp he⟩
    ·rintro⟨a,ha,he⟩;exact⟨a,List.mem_range.mpr ha,iX.mpr he⟩
   generalize ((Ek hs.length).map λa=>PyData.list (dB m.toNat (aZ m.toNat (aV ws m.toNat) (M x.2.toNat) a))).any (λe=>PyData.eqv e (.list (dB m.toNat (aZ m.toNat (aV ws m.toNat) (M x.2.toNat) (k+1)))))=bb at hany ⊢;cases bb with
   | true=>
    obtain⟨a,ha,hsame⟩:=hany.mp rfl;refine⟨_,rfl,aF ?_⟩;exact⟨hs,lv,k,a,e5,hq5,hsl,hrow,hun,hlv,ha,hsame,hk,rfl⟩
   | false=>
    have hno:∀a,a<k+1->¬dv m.toNat (aZ m.toNat (aV ws m.toNat) (M x.2.toNat) a) (aZ m.toNat (aV ws m.toNat) (M x.2.toNat) (k+1)):=λa ha hs=>by have:=hany.mpr ⟨a,ha,hs⟩;cases this
    have hun2:∀a b,a<b->b<k+1+1->¬dv m.toNat (aZ m.toNat (aV ws m.toNat) (M x.2.toNat) a) (aZ m.toNat (aV ws m.toNat) (M x.2.toNat) b):=λa b hab hb=>by
     by_cases hbk:b<k+1
     ·exact hun a b hab hbk
     ·have:b=k+1:=by omega
      subst this;exact hno a hab
    have hk2:=pP (F:=aZ m.toNat (aV ws m.toNat) (M x.2.toNat)) (show m.toNat<=12 by omega) hun2;refine⟨_,rfl,aI ⟨λσ' H'=>∃hs lv,Ext H2 H'/\H' hq=some (.lst (List.map V.ref hs))/\hs.length=k+1+1/\(∀(a:Nat) (r:Addr),hs[a]?=some r->H' r=some (.lst (aG m.toNat (aZ m.toNat (aV ws m.toNat) (M x.2.toNat) a))))/\H' lv=some (.lst (aG m.toNat (aZ m.toNat (aV ws m.toNat) (M x.2.toNat) (k+1+1))))/\σ'=[some vh,some (.ref pa),some (.ref rl),some (.ref lq),some (.ref hq),some (.ref lv)],λσ' H' ⟨hs,lv,a1,a2,a3,a4,a5,a6⟩=>⟨4097-(k+1),by omega,hs,lv,k+1,a1,a2,a3,a4,hun2,a5,rfl,a6⟩,?_⟩⟩;have nqr:∀r∈hs++[lv],r≠hq:=λr hr z=>by
     have hb:∃f,H5 r=some (.lst (aG m.toNat f)):=by
      rcases DL.mp hr with h|h
      ·obtain⟨j,hj⟩:=Ef h;exact⟨_,hrow j r hj⟩
      ·rw[Dz.mp h];exact⟨_,hlv⟩
     obtain⟨f,hb⟩:=hb;rw[z,hq5]at hb;have h2:List.map V.ref hs=aG m.toNat f:=by
      injection hb with hb
      injection hb
     have h3:=congrArg (λz:List V=>z[0]?) h2
     try dsimp only at h3
     rw[cL _ (by omega),Dr]at h3;cases y:hs[0]? with
     | none=>rw[y]at h3;cases h3
     | some a=>rw[y]at h3;cases h3
    walk_at"";refine⟨dM (ag.of hq5),?_⟩;walk_at"";refine cc hq5 (mX (by rw[Dn];omega)) ?_;have hn2:H2 hq=none:=hhn;have e6:=cJ (o:=.lst (List.map V.ref hs++[.ref lv])) e5 hn2;have keep:∀b o,b≠hq->H5 b=some o->upd H5 hq (.lst (List.map V.ref hs++[.ref lv])) b=some o:=λb o nb e=>by rw[ax nb];exact e
    have hq6:upd H5 hq (.lst (List.map V.ref hs++[.ref lv])) hq=some (.lst (List.map V.ref (hs++[lv]))):=by rw[aJ,DF];rfl
    have hlv6:=keep lv _ (nqr lv (by simp)) hlv;have hrow6:∀(a:Nat) (r:Addr),(hs++[lv])[a]?=some r->upd H5 hq (.lst (List.map V.ref hs++[.ref lv])) r=some (.lst (aG m.toNat (aZ m.toNat (aV ws m.toNat) (M x.2.toNat) a))):=λa r ha=>by
     by_cases hal:a<hs.length
     ·rw[DN hal]at ha;exact keep r _ (nqr r (Eb _ (Dy ha))) (hrow a r ha)
     ·rw[DM (by omega)]at ha;have hz:a-hs.length=0:=by have:=(Dx.mp ha).1;simp at this;omega
      rw[hz]at ha;cases ha;have:a=k+1:=by omega
      subst this;exact hlv6
    generalize upd H5 hq (.lst (List.map V.ref hs++[.ref lv]))=H6 at e6 hq6 hlv6 hrow6 ⊢;walk_at"";refine⟨rl,lv,m.toNat,_,_,rfl,prs2.et e6.et,hlv6,by omega,λlv2 g2 H7 e7 _ hl7 hg2=>?_⟩;walk_at"";refine⟨hs++[lv],lv2,e6.trans e7,e7 _ _ hq6,by rw[DG,hsl];rfl,λa r ha=>e7 _ _ (hrow6 a r ha),?_,rfl⟩;rw[hl7];congr 2;exact b6 λj hj=>by rw[DW];exact(hg2 j hj).trans i8.symm
  ·rintro σ H5 ⟨hs,lv,k,a,e5,hq5,hsl,hrow,hun,hlv,ha,hsame,hk,rfl⟩;have rows5:=rows.ext e5;walk_at"";refine ik (ag.of rows5.1) (bP λlo H6 e6 hlo _=>?_);rw[Ay (k:=x.2.toNat) (by rw[Dn];exact hrl')]at hlo;walk_at"";refine kA hlo (e6 _ _ hq5) (bD (by simp;omega)) (bP λll H7 e7 hll _=>?_);have e57:=e6.trans e7;walk_at"";refine az (aj.of (e57 _ _ (e5 _ _ hpx2))) (v:=.int x.2) rfl ?_;walk_at"";have hrow7:∀(a:Nat) (r:Addr),hs[a]?=some r->H7 r=some (.lst (aG m.toNat (aZ m.toNat (aV ws m.toNat) (M x.2.toNat) a))):=λa r h=>e57 _ _ (hrow a r h);refine⟨dM (ag.of (e57 _ _ hq5)),?_⟩;walk_at"";refine⟨1,hq,_,.ref lv,_,_,a,rfl,rfl,jc (e57 _ _ hlv),e57 _ _ hq5,mN hrow7,by omega,⟨_,by rw[Dr,List.getElem?_range (by omega)];rfl,iX.mpr hsame⟩,λb e hb he=>?_,by omega,?_⟩
   ·rw[Dr,List.getElem?_range (by omega)]at he;cases he;rw[Bool.eq_false_iff];intro hc;have:=iX.mp hc;exact hun b a hb ha λj hj=>(this j hj).trans (hsame j hj).symm
   walk_at"";refine aH λpp H8 e8 hpp _=>?_;have e28:=e5.trans (e57.trans e8);refine q pp ll (rs.take x.2.toNat++hs) (x.2.toNat+a) (k+1-a) M H8 ((e1.trans e2).trans e28.et) (tb2.ext e28) ?_ ⟨?_,λi r hi=>?_⟩ ?_ (by omega) (by omega) (λr hr=>?_) hM
   ·rw[hpp];congr 3;congr 2;omega
   ·rw[e8 _ _ hll,DF,List.map_take]
   ·unfold eO;by_cases hix:i<x.2.toNat
    ·rw[Eo hix];rw[DN (by rw[Eh,qT hrl'];exact hix),List.getElem?_take_of_lt hix]at hi;exact e28 _ _ (rows.2 i r hi)
    ·rw[En hix];rw[DM (by rw[Eh,qT hrl'];exact Nat.le_of_not_lt hix),Eh,zR hrl']at hi;exact e8 _ _ (hrow7 _ _ hi)
   ·rw[DG,Eh];exact BG hrl' hsl ha
   ·intro i hi;show eO _ _ _ _ (i+(k+1-a)) r=eO _ _ _ _ i r;unfold eO;rw[En (qe hi).1,En (qe (c:=0) hi).2];have hp:=tJ hsame (i-x.2.toNat-a) r hr;rw[Az hi,CU hi ha]at hp;exact hp.symm
def tZ{i d:Nat}(h:i+1<=d)(hn:d≠i+1):i+1+(d-1-(i+1))=d-1:=by omega
def dm(ws:List Way)(a b:Bfs.Pl):Prop:=∃w∈ws,cw w a.1 a.2=true/\b=(w.other,a.2+rz w.deed)
def bE(ws:List Way)(x y:Bfs.Pl):Prop:=∃n,Bfs.Rw (dm ws) n x y
def fb{w:Way}{r n:Int}(hr:w.room=r)(h:w.deed = "up"\/w.deed = "stay"\/(w.deed = "down"/\0<n)\/(w.deed = "zero"/\n=0)):cw w r n=true:=by
 unfold cw;rw[Em hr,Bool.true_and];rcases h with h|h|⟨h,hn⟩|⟨h,hn⟩
 ·rw[h,En (by decide +kernel)];have:decide ((DY "up") = "zero")=false:=by decide +kernel
  rw[this];rfl
 ·rw[h,En (by decide +kernel)];have:decide ((DY "stay") = "zero")=false:=by decide +kernel
  rw[this];rfl
 ·rw[h,Eo (by decide +kernel)];exact Em hn
 ·rw[h,En (by decide +kernel),hn];simp
def fX{w:Way}{r n:Int}(hd:bI w.deed)(h:cw w r n=true):(w.deed = "up"/\rz w.deed=1)\/(w.deed = "stay"/\rz w.deed=0)\/(w.deed = "down"/\0<n/\rz w.deed = -1)\/(w.deed = "zero"/\n=0/\rz w.deed=0):=by
 unfold cw at h;rw[DX]at h;rcases hd with hd|hd|hd|hd
 ·exact .inl ⟨hd,by rw[hd];exact iU⟩
 ·rw[hd,Eo (by decide +kernel)]at h;exact .inr (.inr (.inl ⟨hd,of_decide_eq_true h.2,by rw[hd];exact jH⟩))
 ·exact .inr (.inl ⟨hd,by rw[hd];exact jZ⟩)
 ·rw[hd,En (by decide +kernel)]at h;have h2:decide ((DY "zero") = "zero")=true:=by decide +kernel
  rw[h2]at h;refine .inr (.inr (.inr ⟨hd,?_,by rw[hd];exact mE⟩));simpa using h.2
def bE.refl{ws:List Way}{x:Bfs.Pl}:bE ws x x:=⟨0,.nil⟩
def bE.trans{ws:List Way}{x y z:Bfs.Pl}(h:bE ws x y)(g:bE ws y z):bE ws x z:=by obtain⟨n,h⟩:=h;obtain⟨k,g⟩:=g;exact⟨n+k,h.trans g⟩
def bE.one{ws:List Way}{x y:Bfs.Pl}(h:dm ws x y):bE ws x y:=⟨1,.snoc .nil h⟩
section
variable {m:Int} {ws:List Way} (ok:∀w∈ws,w.Ok m)
include ok
def eA{a b:Bfs.Pl}(h:dm ws a b)(ha:0<=a.2):0<=b.1/\b.1<m/\0<=b.2/\b.2<=a.2+1/\a.2<=b.2+1:=by obtain⟨w,hw,ho,rfl⟩:=h;have okw:=ok w hw;refine⟨okw.o0,okw.o1,?_⟩;rcases fX okw.dd ho with⟨_,h⟩|⟨_,h⟩|⟨_,h1,h⟩|⟨_,h1,h⟩<;>(show 0<=a.2+rz w.deed/\a.2+rz w.deed<=a.2+1/\a.2<=a.2+rz w.deed+1;omega)
def qN{i j:Nat}(h:Kpt ws m.toNat i j):∀L:Int,0<=L->bE ws ((i:Int),L) ((j:Int),L):=by
 induction h with
 | refl _=>exact λ_ _=>.refl
 | @stay w hw hd=>
  intro L _;have okw:=ok w hw;have r0:=okw.r0;have o0:=okw.o0;refine .one ⟨w,hw,fb (by show w.room=((w.room.toNat:Nat):Int);omega) (.inr (.inl hd)),?_⟩;rw[hd,jZ];exact Prod.ext (by show((w.other.toNat:Nat):Int)=w.other;omega) (by show L=L+0;omega)
 | trans _ _ h1 h2=>exact λL hL=>(h1 L hL).trans (h2 L hL)
 | @arch u d hu hud hd hdd _ ih=>
  intro L hL;have oku:=ok u hu;have okd:=ok d hd;have u0:=oku.r0;have u1:=oku.o0;have d0:=okd.r0;have d1:=okd.o0;have s1:dm ws (((u.room.toNat:Nat):Int),L) (((u.other.toNat:Nat):Int),L+1):=⟨u,hu,fb (by show u.room=((u.room.toNat:Nat):Int);omega) (.inl hud),by rw[hud,iU];exact Prod.ext (by show((u.other.toNat:Nat):Int)=u.other;omega) rfl⟩;have s2:dm ws (((d.room.toNat:Nat):Int),L+1) (((d.other.toNat:Nat):Int),L):=⟨d,hd,fb (by show d.room=((d.room.toNat:Nat):Int);omega) (.inr (.inr (.inl ⟨hdd,by omega⟩))),by rw[hdd,jH];exact Prod.ext (by show((d.other.toNat:Nat):Int)=d.other;omega) (by show L=L+1 + -1;omega)⟩;exact((bE.one s1).trans (ih (L+1) (by omega))).trans (.one s2)
def qX:∀(n:Nat) (w:Nat->Bfs.Pl) (i:Nat) (L:Int),1<=L->(∀k,i<=k->k<i+n->dm ws (w k) (w (k+1)))->(∀k,i<=k->k<=i+n->L<=(w k).2)->(w i).2=L->(w (i+n)).2=L->0<=(w i).1->(w i).1<m->Kpt ws m.toNat (w i).1.toNat (w (i+n)).1.toNat:=by
 intro n;induction n using Nat.strongRecOn with
 | ind n ih=>
  intro w i L hL hS hh h0 h1 r0 r1;cases n with
  | zero=>exact .refl (by show(w i).1.toNat<m.toNat;omega)
  | succ n=>
   have s0:=hS i (DI _) (by omega);have in1:=eA ok s0 (by omega);obtain⟨v,hv,ho,hw1⟩:=id s0;have okv:=ok v hv;have hroom:=gh ho;have e1:(w (i+1)).1=v.other:=by rw[hw1]
   have e2:(w (i+1)).2=(w i).2+rz v.deed:=by rw[hw1]
   have hge:=hh (i+1) (by omega) (by omega);rcases fX okv.dd ho with⟨hd,hz⟩|⟨hd,hz⟩|⟨hd,_,hz⟩|⟨hd,h00,hz⟩
   ·obtain⟨d,hd1,hd2,hd3,hd4⟩:=Bfs.Aa (h:=λk=>(w k).2) (l:=L) (P:=i+1) (n:=i+(n+1)) (by omega) (λk hk1 hk2=>(eA ok (hS k (by omega) hk2) (by have:=hh k (by omega) (by omega);omega)).2.2.2.2) (by show(w (i+(n+1))).2<=L;omega) (by show L<=(w (i+1)).2;omega)
    try dsimp only at hd3 hd4
    have hdi:d≠i+1:=λz=>by rw[z]at hd3;omega
    have sd:=hS (d-1) (by omega) (by omega);rw[show d-1+1=d by omega]at sd;obtain⟨v2,hv2,ho2,hw2⟩:=id sd;have okv2:=ok v2 hv2;have hroom2:=gh ho2;have f1:(w d).1=v2.other:=by rw[hw2]
    have f2:(w d).2=(w (d-1)).2+rz v2.deed:=by rw[hw2]
    have hgt:=hd4 (d-1) (by omega) (by omega);have hdown:v2.deed = "down"/\rz v2.deed = -1:=by
     rcases fX okv2.dd ho2 with⟨_,hz⟩|⟨_,hz⟩|⟨hd,_,hz⟩|⟨_,_,hz⟩
     ·omega
     ·omega
     ·exact⟨hd,hz⟩
     ·omega
    have inner:=ih (d-1-(i+1)) (by omega) w (i+1) (L+1) (by omega) (λk hk1 hk2=>hS k (by omega) (by omega)) (λk hk1 hk2=>by have:=hd4 k hk1 (by omega);omega) (by omega) (by rw[tZ hd1 hdi];omega) in1.1 in1.2.1;rw[tZ hd1 hdi,e1,←hroom2]at inner;have ar:=Kpt.arch hv hd hv2 hdown.1 inner;rw[hroom,←f1]at ar;have ind:=eA ok sd (by omega);have rest:=ih (i+(n+1)-d) (by omega) w d L hL (λk hk1 hk2=>hS k (by omega) (by omega)) (λk hk1 hk2=>hh k (by omega) (by omega)) hd3 (by rw[Nat.add_sub_of_le hd2];exact h1) ind.1 ind.2.1;rw[Nat.add_sub_of_le hd2]at rest;exact .trans ar rest
   ·have rest:=ih n (by omega) w (i+1) L hL (λk hk1 hk2=>hS k (by omega) (by omega)) (λk hk1 hk2=>hh k (by omega) (by omega)) (by omega) (by rw[show i+1+n=i+(n+1) by omega];exact h1) in1.1 in1.2.1;rw[show i+1+n=i+(n+1) by omega,e1]at rest;have st:=Kpt.stay (n:=m.toNat) hv hd;rw[hroom]at st;exact .trans st rest
   ·omega
   ·omega
def nA{w:Nat->Bfs.Pl}{n:Nat}(h0:0<=(w 0).1/\(w 0).1<m/\0<=(w 0).2)(hS:∀k,k<n->dm ws (w k) (w (k+1))):∀k,k<=n->0<=(w k).1/\(w k).1<m/\0<=(w k).2
 | 0,_=>h0
 | k+1,hk=>by have ih:=nA h0 hS k (by omega);have:=eA ok (hS k (by omega)) ih.2.2;exact⟨this.1,this.2.1,this.2.2.1⟩
def Bu{top:Int}{x:Bfs.Pl}(ht:0<=top)(hx:ck m top x){k:Nat}{y:Bfs.Pl}(h:Bfs.Rw (LB ws m.toNat top) k x y):bE ws x y/\ck m top y:=by
 induction h with
 | nil=>exact⟨.refl,hx⟩
 | @snoc n x y z _ hs ih=>
  obtain⟨hr,hy⟩:=ih hx;rcases hs with⟨w,hw,ho,rfl,hle⟩|⟨hty,i,j,hk,hyi,rfl⟩
  ·have st:dm ws y (w.other,y.2+rz w.deed):=⟨w,hw,ho,rfl⟩;have:=eA ok st hy.2.2.1;exact⟨hr.trans (.one st),this.1,this.2.1,this.2.2.1,hle⟩
  ·have hlt:=Kpt.lt ok hk;have hy2:y.2=top:=by have:=hy.2.2.2;omega
   have hs:=qN ok hk top ht;have hye:y=((i:Int),top):=Prod.ext hyi hy2;rw[←hye]at hs;exact⟨hr.trans hs,by show(0:Int)<=(j:Int);omega,by show(j:Int)<m;omega,ht,Int.le_refl _⟩
def An{top:Int}(ht:0<=top):∀(n:Nat) (w:Nat->Bfs.Pl),0<=(w 0).1->(w 0).1<m->(w 0).2=top->(∀k,k<n->dm ws (w k) (w (k+1)))->(w n).2<=top->∃k,Bfs.Rw (LB ws m.toNat top) k (w 0) (w n):=by
 intro n;induction n using Nat.strongRecOn with
 | ind n ih=>
  intro w h00 h01 h02 hS hle;cases n with
  | zero=>exact⟨0,.nil⟩
  | succ n=>
   have hin:=nA ok (w:=w) (n:=n+1) ⟨h00,h01,by omega⟩ hS;have sn:=hS n (by omega);have inn:=eA ok sn (hin n (by omega)).2.2;by_cases hz:(w n).2<=top
   ·obtain⟨k,hk⟩:=ih n (by omega) w h00 h01 h02 (λk hk=>hS k (by omega)) hz;obtain⟨v,hv,ho,he⟩:=sn;exact⟨k+1,.snoc hk (.inl ⟨v,hv,ho,he,hle⟩)⟩
   ·obtain⟨u,hu,hul,hui⟩:=Bfs.jz (h:=λk=>(w k).2) (l:=top) n (λk hk=>(eA ok (hS k (by omega)) (hin k (by omega)).2.2).2.2.2.1) (by show(w 0).2<=top;omega) (by show top<=(w n).2;omega)
    try dsimp only at hul hui
    have hun:u≠n:=λz=>by rw[z]at hul;omega
    have su:=hS u (by omega);have inu:=eA ok su (hin u (by omega)).2.2;have hu1:=hui (u+1) (by omega) (by omega);obtain⟨v,hv,ho,hw1⟩:=id su;obtain⟨v2,hv2,ho2,hw2⟩:=id sn;have e1:(w (u+1)).1=v.other:=by rw[hw1]
    have e2:(w (u+1)).2=(w u).2+rz v.deed:=by rw[hw1]
    have f1:(w (n+1)).1=v2.other:=by rw[hw2]
    have f2:(w (n+1)).2=(w n).2+rz v2.deed:=by rw[hw2]
    have hup:v.deed = "up":=by
     rcases fX (ok v hv).dd ho with⟨hd,_⟩|⟨_,hz⟩|⟨_,_,hz⟩|⟨_,_,hz⟩
     ·exact hd
     ·omega
     ·omega
     ·omega
    have hdn:v2.deed = "down":=by
     rcases fX (ok v2 hv2).dd ho2 with⟨_,hz⟩|⟨_,hz⟩|⟨hd,_,_⟩|⟨_,_,hz⟩
     ·omega
     ·omega
     ·exact hd
     ·omega
    have hin1:=hin (u+1) (by omega);have inner:=qX ok (n-(u+1)) w (u+1) (top+1) (by omega) (λk hk1 hk2=>hS k (by omega)) (λk hk1 hk2=>by have:=hui k (by omega) (by omega);omega) (by omega) (by rw[show u+1+(n-(u+1))=n by omega];omega) hin1.1 hin1.2.1;rw[show u+1+(n-(u+1))=n by omega,e1,←gh ho2]at inner;have ar:=Kpt.arch hv hup hv2 hdn inner;rw[gh ho,←f1]at ar;obtain⟨k,hk⟩:=ih u (by omega) w h00 h01 h02 (λk hk=>hS k (by omega)) (by omega);have hinu:=hin u (by omega);have hinn:=hin (n+1) (by omega);refine⟨k+1,.snoc hk (.inr ⟨by omega,_,_,ar,by omega,?_⟩)⟩;exact Prod.ext (by show(w (n+1)).1=(((w (n+1)).1.toNat:Nat):Int);omega) (by show(w (n+1)).2=top;omega)
def y9{top:Int}{x:Bfs.Pl}(ht:0<=top)(hx:ck m top x)(hx2:x.2=top){y:Bfs.Pl}(hy:y.2<=top):(∃n,Bfs.Rw (LB ws m.toNat top) n x y)↔bE ws x y:=by
 constructor
 ·rintro⟨n,h⟩;exact(Bu ok ht hx h).1
 ·rintro⟨n,h⟩;obtain⟨w,w0,wn,hS⟩:=h.fn;have:=An ok ht n w (by rw[w0];exact hx.1) (by rw[w0];exact hx.2.1) (by rw[w0];exact hx2) hS (by rw[wn];exact hy);rw[w0,wn]at this;exact this
def vd{x:Bfs.Pl}(hx:0<=x.1/\x.1<m/\0<=x.2){i r:Nat}(hi:x.2<=(i:Int)):bE ws x ((r:Int),((i+1:Nat):Int))↔∃p,p<m.toNat/\bE ws x ((p:Int),(i:Int))/\aV ws m.toNat p r:=by
 constructor
 ·rintro⟨n,h⟩;obtain⟨w,w0,wn,hS⟩:=h.fn;have hin:=nA ok (w:=w) (n:=n) (by rw[w0];exact hx) hS;have wn2:(w n).2=(i:Int)+1:=by rw[wn];show((i+1:Nat):Int)=_;omega
  obtain⟨u,hu,hul,hui⟩:=Bfs.jz (h:=λk=>(w k).2) (l:=(i:Int)) n (λk hk=>(eA ok (hS k hk) (hin k (by omega)).2.2).2.2.2.1) (by show(w 0).2<=(i:Int);rw[w0];exact hi) (by show(i:Int)<=(w n).2;omega)
  try dsimp only at hul hui
  have hun:u≠n:=λz=>by rw[z]at hul;omega
  have su:=hS u (by omega);have hu1:=hui (u+1) (by omega) (by omega);obtain⟨v,hv,ho,hw1⟩:=id su;have e1:(w (u+1)).1=v.other:=by rw[hw1]
  have e2:(w (u+1)).2=(w u).2+rz v.deed:=by rw[hw1]
  have hup:v.deed = "up"/\rz v.deed=1:=by
   rcases fX (ok v hv).dd ho with⟨hd,hz⟩|⟨_,hz⟩|⟨_,_,hz⟩|⟨_,_,hz⟩
   ·exact⟨hd,hz⟩
   ·omega
   ·omega
   ·omega
  have hin1:=hin (u+1) (by omega);have hinu:=hin u (by omega);have inner:=qX ok (n-(u+1)) w (u+1) ((i:Int)+1) (by omega) (λk hk1 hk2=>hS k (by omega)) (λk hk1 hk2=>by have:=hui k (by omega) (by omega);omega) (by omega) (by rw[show u+1+(n-(u+1))=n by omega];exact wn2) hin1.1 hin1.2.1;rw[show u+1+(n-(u+1))=n by omega,e1,show (w n).1.toNat=r by rw[wn];exact DB r]at inner;refine⟨(w u).1.toNat,by omega,⟨u,?_⟩,v,hv,hup.1,by rw[gh ho],inner⟩;have seg:=Bfs.wZ (S:=dm ws) (w:=w) (i:=0) (j:=u) (by omega) (λk _ hk=>hS k (by omega));rw[w0,Nat.sub_zero]at seg;have hwu:w u=((((w u).1.toNat:Nat):Int),(i:Int)):=Prod.ext (by show(w u).1=(((w u).1.toNat:Nat):Int);omega) hul;rw[hwu]at seg;exact seg
 ·rintro⟨p,hp,hr,v,hv,hd,hroom,hk⟩;have okv:=ok v hv;have r0:=okv.r0;have o0:=okv.o0;have st:dm ws ((p:Int),(i:Int)) (((v.other.toNat:Nat):Int),(i:Int)+1):=⟨v,hv,fb (by show v.room=((p:Nat):Int);omega) (.inl hd),by rw[hd,iU];exact Prod.ext (by show((v.other.toNat:Nat):Int)=v.other;omega) rfl⟩;have hs:=qN ok hk ((i:Int)+1) (by omega);have:=(hr.trans (.one st)).trans hs;rw[show ((i+1:Nat):Int)=(i:Int)+1 by omega];exact this
def wQ{x:Bfs.Pl}(hx:0<=x.1/\x.1<m/\0<=x.2){M:Nat->Nat->Bool}(hM:∀i r:Nat,(i:Int)<=x.2->(r:Int)<m->(M i r=true↔∃n,Bfs.Rw (LB ws m.toNat x.2) n x ((r:Int),(i:Int)))):∀i r:Nat,r<m.toNat->(eO m.toNat (aV ws m.toNat) x.2.toNat M i r=true↔bE ws x ((r:Int),(i:Int))):=by
 have hxT:ck m x.2 x:=⟨hx.1,hx.2.1,hx.2.2,Int.le_refl _⟩;have low:∀i r:Nat,(i:Int)<=x.2->r<m.toNat->(M i r=true↔bE ws x ((r:Int),(i:Int))):=λi r hi hr=>(hM i r hi (by omega)).trans (y9 ok hx.2.2 hxT rfl hi);have high:∀k r:Nat,r<m.toNat->(aZ m.toNat (aV ws m.toNat) (M x.2.toNat) k r=true↔bE ws x ((r:Int),((x.2.toNat+k:Nat):Int))):=by
  intro k;induction k with
  | zero=>exact λr hr=>low x.2.toNat r (by omega) hr
  | succ k ih=>
   intro r hr;show ic _ _ _ r=true↔_;rw[i8,show x.2.toNat+(k+1)=x.2.toNat+k+1 by omega,vd ok hx (by omega)];constructor
   ·rintro⟨i,hi,h1,h2⟩;exact⟨i,hi,(ih i hi).mp h1,h2⟩
   ·rintro⟨i,hi,h1,h2⟩;exact⟨i,hi,(ih i hi).mpr h1,h2⟩
 intro i r hr;unfold eO;by_cases hi:i<x.2.toNat
 ·rw[Eo hi];exact low i r (by omega) hr
 ·rw[En hi,high (i-x.2.toNat) r hr,show x.2.toNat+(i-x.2.toNat)=i by omega]
end
def qm(K:Dj):Sp:=λvs H Q _=>∃lq rs m F b N r,vs=[.ref lq,.int (b:Nat),.int (r:Nat)]/\Rows H lq rs m F/\rs.length=b+N/\1<=N/\b+N<=20000/\r<m/\aP (λi=>F i r) b N/\∀v (l d:Nat) H',Ext H H'->Least (λi=>F i r) d l->l<=b->d<=N->bt H' v l d (row (λi=>F i r) 0 l) (row (λi=>F i r) l d)->Q v H'
abbrev mC:Stmt:=stq 66
def pN:FnScope ["levels","base","room"] ["levels","base","room"] (aC mC):=⟨rfl,rfl,rfl,by decide +kernel,rfl,by decide +kernel,by decide +kernel⟩
def ya{P:Program}{w:World}{K:Dj}{mg:Str->Option Value}{base:Heap}(D:Dfn K mg "stair_of_room" mC ["levels","base","room"])(T:Blt mg)(C_stair_of_marks:Cal P w K mg base "stair_of_marks" 2 ["marks","base"] (jP K)):Cal P w K mg base "stair_of_room" 3 ["levels","base","room"] (qm K):=by
 have nd:=(pN).nd;refine D.ok pN (λvs H Q E h=>?_) (λX hX H vs Q E h=>?_)
 ·obtain⟨lq,rs,m,F,b,N,r,rfl,_⟩:=h;rfl
 ·obtain⟨f,cdv,A,outer,s,H0,E0,rfl,hr⟩:=hX;obtain⟨lq,rs,m,F,b,N,r,rfl,rows,hrl,hN,hbN,hr',hper,q⟩:=h;refine⟨_,(ao (aB (av C_stair_of_marks hr (aa (dZ ["level"] [2] (cV K (pv 0)) (λ_=>(aN (i:=0) (show(["level","room"]:List Str).Nodup from by decide +kernel) rfl (Or.inl rfl) (Or.inr rfl))) (λ_=>fF) (λ_=>(ai (aE K) (pv 0) (pv 1) (λ_ _=>rfl)))) (aa (pv 1) ae))))),?_⟩;walk_at"";refine cQ (ag.of rows.1) ?_;refine iM (xs:=List.map V.ref rs) (λi ys H'=>H'=H/\ys=aG i (λi=>F i r)) (DS (show(List.map V.ref rs).length<=20000 by rw[Dn];omega) (by decide)) ⟨rfl,rfl⟩ (λi ys H' _ h=>⟨by rw[h.1];exact ag.of rows.1,by rw[h.2,bp];exact DI _⟩) ?_ ?_
  ·rintro i v ys H1 hx ⟨rfl,rfl⟩;rw[Dr]at hx;obtain⟨a,ha,rfl⟩:=DA.mp hx;have hrow:=rows.2 i a ha;walk_at"";refine aI ?_;walk_at"";refine aD (ag.of hrow) (cY (by omega) (by omega)) ?_;rw[DB];refine⟨rfl,?_⟩;rw[ib]
  ·rintro ys H1 p9 ⟨hH,rfl⟩ hp9;subst hH;rw[Dn,hrl];have e1:=bJ (o:=.lst (aG (b+N) λi=>F i r)) hp9;have h9:(upd H1 p9 (.lst (aG (b+N) λi=>F i r))) p9=_:=aJ;generalize upd H1 p9 (.lst (aG (b+N) λi=>F i r))=H2 at e1 h9 ⊢;walk_at"";exact⟨p9,b,N,_,rfl,hN,hbN,h9,hper,λv l d H3 e3 hL hl hd hst=>q v l d H3 (e1.trans e3) hL hl hd hst⟩
def cX(H:Hp)(vs:List V)(m:Int)(ws:List Way)(x:Bfs.Pl):Prop:=(vs.length:Int)=m/\∀(r:Nat) (v:V),vs[r]?=some v->∃(F:Nat->Bool) (l d:Nat),bt H v l d (row F 0 l) (row F l d)/\Least F d l/\1<=d/\l+d<=5200/\∀i:Nat,F i=true↔bE ws x ((r:Int),(i:Int))
def cX.ext{H H':Hp}(e:Ext H H'){vs:List V}{m:Int}{ws:List Way}{x:Bfs.Pl}(h:cX H vs m ws x):cX H' vs m ws x:=⟨h.1,λr v hv=>by obtain⟨F,l,d,h1,h2⟩:=h.2 r v hv;exact⟨F,l,d,h1.ext e,h2⟩⟩
def rg(K:Dj):Sp:=λvs H Q _=>∃vh m ws pa x,vs=[vh,.ref pa]/\bx H vh m ws/\HOuse m ws/\aK H pa x/\f7 m x/\cR K/\Tbs K H/\∀l xs H',Et H H'->Tbs K H'->(∀o,H l=some o->∃ps,o=.tbl ps)->H' l=some (.lst xs)->cX H' xs m ws x->Q (.ref l) H'
abbrev nk:Stmt:=stq 67
def v7:FnScope ["house","place","told"] ["house","place"] (aC nk):=⟨rfl,rfl,rfl,by decide +kernel,rfl,by decide +kernel,by decide +kernel⟩
def Bx{P:Program}{w:World}{K:Dj}{mg:Str->Option Value}{base:Heap}(D:Dfn K mg "forward" nk ["house","place"])(T:Blt mg)(C_stair_of_room:Cal P w K mg base "stair_of_room" 3 ["levels","base","room"] (qm K))(C_all_levels:Cal P w K mg base "all_levels" 9 ["house","place"] (rY K))(C_refuse_bad_places:Cal P w K mg base "refuse_bad_places" 3 ["house","places"] (ug K))(C_refuse_no_house:Cal P w K mg base "refuse_no_house" 6 ["thing"] (kh K)):Cal P w K mg base "forward" 10 ["house","place"] (rg K):=by
 have nd:=(v7).nd;refine D.ok v7 (λvs H Q E h=>?_) (λX hX H vs Q E h=>?_)
 ·obtain⟨vh,m,ws,pa,x,rfl,_⟩:=h;rfl
 ·obtain⟨f,cdv,A,outer,s,H0,E0,rfl,hr⟩:=hX;obtain⟨vh,m,ws,pa,x,rfl,hv,ok,hpx,ix,dis,htb,q⟩:=h;have m1:=ok.m1;have m12:=ok.m12;refine⟨_,(ah (aX (av C_refuse_no_house hr (aa (pv 0) ae)))
    (ah (aX (av C_refuse_bad_places hr (aa (pv 0) (aa (bw (aa (pv 1) ae)) ae))))
    (ah (aA (i:=2) nd rfl (Or.inr rfl) (av C_all_levels hr (aa (pv 0) (aa (pv 1) ae))))
    (ao (aB (dZ ["room"] [2] (cx rfl T.range_ (aa (ai (ay K) (pv 0) af (λ_ _=>rfl)) ae)) (λ_=>(aN (i:=0) (show(["room","told"]:List Str).Nodup from by decide +kernel) rfl (Or.inl rfl) (Or.inr rfl))) (λ_=>fF) (λ_=>(av C_stair_of_room hr (aa (ai (ay K) (pv 1) af (λ_ _=>rfl)) (aa (ai (ay K) (pv 1) af (λ_ _=>rfl)) (aa (pv 0) ae))))))))))),?_⟩
  walk_at"";refine⟨vh,m,ws,rfl,hv,ok,λH1 e1=>?_⟩;obtain⟨hp0,hq0,hvr,hh,_⟩:=id (hv.ext e1);subst hvr;walk_at"";refine aH λpl H2 e2 hpl _=>?_;have e02:=e1.trans e2;walk_at"";refine⟨hp0,.ref hq0,m,pl,[pa],[x],rfl,e2 _ _ hh,hpl,.cons (e02 _ _ hpx) .nil,λy hy=>by rw[Dz.mp hy];exact ix,?_⟩;walk_at"";refine⟨.ref hp0,m,ws,pa,x,rfl,hv.ext e02,ok,e02 _ _ hpx,ix,dis,htb.ext e02,λp lq rs b N M H3 e3 tb3 hp rows hrl hN hbN hper hM=>?_⟩;have hiff:=wQ ok.ok ⟨ix.1,ix.2.1,ix.2.2.1⟩ hM;generalize eO m.toNat (aV ws m.toNat) x.2.toNat M=F at rows hper hiff;have hh3:H3 hp0=some (.tup [.int m,.ref hq0]):=e3 _ _ (e2 _ _ hh) (λps z=>by cases z);walk_at"";refine az (aj.of hh3) (v:=.int m) rfl ?_;walk_at"";refine cq (by omega) ?_;refine fo (λi ys H'=>Ext H3 H'/\ys.length=i/\∀(r:Nat) (v:V),ys[r]?=some v->∃(F:Nat->Bool) (l d:Nat),bt H' v l d (row F 0 l) (row F l d)/\Least F d l/\1<=d/\l+d<=5200/\∀i:Nat,F i=true↔bE ws x ((r:Int),(i:Int))) (bD (by omega)) ⟨Ext.rfl' _,rfl,λr v h=>by simp at h⟩ (λi ys H' _ h=>Nat.le_of_eq h.2.1) ?_ ?_
  ·rintro i ys H4 hi ⟨e4,hyl,hys⟩;rw[show (0:Int)+(i:Int)=((i:Nat):Int) by omega];have hp4:=e4 _ _ hp;walk_at"";refine aI ?_;walk_at"";refine az (aj.of hp4) (v:=.ref lq) rfl ?_;walk_at"";refine az (aj.of hp4) (v:=.int (b:Nat)) rfl ?_;walk_at"";refine⟨lq,rs,m.toNat,F,b,N,i,rfl,rows.ext e4,hrl,hN,by omega,hi,hper i hi,λv l d H5 e5 hL hl hd hst=>?_⟩;refine⟨e4.trans e5,by rw[DG,hyl];rfl,λr v' hv'=>?_⟩;by_cases hrl2:r<ys.length
   ·rw[DN hrl2]at hv';obtain⟨F',l',d',a1,a2⟩:=hys r v' hv';exact⟨F',l',d',a1.ext e5,a2⟩
   ·rw[DM (by omega)]at hv';have hz:r-ys.length=0:=by have:=(Dx.mp hv').1;simp at this;omega
    rw[hz]at hv';cases hv';have hri:r=i:=by omega
    subst hri;exact⟨λj=>F j r,l,d,hst,hL,hL.pos,by omega,λj=>hiff j r hi⟩
  ·rintro ys H4 p9 ⟨e4,hyl,hys⟩ hp9;have e5:=bJ (o:=.lst ys) hp9;have e35:=e4.trans e5;walk_at"";refine q p9 ys _ ((e02.et.trans e3).trans e35.et) (tb3.ext e35) (λo ho=>Classical.byContradiction λz=>by have:=((e02.et.trans e3).trans e4.et) p9 o ho λps w=>z ⟨ps,w⟩;rw[hp9]at this;cases this) aJ ⟨by omega,λr v hv=>?_⟩
   obtain⟨F',l',d',a1,a2⟩:=hys r v hv;exact⟨F',l',d',a1.ext e5,a2⟩
def wm{m:Int}{ws:List Way}(ok:∀w∈ws,w.Ok m){p r:Nat}(h:aV ws m.toNat p r):p<m.toNat/\r<m.toNat:=by obtain⟨v,hv,hd,hroom,hk⟩:=h;have:=Kpt.lt ok hk;have r1:=(ok v hv).r1;have r0:=(ok v hv).r0;omega
def rf{m:Int}{ws:List Way}(ok:∀w∈ws,w.Ok m){x:Bfs.Pl}(hx:0<=x.1/\x.1<m/\0<=x.2):∀k r:Nat,r<m.toNat->(bE ws x ((r:Int),((x.2.toNat+k:Nat):Int))↔∃s,s<m.toNat/\bE ws x ((s:Int),x.2)/\Rnd.Wg (aV ws m.toNat) k s r):=by
 intro k;induction k with
 | zero=>
  intro r hr;rw[show ((x.2.toNat+0:Nat):Int)=x.2 by omega];constructor
  ·exact λh=>⟨r,hr,h,.nil⟩
  ·rintro⟨s,_,h,w⟩;cases w;exact h
 | succ k ih=>
  intro r hr;rw[show x.2.toNat+(k+1)=x.2.toNat+k+1 by omega,vd ok hx (by omega)];constructor
  ·rintro⟨p,hp,h,hs⟩;obtain⟨s,h1,h2,h3⟩:=(ih p hp).mp h;exact⟨s,h1,h2,.snoc h3 hs⟩
  ·rintro⟨s,h1,h2,h3⟩;cases h3 with
   | @snoc _ _ p _ h3 hs=>
    have:=wm ok hs;exact⟨p,this.1,(ih p this.1).mpr ⟨s,h1,h2,h3⟩,hs⟩
def cX.near{H:Hp}{xs:List V}{m:Int}{ws:List Way}{x:Bfs.Pl}(h:cX H xs m ws x)(ok:HOuse m ws)(ix:f7 m x):∃P,1<=P/\P<=81/\∀(r:Nat) (v:V),xs[r]?=some v->∃(F:Nat->Bool) (l d:Nat),bt H v l d (row F 0 l) (row F l d)/\Least F d l/\1<=d/\d ∣ P/\l<=1288/\∀i:Nat,F i=true↔bE ws x ((r:Int),(i:Int)):=by
 have m1:=ok.m1;have m12:=ok.m12;obtain⟨ix0,ix1,ix2,ix3⟩:=ix;have hn:m.toNat<=12:=by omega
 obtain⟨P,hP1,hP81,hP⟩:=Rnd.round (n:=m.toNat) (A:=aV ws m.toNat) (λi j h=>wm ok.ok h) hn;have hnn:m.toNat*m.toNat<=12*12:=Nat.mul_le_mul hn hn;have hn1:m.toNat<=m.toNat*m.toNat:=Nat.le_mul_of_pos_right _ (by omega);refine⟨P,hP1,hP81,λr v hv=>?_⟩;obtain⟨F,l,d,hst,hL,hd,_,hF⟩:=h.2 r v hv;have hr:r<m.toNat:=by have:=(Dx.mp hv).1;have:=h.1;omega
 have per:aP F (x.2.toNat+288) P:=λy hy=>by
  obtain⟨k,rfl⟩:∃k,y=x.2.toNat+k:=⟨y-x.2.toNat,by omega⟩;rw[DW,hF,hF,show x.2.toNat+k+P=x.2.toNat+(k+P) by omega,rf ok.ok ⟨ix0,ix1,ix2⟩ _ r hr,rf ok.ok ⟨ix0,ix1,ix2⟩ _ r hr];constructor
  ·rintro⟨s,h1,h2,h3⟩;exact⟨s,h1,h2,hP s r (k+P) k h1 (by omega) (by omega) (Nat.add_mod_right k P) h3⟩
  ·rintro⟨s,h1,h2,h3⟩;exact⟨s,h1,h2,hP s r k (k+P) h1 (by omega) (by omega) (Nat.add_mod_right k P).symm h3⟩
 obtain⟨hdP,hl⟩:=Rnd.oQ hL hP1 per;exact⟨F,l,d,hst,hL,hd,hdP,by omega,hF⟩
structure Gd(b s:Int)(o a:List Int):Prop where
 ok:Ok b s o a
 b3:b<=3000
 s8:s<=840
def q9{lo hi x:Int}{r:List Int}:fG lo hi (x::r)↔lo<=x/\x<hi/\fG (x+1) hi r:=by
 constructor
 ·rintro⟨h1,h2⟩;obtain⟨p1,p2⟩:=List.pairwise_cons.mp h1;have hx:=h2 x Dv;exact⟨hx.1,hx.2,p2,λz hz=>⟨by have:=p1 z hz;omega,(h2 z (Ds _ hz)).2⟩⟩
 ·rintro⟨h1,h2,h3,h4⟩;refine⟨List.pairwise_cons.mpr ⟨λz hz=>by have:=h4 z hz;omega,h3⟩,λz hz=>?_⟩;rcases DD.mp hz with rfl|hz
  ·exact⟨h1,h2⟩
  ·have:=h4 z hz;exact⟨by omega,this.2⟩
def ph(K:Dj):Sp:=λvs H Q _=>∃(p:Addr) (lo hi:Int) (xs:List Int),vs=[.ref p,.int lo,.int hi]/\H p=some (.tup (xs.map V.int))/\fG lo hi xs/\Q (.bl true) H
abbrev lJ:Stmt:=stq 11
def vt:FnScope ["thing","low","end","lowest","number"] ["thing","low","end"] (aC lJ):=⟨rfl,rfl,rfl,by decide +kernel,rfl,by decide +kernel,by decide +kernel⟩
def yb{P:Program}{w:World}{K:Dj}{mg:Str->Option Value}{base:Heap}(D:Dfn K mg "is_rising_row" lJ ["thing","low","end"])(T:Blt mg)(C_is_whole:Cal P w K mg base "is_whole" 1 ["thing"] (i5 K)):Cal P w K mg base "is_rising_row" 2 ["thing","low","end"] (ph K):=by
 have nd:=(vt).nd;refine D.ok vt (λvs H Q E h=>?_) (λX hX H vs Q E h=>?_)
 ·obtain⟨p,lo,hi,xs,rfl,_⟩:=h;rfl
 ·obtain⟨f,cdv,A,outer,s,H0,E0,rfl,hr⟩:=hX;obtain⟨p,lo,hi,xs,rfl,hp,hri,q⟩:=h;refine⟨_,(ah (bq (cK (bH (br eV rfl T.isinstance_ PyProof.Rows.boot_isinstance (aa (pv 0) (aa (eI (v:=.ty "tuple") rfl T.tuple_ PyProof.Rows.boot_tuple rfl) ae))))) (ao (aB bA)) aT)
    (ah (aA (i:=3) nd rfl (Or.inl rfl) (pv 1))
    (ah (bG PassesOwn.never rfl (fQ K (pv 0)) (aN (i:=4) nd rfl (Or.inl rfl)) (ah (bq (PW.pt (dh (cK (bH (av C_is_whole hr (aa (pv 4) ae)))) (dh (aR dC (pv 4) (pv 3) (aM _)) (eW (aR lB (pv 4) (pv 2) (aM _)))))) (ao (aB bA)) aT)
    (ao (aA (i:=3) nd rfl (Or.inl rfl) (aq aS (pv 4) af)))))
    (ao (aB bA))))),?_⟩
  walk_at"";refine eJ (n:="tuple") (.inr ⟨rfl,_,hp⟩) (b:=true) rfl ?_;walk_at"";refine aF ?_;walk_at"";refine fN (aj.of hp) ?_;refine iD (xs:=xs.map V.int) (λi σ H'=>H'=H/\∃lw w,σ=[some (.ref p),some (.int lo),some (.int hi),some (.int lw),w]/\fG lw hi (xs.drop i))
   ⟨rfl,lo,none,rfl,hri⟩ (λi σ H' _ h=>by rw[h.1];exact aj.of hp) ?_ ?_
  ·rintro i u σ H' hu ⟨rfl,lw,w,rfl,e⟩;obtain⟨x,rfl,hx⟩:=oW hu;have hd:xs.drop i=x::xs.drop (i+1):=by obtain⟨hi',rfl⟩:=Dx.mp hx;exact List.drop_eq_getElem_cons hi'
   rw[hd]at e;obtain⟨h1,h2,h3⟩:=q9.mp e;walk_at"";refine⟨_,"int",rfl,rfl,?_⟩;walk_at"";refine aF ?_;walk_at"";rw[El (show ¬x<lw by omega)];refine aF ?_;walk_at"";rw[El (show ¬hi<=x by omega)];refine aF ?_;walk_at"";exact⟨rfl,_,_,rfl,h3⟩
  ·rintro σ H' ⟨rfl,lw,w,rfl,_⟩;walk_at"";exact q
def sL(K:Dj):Sp:=λvs H Q _=>∃(b s:Int) (o a:List Int) (q r:Addr),vs=[.int b,.int s,.ref q,.ref r]/\H q=some (.tup (o.map V.int))/\H r=some (.tup (a.map V.int))/\Ok b s o a/\Q (.bl true) H
abbrev oh:Stmt:=stq 12
def se:FnScope ["base","step","once","again"] ["base","step","once","again"] (aC oh):=⟨rfl,rfl,rfl,by decide +kernel,rfl,by decide +kernel,by decide +kernel⟩
def As{P:Program}{w:World}{K:Dj}{mg:Str->Option Value}{base:Heap}(D:Dfn K mg "are_stair_places" oh ["base","step","once","again"])(T:Blt mg)(C_is_rising_row:Cal P w K mg base "is_rising_row" 2 ["thing","low","end"] (ph K))(C_is_whole:Cal P w K mg base "is_whole" 1 ["thing"] (i5 K)):Cal P w K mg base "are_stair_places" 3 ["base","step","once","again"] (sL K):=by
 have nd:=(se).nd;refine D.ok se (λvs H Q E h=>?_) (λX hX H vs Q E h=>?_)
 ·obtain⟨b,s,o,a,q,r,rfl,_⟩:=h;rfl
 ·obtain⟨f,cdv,A,outer,s,H0,E0,rfl,hr⟩:=hX;obtain⟨b,s',o,a,q',r,rfl,h2,h3,hok,q⟩:=h;have hb:=hok.hb;have hs:=hok.hs;refine⟨_,(ah (bq (PW.pt (dh (cK (bH (av C_is_whole hr (aa (pv 0) ae)))) (dh (cK (bH (av C_is_whole hr (aa (pv 1) ae)))) (dh (aR dC (pv 0) af (aM _)) (eW (aR dC (pv 1) af (aM _))))))) (ao (aB bA)) aT)
    (ao (aB (cW (av C_is_rising_row hr (aa (pv 2) (aa af (aa (pv 0) ae)))) (cM (av C_is_rising_row hr (aa (pv 3) (aa (pv 0) (aa (aq aS (pv 0) (pv 1)) ae))))))))),?_⟩
  walk_at"";refine⟨_,"int",rfl,rfl,?_⟩;walk_at"";refine aF ?_;walk_at"";refine⟨_,"int",rfl,rfl,?_⟩;walk_at"";refine aF ?_;walk_at"";rw[El (show ¬b<0 by omega)];refine aF ?_;walk_at"";rw[El (show ¬s'<1 by omega)];refine aF ?_;walk_at"";refine⟨q',_,_,o,rfl,h2,hok.ho,?_⟩;walk_at"";refine aI ?_;walk_at"";exact⟨r,_,_,a,rfl,h3,hok.ha,q⟩
def wu(K:Dj):Sp:=λvs H Q _=>∃v b s o a,vs=[v]/\bt H v b s o a/\Ok b s o a/\Q (.bl true) H
abbrev kN:Stmt:=stq 13
def vJ:FnScope ["thing"] ["thing"] (aC kN):=⟨rfl,rfl,rfl,by decide +kernel,rfl,by decide +kernel,by decide +kernel⟩
def Ad{P:Program}{w:World}{K:Dj}{mg:Str->Option Value}{base:Heap}(D:Dfn K mg "is_stair" kN ["thing"])(T:Blt mg)(C_are_stair_places:Cal P w K mg base "are_stair_places" 3 ["base","step","once","again"] (sL K)):Cal P w K mg base "is_stair" 4 ["thing"] (wu K):=by
 have nd:=(vJ).nd;refine D.ok vJ (λvs H Q E h=>?_) (λX hX H vs Q E h=>?_)
 ·obtain⟨v,b,s,o,a,rfl,_⟩:=h;rfl
 ·obtain⟨f,cdv,A,outer,s,H0,E0,rfl,hr⟩:=hX;obtain⟨v,b,s',o,a,rfl,⟨p,q',r,rfl,h1,h2,h3⟩,hok,q⟩:=h;refine⟨_,(ah (bq (PW.pt (dh (cK (bH (br eV rfl T.isinstance_ PyProof.Rows.boot_isinstance (aa (pv 0) (aa (eI (v:=.ty "tuple") rfl T.tuple_ PyProof.Rows.boot_tuple rfl) ae))))) (eW (aR fM (br (cZ K) rfl T.len_ PySem.boot_len (aa (pv 0) ae)) af (aM _))))) (ao (aB bA)) aT)
    (ao (aB (av C_are_stair_places hr (aa (ai (ay K) (pv 0) af (λ_ _=>rfl)) (aa (ai (ay K) (pv 0) af (λ_ _=>rfl)) (aa (ai (ay K) (pv 0) af (λ_ _=>rfl)) (aa (ai (ay K) (pv 0) af (λ_ _=>rfl)) ae)))))))),?_⟩
  walk_at"";refine eJ (n:="tuple") (.inr ⟨rfl,_,h1⟩) (b:=true) rfl ?_;walk_at"";refine aF ?_;walk_at"";refine jb (aj.of h1) ?_;walk_at"";refine aF ?_;walk_at"";refine az (aj.of h1) rfl ?_;walk_at"";refine az (aj.of h1) rfl ?_;walk_at"";refine az (aj.of h1) rfl ?_;walk_at"";refine az (aj.of h1) rfl ?_;walk_at"";exact⟨b,s',o,a,q',r,rfl,h2,h3,hok,q⟩
def oH(K:Dj):Sp:=λvs H Q _=>∃v b s o a,vs=[v]/\bt H v b s o a/\Ok b s o a/\Q .non H
abbrev lx:Stmt:=stq 14
def uW:FnScope ["thing"] ["thing"] (aC lx):=⟨rfl,rfl,rfl,by decide +kernel,rfl,by decide +kernel,by decide +kernel⟩
def wR{P:Program}{w:World}{K:Dj}{mg:Str->Option Value}{base:Heap}(D:Dfn K mg "refuse_no_stair" lx ["thing"])(T:Blt mg)(C_is_stair:Cal P w K mg base "is_stair" 4 ["thing"] (wu K)):Cal P w K mg base "refuse_no_stair" 5 ["thing"] (oH K):=by
 have nd:=(uW).nd;refine D.ok uW (λvs H Q E h=>?_) (λX hX H vs Q E h=>?_)
 ·obtain⟨v,b,s,o,a,rfl,_⟩:=h;rfl
 ·obtain⟨f,cdv,A,outer,s,H0,E0,rfl,hr⟩:=hX;obtain⟨v,b,s',o,a,rfl,hv,hok,q⟩:=h;refine⟨_,(ao (bq (cK (bH (av C_is_stair hr (aa (pv 0) ae)))) (ao fh) aT)),?_⟩;walk_at"";refine⟨v,b,s',o,a,rfl,hv,hok,?_⟩;walk_at"";exact aF q
def ou(K:Dj):Sp:=λvs H Q _=>∃v b s o a,vs=[v]/\bt H v b s o a/\b<=3000/\s<=840/\Q .non H
abbrev md:Stmt:=stq 15
def u9:FnScope ["stair"] ["stair"] (aC md):=⟨rfl,rfl,rfl,by decide +kernel,rfl,by decide +kernel,by decide +kernel⟩
def zX{P:Program}{w:World}{K:Dj}{mg:Str->Option Value}{base:Heap}(D:Dfn K mg "refuse_great_stair" md ["stair"])(T:Blt mg)(g_GREATEST_STEP:∃t,mg "GREATEST_STEP" = some (.int 840 t))(g_GREATEST_BASE:∃t,mg "GREATEST_BASE" = some (.int 3000 t)):Cal P w K mg base "refuse_great_stair" 1 ["stair"] (ou K):=by
 have nd:=(u9).nd;refine D.ok u9 (λvs H Q E h=>?_) (λX hX H vs Q E h=>?_)
 ·obtain⟨v,b,s,o,a,rfl,_⟩:=h;rfl
 ·obtain⟨f,cdv,A,outer,s,H0,E0,rfl,hr⟩:=hX;obtain⟨t_GREATEST_STEP,c_GREATEST_STEP⟩:=g_GREATEST_STEP;obtain⟨t_GREATEST_BASE,c_GREATEST_BASE⟩:=g_GREATEST_BASE;obtain⟨v,b,s',o,a,rfl,⟨p,q',r,rfl,h1,h2,h3⟩,hb,hs,q⟩:=h;refine⟨_,(ah (bq (aR eB (ai (ay K) (pv 0) af (λ_ _=>rfl)) (gn (v:=.int 3000) rfl c_GREATEST_BASE ⟨_,rfl⟩) (aM _)) (ao fh) aT)
    (ao (bq (aR eB (ai (ay K) (pv 0) af (λ_ _=>rfl)) (gn (v:=.int 840) rfl c_GREATEST_STEP ⟨_,rfl⟩) (aM _)) (ao fh) aT))),?_⟩
  walk_at"";refine az (aj.of h1) rfl ?_;walk_at"";rw[El (show ¬3000<b by omega)];refine aF ?_;walk_at"";refine az (aj.of h1) rfl ?_;walk_at"";rw[El (show ¬840<s' by omega)];exact aF q
def j7(K:Dj):Sp:=λvs H Q _=>∃v b s o a,vs=[v]/\bt H v b s o a/\Gd b s o a/\Q .non H
abbrev mO:Stmt:=stq 16
def sN:FnScope ["thing"] ["thing"] (aC mO):=⟨rfl,rfl,rfl,by decide +kernel,rfl,by decide +kernel,by decide +kernel⟩
def Ab{P:Program}{w:World}{K:Dj}{mg:Str->Option Value}{base:Heap}(D:Dfn K mg "refuse_bad_stair" mO ["thing"])(T:Blt mg)(C_refuse_great_stair:Cal P w K mg base "refuse_great_stair" 1 ["stair"] (ou K))(C_refuse_no_stair:Cal P w K mg base "refuse_no_stair" 5 ["thing"] (oH K)):Cal P w K mg base "refuse_bad_stair" 6 ["thing"] (j7 K):=by
 have nd:=(sN).nd;refine D.ok sN (λvs H Q E h=>?_) (λX hX H vs Q E h=>?_)
 ·obtain⟨v,b,s,o,a,rfl,_⟩:=h;rfl
 ·obtain⟨f,cdv,A,outer,s,H0,E0,rfl,hr⟩:=hX;obtain⟨v,b,s',o,a,rfl,hv,hg,q⟩:=h;refine⟨_,(ah (aX (av C_refuse_no_stair hr (aa (pv 0) ae)))
    (ao (aX (av C_refuse_great_stair hr (aa (pv 0) ae))))),?_⟩
  walk_at"";refine⟨v,b,s',o,a,rfl,hv,hg.ok,?_⟩;walk_at"";exact⟨v,b,s',o,a,rfl,hv,hg.b3,hg.s8,q⟩
def jx(x:Int)(xs:List Int):ip (.int x) (xs.map V.int)=xs.contains x:=by
 unfold ip;rw[List.any_map,DW,DV,List.contains_iff_mem];constructor
 ·rintro⟨y,hy,e⟩;have e':(y == x)=true:=e;rw[←(by simpa using e':y=x)];exact hy
 ·intro hx;exact⟨x,hx,by show(x == x)=true;simp⟩
def kq(xs:List Int):(xs.map V.int).all dG=true:=by rw[List.all_map,DU];intro x _;rfl
def uP(K:Dj):Sp:=λvs H Q _=>∃v x b s o a,vs=[v,.int x]/\bt H v b s o a/\Gd b s o a/\Q (.bl (mem b s o a x)) H
abbrev lh:Stmt:=stq 20
def vT:FnScope ["stair","x","base"] ["stair","x"] (aC lh):=⟨rfl,rfl,rfl,by decide +kernel,rfl,by decide +kernel,by decide +kernel⟩
def Am{P:Program}{w:World}{K:Dj}{mg:Str->Option Value}{base:Heap}(D:Dfn K mg "holds" lh ["stair","x"])(T:Blt mg)(C_refuse_bad_stair:Cal P w K mg base "refuse_bad_stair" 6 ["thing"] (j7 K)):Cal P w K mg base "holds" 7 ["stair","x"] (uP K):=by
 have nd:=(vT).nd;refine D.ok vT (λvs H Q E h=>?_) (λX hX H vs Q E h=>?_)
 ·obtain⟨v,x,b,s,o,a,rfl,_⟩:=h;rfl
 ·obtain⟨f,cdv,A,outer,s,H0,E0,rfl,hr⟩:=hX;obtain⟨v,x,b,s',o,a,rfl,hv,hg,q⟩:=h;have hs:=hg.ok.hs;refine⟨_,(ah (aX (av C_refuse_bad_stair hr (aa (pv 0) ae)))
    (ah (aA (i:=2) nd rfl (Or.inl rfl) (ai (ay K) (pv 0) af (λ_ _=>rfl)))
    (ah (bq (aR dC (pv 1) (pv 2) (aM _)) (ao (aB (cE (j5 K) (pv 1) (ai (ay K) (pv 0) af (λ_ _=>rfl)) (by with_unfolding_all rfl)))) aT)
    (ao (aB (cE (j5 K) (aq aS (pv 2) (aq bN (aq cH (pv 1) (pv 2)) (ai (ay K) (pv 0) af (λ_ _=>rfl)))) (ai (ay K) (pv 0) af (λ_ _=>rfl)) (by with_unfolding_all rfl))))))),?_⟩
  walk_at"";refine⟨v,b,s',o,a,rfl,hv,hg,?_⟩;obtain⟨p,q',r,rfl,h1,h2,h3⟩:=hv;walk_at"";refine az (aj.of h1) rfl ?_;walk_at"";by_cases hx:x<b
  ·rw[Em hx];refine aI ?_;walk_at"";refine az (aj.of h1) rfl ?_;walk_at"";refine ky (.inr (aj.of h2)) rfl (kq o) ?_;rw[jT _ hx]at q;rw[jx];exact q
  ·rw[El hx];refine aF ?_;walk_at"";refine az (aj.of h1) rfl ?_;walk_at"";refine az (aj.of h1) rfl ?_;walk_at"";refine ky (.inr (aj.of h3)) rfl (kq a) ?_;rw[ia _ (by omega)]at q;rw[jx];exact q
def Bi{x n s:Int}(hs:1<=s){i:Nat}(h:i<dn x n s):x+i*s<n:=by
 unfold dn at h;rw[Eo (by omega)]at h;split at h
 ·have h1:(i:Int)<=(n-x-1) / s:=by have:0<=(n-x-1) / s:=Int.ediv_nonneg (by omega) (by omega);omega
  have h2:(i:Int)*s<=(n-x-1) / s*s:=Int.mul_le_mul_of_nonneg_right h1 (by omega);have h3:=Int.ediv_mul_le (n-x-1) (b:=s) (by omega);omega
 ·omega
def yT{x n s y:Int}(hs:1<=s)(h1:x<=y)(h2:y<n)(h3:(y-x) % s=0):∃i:Nat,i<dn x n s/\y=x+i*s:=by
 have hm:=Int.mul_ediv_add_emod (y-x) s;rw[h3]at hm;have hq:0<=(y-x) / s:=Int.ediv_nonneg (by omega) (by omega);refine⟨((y-x) / s).toNat,?_,?_⟩
 ·unfold dn;rw[Eo (by omega),Eo (by omega)];have:(y-x) / s<=(n-x-1) / s:=Int.ediv_le_ediv (by omega) (by omega);omega
 ·rw[DC hq,Int.mul_comm];omega
def je(s:Int)(o a:List Int)(y:Nat):Bool:=o.contains (y:Int) || a.any λx=>decide (x<=(y:Int)) && ((y:Int)-x) % s == 0
def yl{b s:Int}{o a:List Int}(S:Ok b s o a)(y:Nat):je s o a y=fn b s o a y:=Cg S (by omega)
def nG(K:Dj):Sp:=λvs H Q _=>∃v n b s o a,vs=[v,.int n]/\bt H v b s o a/\Gd b s o a/\0<=n/\n<=20000 ∧
 ∀q H',Ext H H'->H q=none->H' q=some (.lst (aG n.toNat (fn b s o a)))->Q (.ref q) H'
abbrev oU:Stmt:=stq 17
def wq:FnScope ["stair","end","marks","number","later"] ["stair","end"] (aC oU):=⟨rfl,rfl,rfl,by decide +kernel,rfl,by decide +kernel,by decide +kernel⟩
def By{P:Program}{w:World}{K:Dj}{mg:Str->Option Value}{base:Heap}(D:Dfn K mg "marks_below" oU ["stair","end"])(T:Blt mg):Cal P w K mg base "marks_below" 1 ["stair","end"] (nG K):=by
 have nd:=(wq).nd;refine D.ok wq (λvs H Q E h=>?_) (λX hX H vs Q E h=>?_)
 ·obtain⟨v,n,b,s,o,a,rfl,_⟩:=h;rfl
 ·obtain⟨f,cdv,A,outer,s,H0,E0,rfl,hr⟩:=hX;obtain⟨v,n,b,s',o,a,rfl,hv,hg,hn0,hn1,q⟩:=h;obtain⟨p,q',r,rfl,h1,h2,h3⟩:=hv;have hs:=hg.ok.hs;have hs8:=hg.s8;have hb0:=hg.ok.hb;have hb3:=hg.b3;refine⟨_,(ah (aA (i:=2) nd rfl (Or.inl rfl) (aq i7 (bw (aa bA ae)) (pv 1)))
    (ah (bG PassesOwn.never rfl (fQ K (ai (ay K) (pv 0) af (λ_ _=>rfl))) (aN (i:=3) nd rfl (Or.inl rfl)) (ao (cN (aR dC (pv 3) (pv 1) (aM _)) (ao (eQ bA (fV (pv 2) (pv 3) set_list))) aT)))
    (ah (bG PassesOwn.never rfl (fQ K (ai (ay K) (pv 0) af (λ_ _=>rfl))) (aN (i:=3) nd rfl (Or.inl rfl)) (ao (bG PassesOwn.never rfl (wW rfl T.range_ (aa (pv 3) (aa (pv 1) (aa (ai (ay K) (pv 0) af (λ_ _=>rfl)) ae)))) (aN (i:=4) nd rfl (Or.inl rfl)) (ao (eQ bA (fV (pv 2) (pv 4) set_list))))))
    (ao (aB (pv 2)))))),?_⟩
  walk_at"";refine aH λm H1 e1 hm _=>?_;walk_at"";refine i4 hm (by omega) (bD (by simp;omega)) (bP λm2 H2 e2 hm2 hn2=>?_);rw[jh]at hm2;have e12:Ext H H2:=e1.trans e2;have hmn:H m2=none:=e1.none hn2;walk_at"";refine az (aj.of (e12 _ _ h1)) rfl ?_;walk_at"";refine fN (aj.of (e12 _ _ h2)) ?_;refine iD (xs:=o.map V.int) (λi σ H'=>Ext H H'/\∃x,σ=[some (.ref p),some (.int n),some (.ref m2),x,none]/\H' m2=some (.lst (aG n.toNat λy=>(o.take i).contains (y:Int))))
   ⟨e12,none,rfl,by simpa using hm2⟩ (λi σ H' _ h=>aj.of (h.1 _ _ h2)) ?_ ?_
  ·rintro i v' σ H' hi ⟨e,x,rfl,hm'⟩;obtain⟨z,rfl,hz⟩:=oW hi;have hz0:=(hg.ok.ho.2 z (Dy hz));have htake:o.take (i+1)=o.take i++[z]:=by rw[List.take_add_one,hz];rfl
   walk_at"";refine ft (λσ' H'=>Ext H H'/\∃x,σ'=[some (.ref p),some (.int n),some (.ref m2),x,none]/\H' m2=some (.lst (aG n.toNat λy=>(o.take (i+1)).contains (y:Int)))) ?_ (λ_ _ h=>h);walk_at"";by_cases hzn:z<n
   ·rw[Em hzn];refine aI ?_;walk_at"";refine fJ hm' (fI (by omega) (by rw[bp];omega)) ?_;rw[iP _ _ (by omega)];refine⟨cJ e hmn,_,rfl,?_⟩;rw[aJ];congr 2;refine b6 λy hy=>?_;rw[htake,List.contains_append];by_cases hyz:y=z.toNat
    ·rw[Eo hyz];have:(y:Int)=z:=by omega
     rw[this];simp
    ·rw[En hyz];have:[z].contains (y:Int)=false:=by rw[Bool.eq_false_iff];intro hc;rw[List.contains_iff_mem,Dz]at hc;omega
     rw[this,Bool.or_false]
   ·rw[El hzn];refine aF ?_;walk_at"";refine⟨e,_,rfl,?_⟩;rw[hm'];congr 2;refine b6 λy hy=>?_;rw[htake,List.contains_append];have:[z].contains (y:Int)=false:=by rw[Bool.eq_false_iff];intro hc;rw[List.contains_iff_mem,Dz]at hc;omega
    rw[this,Bool.or_false]
  ·rintro σ H3 ⟨e3,x,rfl,hm3⟩;rw[Dn,DQ]at hm3;walk_at"";refine az (aj.of (e3 _ _ h1)) rfl ?_;walk_at"";refine fN (aj.of (e3 _ _ h3)) ?_;refine iD (xs:=a.map V.int) (λi σ H'=>Ext H H'/\∃x y,σ=[some (.ref p),some (.int n),some (.ref m2),x,y]/\H' m2=some (.lst (aG n.toNat (je s' o (a.take i)))))
    ⟨e3,_,_,rfl,by rw[hm3];congr 2;exact b6 λy _=>by simp[je]⟩ (λi σ H' _ h=>aj.of (h.1 _ _ h3)) ?_ ?_
   ·rintro i v' σ H' hi ⟨e,x,y,rfl,hm'⟩;obtain⟨z,rfl,hz⟩:=oW hi;have hz0:=(hg.ok.ha.2 z (Dy hz));have htake:a.take (i+1)=a.take i++[z]:=by rw[List.take_add_one,hz];rfl
    walk_at"";refine az (aj.of (e _ _ h1)) rfl ?_;walk_at"";refine BD (by unfold ie;omega) ?_;refine zo (λj σ H'=>Ext H H'/\∃y,σ=[some (.ref p),some (.int n),some (.ref m2),some (.int z),y]/\H' m2=some (.lst (aG n.toNat λy=>je s' o (a.take i) y || (Ek j).any λk=>decide ((y:Int)=z+(k:Nat)*s'))))
     ⟨e,_,rfl,by rw[hm'];congr 2;exact b6 λy _=>by simp⟩ ?_ ?_
    ·rintro j σ H'' hj ⟨e',y',rfl,hm''⟩;have hlt:=Bi hs hj;have hge:0<=(j:Int)*s':=Int.mul_nonneg (by omega) (by omega);walk_at"";refine fJ hm'' (fI (by omega) (by rw[bp];omega)) ?_;rw[iP _ _ (by omega)];refine⟨cJ e' hmn,_,rfl,?_⟩;rw[aJ];congr 2;refine b6 λy hy=>?_;rw[List.range_succ,List.any_append];by_cases hyz:y=(z+(j:Int)*s').toNat
     ·rw[Eo hyz];have:(y:Int)=z+(j:Nat)*s':=by omega
      simp[this]
     ·rw[En hyz];have:(List.any [j] λk=>decide ((y:Int)=z+(k:Nat)*s'))=false:=by simp;omega
      rw[this,Bool.or_false]
    ·rintro σ H'' ⟨e',y',rfl,hm''⟩;refine⟨e',_,_,rfl,?_⟩;rw[hm''];congr 2;refine b6 λy hy=>?_;rw[htake];unfold je;rw[List.any_append,Bool.or_assoc];congr 2;rw[DW,DV];simp only[List.mem_range,decide_eq_true_eq,List.any_cons,List.any_nil,Bool.or_false,DX,beq_iff_eq];constructor
     ·rintro⟨k,hk,hy'⟩;have hge:0<=(k:Int)*s':=Int.mul_nonneg (by omega) (by omega);refine⟨by omega,?_⟩;rw[show (y:Int)-z=s'*(k:Int) by rw[Int.mul_comm];omega];exact Int.mul_emod_right _ _
     ·rintro⟨hy1,hy2⟩;obtain⟨k,hk1,hk2⟩:=yT (n:=n) hs hy1 (by omega) hy2;exact⟨k,hk1,hk2⟩
   ·rintro σ H4 ⟨e4,x',y',rfl,hm4⟩;rw[Dn,DQ]at hm4;walk_at"";refine q m2 H4 e4 hmn ?_;rw[hm4];congr 2;exact b6 λy _=>yl hg.ok y
def qx(K:Dj):Sp:=λvs H Q _=>∃a b:Nat,vs=[.int a,.int b]/\Q (.int (Nat.gcd a b:Nat)) H
abbrev nO:Stmt:=stq 24
def vy:FnScope ["one","other","great","small","over"] ["one","other"] (aC nO):=⟨rfl,rfl,rfl,by decide +kernel,rfl,by decide +kernel,by decide +kernel⟩
def zE{P:Program}{w:World}{K:Dj}{mg:Str->Option Value}{base:Heap}(D:Dfn K mg "greatest_divisor" nO ["one","other"])(T:Blt mg):Cal P w K mg base "greatest_divisor" 1 ["one","other"] (qx K):=by
 have nd:=(vy).nd;refine D.ok vy (λvs H Q E h=>?_) (λX hX H vs Q E h=>?_)
 ·obtain⟨a,b,rfl,_⟩:=h;rfl
 ·obtain⟨f,cdv,A,outer,s,H0,E0,rfl,hr⟩:=hX;obtain⟨a,b,rfl,q⟩:=h;refine⟨_,(ah (aA (i:=2) nd rfl (Or.inl rfl) (pv 0))
    (ah (aA (i:=3) nd rfl (Or.inl rfl) (pv 1))
    (ah (g7 PassesOwn.never (aR eB (pv 3) af (aM _)) (ah (aA (i:=4) nd rfl (Or.inl rfl) (aq bN (pv 2) (pv 3)))
    (ah (aA (i:=2) nd rfl (Or.inl rfl) (pv 3))
    (ao (aA (i:=3) nd rfl (Or.inl rfl) (pv 4))))))
    (ao (aB (pv 2)))))),?_⟩
  walk_at"";refine gG (λm σ H'=>H'=H/\∃(x y:Nat) (o:Option V),σ=[some (.int a),some (.int b),some (.int x),some (.int y),o]/\Nat.gcd x y=Nat.gcd a b/\m=y)
   (λσ H'=>H'=H/\∃(x:Nat) (s:St),σ=some (.int a)::some (.int b)::some (.int x)::s/\x=Nat.gcd a b) b ⟨rfl,a,b,none,rfl,rfl,rfl⟩ ?_ ?_
  ·rintro m σ H' ⟨rfl,x,y,o,rfl,hg,rfl⟩;walk_at"";by_cases h0:(0:Int)<(m:Int)
   ·rw[Em h0];refine aI ⟨_,λ_ _ h=>h,?_⟩;walk_at"";refine⟨x % m,Nat.mod_lt _ (by omega),rfl,m,x % m,_,rfl,by rw[Cu,hg],rfl⟩
   ·rw[El h0];have hm:m=0:=by omega
    subst hm;exact aF ⟨rfl,x,_,rfl,by rw[←hg,Nat.gcd_zero_right]⟩
  rintro σ H' ⟨rfl,x,s1,rfl,rfl⟩;walk_at"";exact q
def SN(H:Hp)(v:V)(b s:Nat)(o a:List Int):Prop:=bt H v b s o a/\Gd b s o a
def SN.ext{H H':Hp}(e:Ext H H'){v:V}{b s:Nat}{o a:List Int}(h:SN H v b s o a):SN H' v b s o a:=⟨h.1.ext e,h.2⟩
def SN.s1{H:Hp}{v:V}{b s:Nat}{o a:List Int}(h:SN H v b s o a):1<=s:=by have:=h.2.ok.hs;omega
def SN.s8{H:Hp}{v:V}{b s:Nat}{o a:List Int}(h:SN H v b s o a):s<=840:=by have:=h.2.s8;omega
def SN.b3{H:Hp}{v:V}{b s:Nat}{o a:List Int}(h:SN H v b s o a):b<=3000:=by have:=h.2.b3;omega
def mf(K:Dj):Sp:=λvs H Q _=>∃v1 v2 b1 s1 o1 a1 b2 s2 o2 a2,vs=[v1,v2]/\SN H v1 b1 s1 o1 a1/\SN H v2 b2 s2 o2 a2/\Q (.int (cm s1 s2:Nat)) H
abbrev nX:Stmt:=stq 25
def rN:FnScope ["one","other"] ["one","other"] (aC nX):=⟨rfl,rfl,rfl,by decide +kernel,rfl,by decide +kernel,by decide +kernel⟩
def Cf{P:Program}{w:World}{K:Dj}{mg:Str->Option Value}{base:Heap}(D:Dfn K mg "common_step" nX ["one","other"])(T:Blt mg)(C_greatest_divisor:Cal P w K mg base "greatest_divisor" 1 ["one","other"] (qx K)):Cal P w K mg base "common_step" 2 ["one","other"] (mf K):=by
 have nd:=(rN).nd;refine D.ok rN (λvs H Q E h=>?_) (λX hX H vs Q E h=>?_)
 ·obtain⟨v1,v2,b1,s1,o1,a1,b2,s2,o2,a2,rfl,_⟩:=h;rfl
 ·obtain⟨f,cdv,A,outer,s,H0,E0,rfl,hr⟩:=hX;obtain⟨v1,v2,b1,s1,o1,a1,b2,s2,o2,a2,rfl,h1,h2,q⟩:=h;have g1:=h1.s1;have g8:=h1.s8;have f1:=h2.s1;have f8:=h2.s8;obtain⟨⟨p1,q1,r1,rfl,k1,_,_⟩,_⟩:=h1;obtain⟨⟨p2,q2,r2,rfl,k2,_,_⟩,_⟩:=h2;refine⟨_,(ao (aB (aq dE (aq mP (ai (ay K) (pv 0) af (λ_ _=>rfl)) (av C_greatest_divisor hr (aa (ai (ay K) (pv 0) af (λ_ _=>rfl)) (aa (ai (ay K) (pv 1) af (λ_ _=>rfl)) ae)))) (ai (ay K) (pv 1) af (λ_ _=>rfl))))),?_⟩;walk_at"";refine az (aj.of k1) rfl ?_;walk_at"";refine az (aj.of k1) rfl ?_;walk_at"";refine az (aj.of k2) rfl ?_;walk_at"";refine⟨s1,s2,rfl,?_⟩;have hg:0<Nat.gcd s1 s2:=Nat.gcd_pos_of_pos_left s2 g1;have hg2:Nat.gcd s1 s2<=s1:=Nat.le_of_dvd g1 (Nat.gcd_dvd_left s1 s2);refine rd_I (show(0:Int)<((Nat.gcd s1 s2:Nat):Int)/\((Nat.gcd s1 s2:Nat):Int)<2 ^ 64 by omega) ?_;walk_at"";refine az (aj.of k2) rfl ?_;refine rd_I (show iG _ _ from .inr (by omega)) ?_;have e:((s1:Int) / ((Nat.gcd s1 s2:Nat):Int))*(s2:Int)=((cm s1 s2:Nat):Int):=by unfold cm;rw[Int.natCast_mul];rfl
  rw[e];exact q
def vB(K:Dj):Sp:=λvs H Q _=>∃v1 v2 b1 s1 o1 a1 b2 s2 o2 a2,vs=[v1,v2]/\SN H v1 b1 s1 o1 a1/\SN H v2 b2 s2 o2 a2/\cm s1 s2<=840/\Q .non H
abbrev kW:Stmt:=stq 26
def wo:FnScope ["one","other"] ["one","other"] (aC kW):=⟨rfl,rfl,rfl,by decide +kernel,rfl,by decide +kernel,by decide +kernel⟩
def AK{P:Program}{w:World}{K:Dj}{mg:Str->Option Value}{base:Heap}(D:Dfn K mg "refuse_bad_pair" kW ["one","other"])(T:Blt mg)(g_GREATEST_STEP:∃t,mg "GREATEST_STEP" = some (.int 840 t))(C_common_step:Cal P w K mg base "common_step" 2 ["one","other"] (mf K))(C_refuse_great_stair:Cal P w K mg base "refuse_great_stair" 1 ["stair"] (ou K))(C_refuse_no_stair:Cal P w K mg base "refuse_no_stair" 5 ["thing"] (oH K)):Cal P w K mg base "refuse_bad_pair" 6 ["one","other"] (vB K):=by
 have nd:=(wo).nd;refine D.ok wo (λvs H Q E h=>?_) (λX hX H vs Q E h=>?_)
 ·obtain⟨v1,v2,b1,s1,o1,a1,b2,s2,o2,a2,rfl,_⟩:=h;rfl
 ·obtain⟨f,cdv,A,outer,s,H0,E0,rfl,hr⟩:=hX;obtain⟨t_GREATEST_STEP,c_GREATEST_STEP⟩:=g_GREATEST_STEP;obtain⟨v1,v2,b1,s1,o1,a1,b2,s2,o2,a2,rfl,h1,h2,hc,q⟩:=h;refine⟨_,(ah (aX (av C_refuse_no_stair hr (aa (pv 0) ae)))
    (ah (aX (av C_refuse_no_stair hr (aa (pv 1) ae)))
    (ah (aX (av C_refuse_great_stair hr (aa (pv 0) ae)))
    (ah (aX (av C_refuse_great_stair hr (aa (pv 1) ae)))
    (ao (bq (aR eB (av C_common_step hr (aa (pv 0) (aa (pv 1) ae))) (gn (v:=.int 840) rfl c_GREATEST_STEP ⟨_,rfl⟩) (aM _)) (ao fh) aT)))))),?_⟩
  walk_at"";refine⟨v1,_,_,_,_,rfl,h1.1,h1.2.ok,?_⟩;walk_at"";refine⟨v2,_,_,_,_,rfl,h2.1,h2.2.ok,?_⟩;walk_at"";refine⟨v1,_,_,_,_,rfl,h1.1,h1.2.b3,h1.2.s8,?_⟩;walk_at"";refine⟨v2,_,_,_,_,rfl,h2.1,h2.2.b3,h2.2.s8,?_⟩;walk_at"";refine⟨v1,v2,b1,s1,o1,a1,b2,s2,o2,a2,rfl,h1,h2,?_⟩;walk_at"";rw[El (show ¬(840:Int)<((cm s1 s2:Nat):Int) by omega)];exact aF q
def j3(K:Dj):Sp:=λvs H Q _=>∃v1 v2 f g b1 s1 o1 a1 b2 s2 o2 a2,vs=[v1,v2,.ref f]/\SN H v1 b1 s1 o1 a1/\SN H v2 b2 s2 o2 a2/\cm s1 s2<=840/\eP H f g ∧
 ∀v (l d:Nat) H',Ext H H'->Least (pairF g (fn b1 s1 o1 a1) (fn b2 s2 o2 a2)) d l->l<=max b1 b2->d<=cm s1 s2->bt H' v l d (row (pairF g (fn b1 s1 o1 a1) (fn b2 s2 o2 a2)) 0 l) (row (pairF g (fn b1 s1 o1 a1) (fn b2 s2 o2 a2)) l d)->Q v H'
def oA{b s:Nat}{o a:List Int}(g:Gd b s o a):aP (fn b s o a) b s:=by have:=Ag g.ok;simpa using this
abbrev kG:Stmt:=stq 27
def pK:FnScope ["one","other","choice","base","end","marks"] ["one","other","choice"] (aC kG):=⟨rfl,rfl,rfl,by decide +kernel,rfl,by decide +kernel,by decide +kernel⟩
def BA{P:Program}{w:World}{K:Dj}{mg:Str->Option Value}{base:Heap}(D:Dfn K mg "chosen" kG ["one","other","choice"])(T:Blt mg)(C_stair_of_marks:Cal P w K mg base "stair_of_marks" 2 ["marks","base"] (jP K))(C_marks_below:Cal P w K mg base "marks_below" 1 ["stair","end"] (nG K))(C_common_step:Cal P w K mg base "common_step" 2 ["one","other"] (mf K))(C_refuse_bad_pair:Cal P w K mg base "refuse_bad_pair" 6 ["one","other"] (vB K)):Cal P w K mg base "chosen" 7 ["one","other","choice"] (j3 K):=by
 have nd:=(pK).nd;refine D.ok pK (λvs H Q E h=>?_) (λX hX H vs Q E h=>?_)
 ·obtain⟨v1,v2,f,g,b1,s1,o1,a1,b2,s2,o2,a2,rfl,_⟩:=h;rfl
 ·obtain⟨f,cdv,A,outer,s,H0,E0,rfl,hr⟩:=hX;obtain⟨v1,v2,fl,g,b1,s1,o1,a1,b2,s2,o2,a2,rfl,h1,h2,hc,hlam,q⟩:=h;have x1:=h1.b3;have x2:=h2.b3;have c1:=Bw h1.s1 h2.s1;refine⟨_,(ah (aX (av C_refuse_bad_pair hr (aa (pv 0) (aa (pv 1) ae))))
    (ah (aA (i:=3) nd rfl (Or.inl rfl) (br (jy rfl) rfl T.max_ PyProof.Rows.boot_max (aa (ai (ay K) (pv 0) af (λ_ _=>rfl)) (aa (ai (ay K) (pv 1) af (λ_ _=>rfl)) ae))))
    (ah (aA (i:=4) nd rfl (Or.inl rfl) (aq aS (pv 3) (av C_common_step hr (aa (pv 0) (aa (pv 1) ae)))))
    (ah (iu (i:=5) ["p","q"] [2] nd rfl (Or.inl rfl) (zU K rfl T.zip_ (aa (av C_marks_below hr (aa (pv 0) (aa (pv 4) ae))) (aa (av C_marks_below hr (aa (pv 1) (aa (pv 4) ae))) ae))) (λ_=>(gF (n:=2) K rfl (bX (aN (i:=0) (show(["p","q","choice"]:List Str).Nodup from by decide +kernel) rfl (Or.inl rfl) (Or.inr rfl)) (bX (aN (i:=1) (show(["p","q","choice"]:List Str).Nodup from by decide +kernel) rfl (Or.inl rfl) (Or.inr rfl)) fS)))) (λ_=>fF) (λ_=>(BR hr (pv 2) (aa (pv 0) (aa (pv 1) ae)))))
    (ao (aB (av C_stair_of_marks hr (aa (pv 5) (aa (pv 3) ae))))))))),?_⟩
  walk_at"";refine⟨v1,v2,b1,s1,o1,a1,b2,s2,o2,a2,rfl,h1,h2,hc,?_⟩;obtain⟨p1,q1,r1,rfl,k1,_,_⟩:=id h1.1;obtain⟨p2,q2,r2,rfl,k2,_,_⟩:=id h2.1;walk_at"";refine az (aj.of k1) rfl ?_;walk_at"";refine az (aj.of k2) rfl ?_;walk_at"";have em:(if(b2:Int)>(b1:Int)then(b2:Int)else(b1:Int))=((max b1 b2:Nat):Int):=by split<;>omega
  rw[em];refine⟨_,_,b1,s1,o1,a1,b2,s2,o2,a2,rfl,h1,h2,?_⟩;walk_at"";refine⟨_,((max b1 b2:Nat):Int)+((cm s1 s2:Nat):Int),b1,s1,o1,a1,rfl,h1.1,h1.2,by omega,by omega,λm1 H1 e1 hn1 hm1=>?_⟩;walk_at"";refine⟨_,((max b1 b2:Nat):Int)+((cm s1 s2:Nat):Int),b2,s2,o2,a2,rfl,h2.1.ext e1,h2.2,by omega,by omega,λm2 H2 e2 hn2 hm2=>?_⟩;have et:(((max b1 b2:Nat):Int)+((cm s1 s2:Nat):Int)).toNat=max b1 b2+cm s1 s2:=by omega
  rw[et]at hm1 hm2;have hm1':=e2 _ _ hm1;walk_at"";refine zd (ag.of hm1') (ag.of hm2) ?_;refine ym (xs:=aG (max b1 b2+cm s1 s2) (fn b1 s1 o1 a1)) (ys:=aG (max b1 b2+cm s1 s2) (fn b2 s2 o2 a2)) (λi zs H'=>Ext H2 H'/\zs=aG i (pairF g (fn b1 s1 o1 a1) (fn b2 s2 o2 a2))) (bD (by rw[bp];omega)) ⟨Ext.rfl' H2,rfl⟩ ?_ ?_ ?_
  ·rintro i zs H' ⟨e,rfl⟩;exact⟨ag.of (e _ _ hm1'),ag.of (e _ _ hm2),by rw[bp];exact DI _⟩
  ·rintro i u v zs H' p4 H4 hu hv ⟨e,rfl⟩ e4 h4 hn4;have hi:i<max b1 b2+cm s1 s2:=by
    have:=(Dx.mp hu).1
    rwa [bp]at this
   rw[cL _ hi]at hu hv;cases hu;cases hv;have hl4:=hlam.ext (e1.trans (e2.trans (e.trans e4)));refine il (aj.of h4) rfl ?_;walk_at"";refine aI ?_;walk_at"";refine⟨⟨fl,g,rfl,hl4⟩,?_⟩;walk_at"";refine⟨fl,g,_,_,rfl,rfl,hl4,e.trans e4,?_⟩;rw[ib];rfl
  rintro zs H' p5 ⟨e,rfl⟩ hp5;rw[bp,bp,Nat.min_self];walk_at"";have e6:Ext H' (upd H' p5 (.lst (aG (max b1 b2+cm s1 s2) (pairF g (fn b1 s1 o1 a1) (fn b2 s2 o2 a2))))):=bJ hp5;refine⟨p5,max b1 b2,cm s1 s2,_,rfl,c1,by omega,aJ,CJ (oA h1.2) (oA h2.2),λv l d H7 e7 hL hl hd hst=>?_⟩;exact q v l d H7 (e1.trans (e2.trans (e.trans (e6.trans e7)))) hL hl hd hst
def oD{lo hi:Int}:∀{xs:List Int},fG lo hi xs->(xs.length:Int)<=max 0 (hi-lo)
 | [],_=>by simp;omega
 | x::r,h=>by obtain⟨h1,h2,h3⟩:=q9.mp h;have:=oD h3;rw[DP];omega
def Gd.lo{b s:Int}{o a:List Int}(g:Gd b s o a):o.length<=3000:=by have:=oD g.ok.ho;have:=g.b3;have:=g.ok.hb;omega
def Gd.la{b s:Int}{o a:List Int}(g:Gd b s o a):a.length<=840:=by have:=oD g.ok.ha;have:=g.s8;have:=g.ok.hs;omega
def nM:List Int->V
 | []=>.non
 | x::_=>.int x
def o4(K:Dj):Sp:=λvs H Q _=>∃v b s o a,vs=[v]/\bt H v b s o a/\Gd b s o a/\∀H',Ext H H'->Q (nM (o++a)) H'
abbrev oI:Stmt:=stq 21
def qG:FnScope ["stair","numbers"] ["stair"] (aC oI):=⟨rfl,rfl,rfl,by decide +kernel,rfl,by decide +kernel,by decide +kernel⟩
def AE{P:Program}{w:World}{K:Dj}{mg:Str->Option Value}{base:Heap}(D:Dfn K mg "first_of" oI ["stair"])(T:Blt mg)(C_refuse_bad_stair:Cal P w K mg base "refuse_bad_stair" 6 ["thing"] (j7 K)):Cal P w K mg base "first_of" 7 ["stair"] (o4 K):=by
 have nd:=(qG).nd;refine D.ok qG (λvs H Q E h=>?_) (λX hX H vs Q E h=>?_)
 ·obtain⟨v,b,s,o,a,rfl,_⟩:=h;rfl
 ·obtain⟨f,cdv,A,outer,s,H0,E0,rfl,hr⟩:=hX;obtain⟨v,b,s',o,a,rfl,hv,hg,q⟩:=h;have lo:=hg.lo;have la:=hg.la;refine⟨_,(ah (aX (av C_refuse_bad_stair hr (aa (pv 0) ae)))
    (ah (aA (i:=1) nd rfl (Or.inl rfl) (aq tP (ai (ay K) (pv 0) af (λ_ _=>rfl)) (ai (ay K) (pv 0) af (λ_ _=>rfl))))
    (ao (aB (zH (yB K (pv 1) (λ_=>rfl)) (ai (ay K) (pv 1) af (λ_ _=>rfl)) i6))))),?_⟩
  walk_at"";refine⟨v,b,s',o,a,rfl,hv,hg,?_⟩;obtain⟨p,q',r,rfl,h1,h2,h3⟩:=hv;walk_at"";refine az (aj.of h1) rfl ?_;walk_at"";refine az (aj.of h1) rfl ?_;refine rm h2 h3 (bD (by rw[Dn,Dn];omega)) λt H' e ht=>?_;rw[←DF]at ht;walk_at"";refine⟨!((o++a).map V.int).isEmpty,.inr (.inl ⟨_,aj.of ht,rfl⟩),?_⟩;have hq:=q H' e;cases hoa:o++a with
  | nil=>
   rw[hoa]at hq;refine aF ?_;walk_at"";exact hq
  | cons x xs=>
   rw[hoa]at hq ht;refine aI ?_;walk_at"";refine az (aj.of ht) (v:=.int x) (dQ (j:=0) rfl) ?_;exact hq
def cU(k:Int)(f:Nat->Bool):Nat->Bool:=λx=>decide (k<=(x:Int)) && f ((x:Int)-k).toNat
def mG{k:Int}{f:Nat->Bool}{b s B:Nat}(h:aP f b s)(h1:(b:Int)+k<=B):aP (cU k f) B s:=λx hx=>by unfold cU;have e1:decide (k<=((x+s:Nat):Int))=true:=Em (by omega);have e2:decide (k<=(x:Int))=true:=Em (by omega);rw[e1,e2,Bool.true_and,Bool.true_and,show (((x+s:Nat):Int)-k).toNat=((x:Int)-k).toNat+s by omega];exact h _ (by omega)
def Bd{k:Int}{f:Nat->Bool}{n B s:Nat}{z c:Nat}(hz:(z:Int)-c=k)(h0:z=0\/c=0)(hn:(n:Int)=B-k+s)(hc:c<=n):aG z (λ_=>false)++aG (n-c) (λi=>f (c+i))=aG (B+s) (cU k f):=by
 rw[yW,show z+(n-c)=B+s by omega];refine b6 λi hi=>?_;unfold cU;by_cases h:i<z
 ·rw[Eo h,El (by omega),Bool.false_and]
 ·rw[En h,Em (by omega),Bool.true_and];congr 1;omega
def pQ(K:Dj):Sp:=λvs H Q _=>∃(v:V) (k:Int) (b s:Nat) (o a:List Int),vs=[v,.int k]/\SN H v b s o a ∧
 -3000<=k/\k<=3000/\∀v' (l d:Nat) H',Ext H H'->Least (cU k (fn b s o a)) d l->(l:Int)<=max 0 ((b:Int)+k)->d<=s->bt H' v' l d (row (cU k (fn b s o a)) 0 l) (row (cU k (fn b s o a)) l d)->Q v' H'
abbrev mr:Stmt:=stq 22
def vQ:FnScope ["stair","k","base","marks"] ["stair","k"] (aC mr):=⟨rfl,rfl,rfl,by decide +kernel,rfl,by decide +kernel,by decide +kernel⟩
def A7{P:Program}{w:World}{K:Dj}{mg:Str->Option Value}{base:Heap}(D:Dfn K mg "moved" mr ["stair","k"])(T:Blt mg)(g_GREATEST_MOVE:∃t,mg "GREATEST_MOVE" = some (.int 3000 t))(C_stair_of_marks:Cal P w K mg base "stair_of_marks" 2 ["marks","base"] (jP K))(C_marks_below:Cal P w K mg base "marks_below" 1 ["stair","end"] (nG K))(C_refuse_bad_stair:Cal P w K mg base "refuse_bad_stair" 6 ["thing"] (j7 K)):Cal P w K mg base "moved" 7 ["stair","k"] (pQ K):=by
 have nd:=(vQ).nd;refine D.ok vQ (λvs H Q E h=>?_) (λX hX H vs Q E h=>?_)
 ·obtain⟨v,k,b,s,o,a,rfl,_⟩:=h;rfl
 ·obtain⟨f,cdv,A,outer,s,H0,E0,rfl,hr⟩:=hX;obtain⟨t_GREATEST_MOVE,c_GREATEST_MOVE⟩:=g_GREATEST_MOVE;obtain⟨v,k,b,s1,o,a,rfl,hv,hk1,hk2,q⟩:=h;have x1:=hv.b3;have y1:=hv.s1;have y8:=hv.s8;have hper:=oA hv.2;refine⟨_,(ah (aX (av C_refuse_bad_stair hr (aa (pv 0) ae)))
    (ah (bq (aR eB (br yp rfl T.abs_ PyProof.Rows.boot_abs (aa (pv 1) ae)) (gn (v:=.int 3000) rfl c_GREATEST_MOVE ⟨_,rfl⟩) (aM _)) (ao fh) aT)
    (ah (aA (i:=2) nd rfl (Or.inl rfl) (br (jy rfl) rfl T.max_ PyProof.Rows.boot_max (aa af (aa (aq aS (ai (ay K) (pv 0) af (λ_ _=>rfl)) (pv 1)) ae))))
    (ah (aA (i:=3) nd rfl (Or.inl rfl) (av C_marks_below hr (aa (pv 0) (aa (aq aS (aq cH (pv 2) (pv 1)) (ai (ay K) (pv 0) af (λ_ _=>rfl))) ae))))
    (ao (aB (av C_stair_of_marks hr (aa (aq ke (aq i7 (bw (aa bA ae)) (br (jy rfl) rfl T.max_ PyProof.Rows.boot_max (aa af (aa (pv 1) ae)))) (gW (gE K) (pv 3) (fe (br (jy rfl) rfl T.max_ PyProof.Rows.boot_max (aa af (aa (ir gX (pv 1)) ae)))) iz)) (aa (pv 2) ae))))))))),?_⟩
  walk_at"";refine⟨v,_,_,_,_,rfl,hv.1,hv.2,?_⟩;obtain⟨p,oq,ar,rfl,k1,_,_⟩:=id hv.1;walk_at"";refine⟨k,rfl,?_⟩;walk_at"";rw[El (show ¬(3000:Int)<(if k<0 then -k else k) by split<;>omega)];refine aF ?_;walk_at"";refine az (aj.of k1) rfl ?_;walk_at"";obtain⟨B,hB⟩:∃B:Nat,(if(b:Int)+k>0 then(b:Int)+k else 0)=(B:Int):=⟨(if(b:Int)+k>0 then(b:Int)+k else 0).toNat,by split<;>omega⟩;have hB':(B:Int)=max 0 ((b:Int)+k):=by rw[←hB];split<;>omega
  rw[hB];clear hB;refine az (aj.of k1) rfl ?_;walk_at"";obtain⟨n,hn⟩:∃n:Nat,(B:Int)-k+(s1:Int)=(n:Int):=⟨((B:Int)-k+(s1:Int)).toNat,by omega⟩;rw[hn];refine⟨_,(n:Int),b,s1,o,a,rfl,hv.1,hv.2,by omega,by omega,λm H1 e1 hmn hm=>?_⟩;rw[DB]at hm;walk_at"";refine aH λm2 H2 e2 hm2 _=>?_;walk_at"";obtain⟨Z,hZ⟩:∃Z:Nat,(if k>0 then k else 0)=(Z:Int):=⟨(if k>0 then k else 0).toNat,by split<;>omega⟩;obtain⟨C,hC⟩:∃C:Nat,(if -k>0 then -k else 0)=(C:Int):=⟨(if -k>0 then -k else 0).toNat,by split<;>omega⟩;have hZC:(Z:Int)-C=k/\(Z=0\/C=0):=by split at hZ<;>split at hC<;>omega
  rw[hZ];clear hZ;refine i4 hm2 (by omega) (bD (by simp;omega)) (bP λm3 H3 e3 hm3 _=>?_);rw[jh,DB]at hm3;walk_at"";rw[hC];clear hC;refine ik (ag.of (e3 _ _ (e2 _ _ hm))) (bP λm4 H4 e4 hm4 _=>?_);rw[oC (by omega) (by omega),DB]at hm4;refine kA (e4 _ _ hm3) hm4 (bD (by rw[bp,bp];omega)) (bP λm5 H5 e5 hm5 _=>?_);rw[Bd hZC.1 hZC.2 (B:=B) (s:=s1) (by omega) (by omega)]at hm5;walk_at"";refine⟨m5,B,s1,_,rfl,y1,by omega,hm5,mG hper (by omega),λv' l d H6 e6 hL hl hd hst=>?_⟩;exact q v' l d H6 (e1.trans (e2.trans (e3.trans (e4.trans (e5.trans e6))))) hL (by omega) hd hst
def bt.et{H H':Hp}(e:Et H H'){v:V}{b s:Int}{o a:List Int}(h:bt H v b s o a):bt H' v b s o a:=by obtain⟨p,q,r,rfl,h1,h2,h3⟩:=h;exact⟨p,q,r,rfl,e _ _ h1 (λ_ z=>by cases z),e _ _ h2 (λ_ z=>by cases z),e _ _ h3 (λ_ z=>by cases z)⟩
def SN.et{H H':Hp}(e:Et H H'){v:V}{b s:Nat}{o a:List Int}(h:SN H v b s o a):SN H' v b s o a:=⟨h.1.et e,h.2⟩
def ju{f:Nat->Bool}{l d:Nat}(h1:1<=d)(h2:l<=3000)(h3:d<=840):Gd l d (row f 0 l) (row f l d):=⟨Bb f l d h1,by omega,by omega⟩
def rj{f:Nat->Bool}{l d:Nat}(h1:1<=d)(h:aP f l d):fn l d (row f 0 l) (row f l d)=f:=funext λx=>Cw h1 h x
def kE(f1 f2:Nat->Bool)(v:V):Prop:=(v=.non/\∀x,f1 x=f2 x)\/∃m:Nat,v=.int m/\f1 m≠f2 m/\∀y,y<m->f1 y=f2 y
def cO:Bool->Bool->Bool:=λx y=>!(x == y)
def rE{x y:Bool}:cO x y=false↔x=y:=by cases x<;>cases y<;>simp[cO]
def zm{x y:Bool}:cO x y=true↔x≠y:=by cases x<;>cases y<;>simp[cO]
def Cp{f1 f2:Nat->Bool}{l d:Nat}(hL:Least (pairF cO f1 f2) d l):kE f1 f2 (nM (row (pairF cO f1 f2) 0 l++row (pairF cO f1 f2) l d)):=by
 have e:row (pairF cO f1 f2) 0 l++row (pairF cO f1 f2) l d=row (pairF cO f1 f2) 0 (l+d):=by rw[nK,Nat.zero_add]
 rw[e];cases hr:row (pairF cO f1 f2) 0 (l+d)with
 | nil=>
  refine .inl ⟨rfl,λx=>rE.mp (rQ hL.pos hL.per (λy hy=>?_) x)⟩;cases hf:pairF cO f1 f2 y with
  | false=>rfl
  | true=>
   have hm:(y:Int)∈row (pairF cO f1 f2) 0 (l+d):=fW.mpr ⟨by omega,by omega,by rw[DB];exact hf⟩;rw[hr]at hm;simp at hm
 | cons x r=>
  obtain⟨h1,h2,h3,h4⟩:=si hr;refine .inr ⟨x.toNat,by show V.int x=_;rw[DC (by omega)],zm.mp h3,λy hy=>rE.mp (h4 y (by omega) (by omega))⟩
def gZ:Bool->Bool->Bool:=λx y=>x || y
def eL:Bool->Bool->Bool:=λx y=>x && !y
def nL(K:Dj):Sp:=λvs H Q _=>∃v1 v2 b1 s1 o1 a1 b2 s2 o2 a2,vs=[v1,v2]/\SN H v1 b1 s1 o1 a1/\SN H v2 b2 s2 o2 a2/\cm s1 s2<=840/\cR K/\Tbs K H ∧
 ∀v (l d:Nat) H',Et H H'->Tbs K H'->Least (pairF gZ (fn b1 s1 o1 a1) (fn b2 s2 o2 a2)) d l->l<=max b1 b2->d<=cm s1 s2->bt H' v l d (row (pairF gZ (fn b1 s1 o1 a1) (fn b2 s2 o2 a2)) 0 l) (row (pairF gZ (fn b1 s1 o1 a1) (fn b2 s2 o2 a2)) l d)->Q v H'
abbrev nJ:Stmt:=stq 28
def qV:FnScope ["one","other"] ["one","other"] (aC nJ):=⟨rfl,rfl,rfl,by decide +kernel,rfl,by decide +kernel,by decide +kernel⟩
def Cy{P:Program}{w:World}{K:Dj}{mg:Str->Option Value}{base:Heap}(D:Dfn K mg "either" nJ ["one","other"])(T:Blt mg){c9 T9:Addr}(B:Tab K mg base "either" c9 T9)(C_chosen:Cal P w K mg base "chosen" 7 ["one","other","choice"] (j3 K)):Cal P w K mg base "either" 8 ["one","other"] (nL K):=by
 have nd:=(qV).nd;refine D.okL B qV (λvs H Q E h=>?_) (λX hX H vs Q E h=>?_)
 ·obtain⟨v1,v2,b1,s1,o1,a1,b2,s2,o2,a2,rfl,_⟩:=h;rfl
 ·obtain⟨f,A,outer,s,H0,E0,rfl,hr⟩:=hX;obtain⟨v1,v2,b1,s1,o1,a1,b2,s2,o2,a2,rfl,h1,h2,hc,dis,htab,q⟩:=h;refine⟨_,(ao (aB (av C_chosen hr (aa (pv 0) (aa (pv 1) (aa (mJ rfl rfl B.hd B.blt B.gl (by decide +kernel) rfl rfl) ae)))))),?_⟩;walk_at"";refine kD (x:="either") htab.either B.tin λfl c' H1 e1 ht1 ot hf hc1=>?_;have t3:Tbs K H1:=⟨ht1,ot "kept" _ _ _ (λc2 T2 e2=>dis "either" (by simp) "kept" (by simp) (by decide +kernel) _ _ _ _ B.tin e2) htab.kept,ot "less" _ _ _ (λc2 T2 e2=>dis "either" (by simp) "less" (by simp) (by decide +kernel) _ _ _ _ B.tin e2) htab.less,ot "low_levels" _ _ _ (λc2 T2 e2=>dis "either" (by simp) "low_levels" (by simp) (by decide +kernel) _ _ _ _ B.tin e2) htab.low,ot "parting" _ _ _ (λc2 T2 e2=>dis "either" (by simp) "parting" (by simp) (by decide +kernel) _ _ _ _ B.tin e2) htab.parting,ot "risen" _ _ _ (λc2 T2 e2=>dis "either" (by simp) "risen" (by simp) (by decide +kernel) _ _ _ _ B.tin e2) htab.risen⟩;walk_at"";refine⟨v1,v2,fl,gZ,b1,s1,o1,a1,b2,s2,o2,a2,rfl,h1.et e1,h2.et e1,hc,⟨c',_,_,_,_,hf,hc1,.or,⟨⟨rfl,rfl,rfl,by decide +kernel,rfl,by decide +kernel,by decide +kernel⟩,rfl,rfl,λ_ _ _ _ _ _ _=>rfl⟩⟩,λv l d H2 e2 hL hl hd hst=>?_⟩;exact q v l d H2 (e1.trans e2.et) (t3.ext e2) hL hl hd hst
def kf(K:Dj):Sp:=λvs H Q _=>∃v1 v2 b1 s1 o1 a1 b2 s2 o2 a2,vs=[v1,v2]/\SN H v1 b1 s1 o1 a1/\SN H v2 b2 s2 o2 a2/\cm s1 s2<=840/\cR K/\Tbs K H ∧
 ∀v (l d:Nat) H',Et H H'->Tbs K H'->Least (pairF eL (fn b1 s1 o1 a1) (fn b2 s2 o2 a2)) d l->l<=max b1 b2->d<=cm s1 s2->bt H' v l d (row (pairF eL (fn b1 s1 o1 a1) (fn b2 s2 o2 a2)) 0 l) (row (pairF eL (fn b1 s1 o1 a1) (fn b2 s2 o2 a2)) l d)->Q v H'
abbrev oB:Stmt:=stq 29
def qS:FnScope ["one","other"] ["one","other"] (aC oB):=⟨rfl,rfl,rfl,by decide +kernel,rfl,by decide +kernel,by decide +kernel⟩
def BK{P:Program}{w:World}{K:Dj}{mg:Str->Option Value}{base:Heap}(D:Dfn K mg "less" oB ["one","other"])(T:Blt mg){c9 T9:Addr}(B:Tab K mg base "less" c9 T9)(C_chosen:Cal P w K mg base "chosen" 7 ["one","other","choice"] (j3 K)):Cal P w K mg base "less" 8 ["one","other"] (kf K):=by
 have nd:=(qS).nd;refine D.okL B qS (λvs H Q E h=>?_) (λX hX H vs Q E h=>?_)
 ·obtain⟨v1,v2,b1,s1,o1,a1,b2,s2,o2,a2,rfl,_⟩:=h;rfl
 ·obtain⟨f,A,outer,s,H0,E0,rfl,hr⟩:=hX;obtain⟨v1,v2,b1,s1,o1,a1,b2,s2,o2,a2,rfl,h1,h2,hc,dis,htab,q⟩:=h;refine⟨_,(ao (aB (av C_chosen hr (aa (pv 0) (aa (pv 1) (aa (mJ rfl rfl B.hd B.blt B.gl (by decide +kernel) rfl rfl) ae)))))),?_⟩;walk_at"";refine kD (x:="less") htab.less B.tin λfl c' H1 e1 ht1 ot hf hc1=>?_;have t3:Tbs K H1:=⟨ot "either" _ _ _ (λc2 T2 e2=>dis "less" (by simp) "either" (by simp) (by decide +kernel) _ _ _ _ B.tin e2) htab.either,ot "kept" _ _ _ (λc2 T2 e2=>dis "less" (by simp) "kept" (by simp) (by decide +kernel) _ _ _ _ B.tin e2) htab.kept,ht1,ot "low_levels" _ _ _ (λc2 T2 e2=>dis "less" (by simp) "low_levels" (by simp) (by decide +kernel) _ _ _ _ B.tin e2) htab.low,ot "parting" _ _ _ (λc2 T2 e2=>dis "less" (by simp) "parting" (by simp) (by decide +kernel) _ _ _ _ B.tin e2) htab.parting,ot "risen" _ _ _ (λc2 T2 e2=>dis "less" (by simp) "risen" (by simp) (by decide +kernel) _ _ _ _ B.tin e2) htab.risen⟩;walk_at"";refine⟨v1,v2,fl,eL,b1,s1,o1,a1,b2,s2,o2,a2,rfl,h1.et e1,h2.et e1,hc,⟨c',_,_,_,_,hf,hc1,.less,⟨⟨rfl,rfl,rfl,by decide +kernel,rfl,by decide +kernel,by decide +kernel⟩,rfl,rfl,λ_ _ _ _ _ _ _=>rfl⟩⟩,λv l d H2 e2 hL hl hd hst=>?_⟩;exact q v l d H2 (e1.trans e2.et) (t3.ext e2) hL hl hd hst
def zy{h:Nat->Bool}{l d:Nat}(hd:1<=d)(hp:aP h l d):decide (nM (row h 0 l++row h l d)=.non)=true↔∀x,h x=false:=by
 have e:row h 0 l++row h l d=row h 0 (l+d):=by rw[nK,Nat.zero_add]
 rw[e,decide_eq_true_eq];cases hr:row h 0 (l+d)with
 | nil=>
  refine⟨λ_=>rQ hd hp λy hy=>?_,λ_=>rfl⟩;cases hf:h y with
  | false=>rfl
  | true=>
   have hm:(y:Int)∈row h 0 (l+d):=fW.mpr ⟨by omega,by omega,by rw[DB];exact hf⟩;rw[hr]at hm;simp at hm
 | cons x r=>
  obtain⟨h1,h2,h3,h4⟩:=si hr;refine⟨λz=>(by cases z),λz=>?_⟩;rw[z]at h3;cases h3
def oy(K:Dj):Sp:=λvs H Q _=>∃v1 v2 b1 s1 o1 a1 b2 s2 o2 a2,vs=[v1,v2]/\SN H v1 b1 s1 o1 a1/\SN H v2 b2 s2 o2 a2/\cm s1 s2<=840/\cR K/\Tbs K H ∧
 ∀b H',Et H H'->Tbs K H'->(b=true↔∀x,pairF eL (fn b1 s1 o1 a1) (fn b2 s2 o2 a2) x=false)->Q (.bl b) H'
abbrev lX:Stmt:=stq 31
def rA:FnScope ["one","other"] ["one","other"] (aC lX):=⟨rfl,rfl,rfl,by decide +kernel,rfl,by decide +kernel,by decide +kernel⟩
def Bm{P:Program}{w:World}{K:Dj}{mg:Str->Option Value}{base:Heap}(D:Dfn K mg "within" lX ["one","other"])(T:Blt mg)(C_first_of:Cal P w K mg base "first_of" 7 ["stair"] (o4 K))(C_less:Cal P w K mg base "less" 8 ["one","other"] (kf K)):Cal P w K mg base "within" 9 ["one","other"] (oy K):=by
 have nd:=(rA).nd;refine D.ok rA (λvs H Q E h=>?_) (λX hX H vs Q E h=>?_)
 ·obtain⟨v1,v2,b1,s1,o1,a1,b2,s2,o2,a2,rfl,_⟩:=h;rfl
 ·obtain⟨f,cdv,A,outer,s,H0,E0,rfl,hr⟩:=hX;obtain⟨v1,v2,b1,s1,o1,a1,b2,s2,o2,a2,rfl,h1,h2,hc,dis,htab,q⟩:=h;have x1:=h1.b3;have x2:=h2.b3;refine⟨_,(ao (aB (cE uJ (av C_first_of hr (aa (av C_less hr (aa (pv 0) (aa (pv 1) ae))) ae)) i6 (aM _)))),?_⟩;walk_at"";refine⟨v1,v2,b1,s1,o1,a1,b2,s2,o2,a2,rfl,h1,h2,hc,dis,htab,λv l d H1 e1 t1 hL hl hd hst=>?_⟩;walk_at"";refine⟨v,_,_,_,_,rfl,hst,ju hL.pos (by omega) (by omega),λH2 e2=>?_⟩;walk_at"";exact⟨rfl,q _ H2 (e1.trans e2.et) (t1.ext e2) (zy hL.pos hL.per)⟩
def kM(K:Dj):Sp:=λvs H Q _=>∃v1 v2 b1 s1 o1 a1 b2 s2 o2 a2,vs=[v1,v2]/\SN H v1 b1 s1 o1 a1/\SN H v2 b2 s2 o2 a2/\cm s1 s2<=840/\cR K/\Tbs K H ∧
 ∀v H',Et H H'->Tbs K H'->kE (fn b1 s1 o1 a1) (fn b2 s2 o2 a2) v->Q v H'
abbrev oY:Stmt:=stq 30
def vi:FnScope ["one","other"] ["one","other"] (aC oY):=⟨rfl,rfl,rfl,by decide +kernel,rfl,by decide +kernel,by decide +kernel⟩
def xM{P:Program}{w:World}{K:Dj}{mg:Str->Option Value}{base:Heap}(D:Dfn K mg "parting" oY ["one","other"])(T:Blt mg){c9 T9:Addr}(B:Tab K mg base "parting" c9 T9)(C_first_of:Cal P w K mg base "first_of" 7 ["stair"] (o4 K))(C_chosen:Cal P w K mg base "chosen" 7 ["one","other","choice"] (j3 K)):Cal P w K mg base "parting" 8 ["one","other"] (kM K):=by
 have nd:=(vi).nd;refine D.okL B vi (λvs H Q E h=>?_) (λX hX H vs Q E h=>?_)
 ·obtain⟨v1,v2,b1,s1,o1,a1,b2,s2,o2,a2,rfl,_⟩:=h;rfl
 ·obtain⟨f,A,outer,s,H0,E0,rfl,hr⟩:=hX;obtain⟨v1,v2,b1,s1,o1,a1,b2,s2,o2,a2,rfl,h1,h2,hc,dis,htab,q⟩:=h;have x1:=h1.b3;have x2:=h2.b3;refine⟨_,(ao (aB (av C_first_of hr (aa (av C_chosen hr (aa (pv 0) (aa (pv 1) (aa (mJ rfl rfl B.hd B.blt B.gl (by decide +kernel) rfl rfl) ae)))) ae)))),?_⟩;walk_at"";refine kD (x:="parting") htab.parting B.tin λfl c' H1 e1 ht1 ot hf hc1=>?_;have t3:Tbs K H1:=⟨ot "either" _ _ _ (λc2 T2 e2=>dis "parting" (by simp) "either" (by simp) (by decide +kernel) _ _ _ _ B.tin e2) htab.either,ot "kept" _ _ _ (λc2 T2 e2=>dis "parting" (by simp) "kept" (by simp) (by decide +kernel) _ _ _ _ B.tin e2) htab.kept,ot "less" _ _ _ (λc2 T2 e2=>dis "parting" (by simp) "less" (by simp) (by decide +kernel) _ _ _ _ B.tin e2) htab.less,ot "low_levels" _ _ _ (λc2 T2 e2=>dis "parting" (by simp) "low_levels" (by simp) (by decide +kernel) _ _ _ _ B.tin e2) htab.low,ht1,ot "risen" _ _ _ (λc2 T2 e2=>dis "parting" (by simp) "risen" (by simp) (by decide +kernel) _ _ _ _ B.tin e2) htab.risen⟩;walk_at"";refine⟨v1,v2,fl,cO,b1,s1,o1,a1,b2,s2,o2,a2,rfl,h1.et e1,h2.et e1,hc,⟨c',_,_,_,_,hf,hc1,.ne,⟨⟨rfl,rfl,rfl,by decide +kernel,rfl,by decide +kernel,by decide +kernel⟩,rfl,rfl,λ_ _ _ _ _ _ _=>rfl⟩⟩,λv l d H2 e2 hL hl hd hst=>?_⟩;walk_at"";refine⟨v,_,_,_,_,rfl,hst,ju hL.pos (by omega) (by omega),λH3 e3=>?_⟩;exact q _ H3 (e1.trans (e2.trans e3).et) (t3.ext (e2.trans e3)) (Cp hL)
def qO(K:Dj):Sp:=λvs H Q _=>∃v m ws c p,vs=[v,.int c,.int p]/\bx H v m ws/\1<=m/\0<p/\∀a x H',Ext H H'->aK H' a x->0<=x.1->x.1<m->0<=x.2->x.2<=12->Q (.ref a) H'
abbrev oR:Stmt:=stq 78
def tV:FnScope ["_law_house_here","_law_cell_here","_law_prime","_law_draws_here"] ["_law_house_here","_law_cell_here","_law_prime"] (aC oR):=⟨rfl,rfl,rfl,by decide +kernel,rfl,by decide +kernel,by decide +kernel⟩
def yC{P:Program}{w:World}{K:Dj}{mg:Str->Option Value}{base:Heap}(D:Dfn K mg "_law_place" oR ["_law_house_here","_law_cell_here","_law_prime"])(T:Blt mg)(C__law_draws:Cal P w K mg base "_law_draws" 2 ["_law_cell_here","_law_widths","_law_prime"] (fg K)):Cal P w K mg base "_law_place" 3 ["_law_house_here","_law_cell_here","_law_prime"] (qO K):=by
 have nd:=(tV).nd;refine D.ok tV (λvs H Q E h=>?_) (λX hX H vs Q E h=>?_)
 ·obtain⟨v,m,ws,c,p,rfl,_⟩:=h;rfl
 ·obtain⟨f,cdv,A,outer,s,H0,E0,rfl,hr⟩:=hX;obtain⟨v,m,ws,c,p,rfl,hv,m1,hp,q⟩:=h;refine⟨_,(@ah _ _ _ _ _ (@aA _ _ 3 _ _ _ _ nd rfl (Or.inl rfl) (av C__law_draws hr (@aa _ _ _ _ _ (pv 1) (@aa _ _ _ _ _ (@bw _ _ _ _ (@aa _ _ _ _ _ af (@aa _ _ _ _ _ af ae rfl) rfl)) (@aa _ _ _ _ _ (pv 2) ae rfl) rfl) rfl)) rfl (Or.inl rfl))
    (@ao _ _ _ (@aB _ _ _ _ (@bz _ _ _ _ _ (@aa _ _ _ _ _ (aq bN (@ai _ _ _ _ _ _ _ (aE K) (pv 3) af (λ_ _=>rfl)) (@ai _ _ _ _ _ _ _ (ay K) (pv 0) af (λ_ _=>rfl))) (@aa _ _ _ _ _ (@ai _ _ _ _ _ _ _ (aE K) (pv 3) af (λ_ _=>rfl)) ae rfl) rfl))))),?_⟩
  walk_at"";refine aH λw0 G1 f1 hw0 _=>?_;walk_at"";refine⟨c,w0,[12,13],p,rfl,hw0,by decide,by decide,hp,λdq ds H1 e1 hd hdn hl hb=>?_⟩;have eH:Ext H H1:=f1.trans e1;obtain⟨d0,g0,_⟩:=bU hl hb 0 rfl;obtain⟨d1,g1,b10,b11⟩:=bU hl hb 1 rfl;obtain⟨hh,t,rfl,k1,k2⟩:=hv.ext eH;walk_at"";refine aD (ag.of hd) g0 ?_;walk_at"";refine az (aj.of k1) (v:=.int m) rfl ?_
  try refine rd_I (show(0:Int)<m by omega) ?_
  walk_at"";refine aD (ag.of hd) g1 ?_;walk_at"";refine aH λa H2 e2 ha _=>?_;exact q a (d0 % m,d1) H2 (eH.trans e2) ha (Int.emod_nonneg _ (by omega)) (Int.emod_lt_of_pos _ (by omega)) b10 (by show d1<=12;omega)
def qz(K:Dj):Sp:=λvs H Q _=>∃v x b s o a,vs=[v,.int x]/\bt H v b s o a/\Ok b s o a/\Q (.bl (mem b s o a x)) H
abbrev oP:Stmt:=stq 79
def vR:FnScope ["_law_stair","_law_x","_law_base","_law_step","_law_once","_law_again"] ["_law_stair","_law_x"] (aC oP):=⟨rfl,rfl,rfl,by decide +kernel,rfl,by decide +kernel,by decide +kernel⟩
def Bz{P:Program}{w:World}{K:Dj}{mg:Str->Option Value}{base:Heap}(D:Dfn K mg "_law_holds" oP ["_law_stair","_law_x"])(T:Blt mg):Cal P w K mg base "_law_holds" 1 ["_law_stair","_law_x"] (qz K):=by
 have nd:=(vR).nd;refine D.ok vR (λvs H Q E h=>?_) (λX hX H vs Q E h=>?_)
 ·obtain⟨v,x,b,s,o,a,rfl,_⟩:=h;rfl
 ·obtain⟨f,cdv,A,outer,s,H0,E0,rfl,hr⟩:=hX;obtain⟨v,x,b,s',o,a,rfl,hv,hg,q⟩:=h;have hs:=hg.hs;obtain⟨p,q',r,rfl,h1,h2,h3⟩:=hv;refine⟨_,(ah (eQ (pv 0) (gF (n:=4) K rfl (bX (aN (i:=2) nd rfl (Or.inl rfl)) (bX (aN (i:=3) nd rfl (Or.inl rfl)) (bX (aN (i:=4) nd rfl (Or.inl rfl)) (bX (aN (i:=5) nd rfl (Or.inl rfl)) fS))))))
    (ah (bq (aR dC (pv 1) (pv 2) (aM _)) (ao (aB (cE (j5 K) (pv 1) (pv 4) (by with_unfolding_all rfl)))) aT)
    (ao (aB (cE (j5 K) (aq aS (pv 2) (aq bN (aq cH (pv 1) (pv 2)) (pv 3))) (pv 5) (by with_unfolding_all rfl)))))),?_⟩
  walk_at"";refine il (aj.of h1) rfl ?_;walk_at"";by_cases hx:x<b
  ·rw[Em hx];refine aI ?_;walk_at"";refine ky (.inr (aj.of h2)) rfl (kq o) ?_;rw[jT _ hx]at q;rw[jx];exact q
  ·rw[El hx];refine aF ?_;walk_at"";refine ky (.inr (aj.of h3)) rfl (kq a) ?_;rw[ia _ (by omega)]at q;rw[jx];exact q
def Nr(H:Hp)(v:V)(F:Nat->Bool)(P B:Nat):Prop:=∃l d:Nat,bt H v l d (row F 0 l) (row F l d)/\aP F l d/\1<=d/\d ∣ P/\l<=B
def Nr.et{H H':Hp}(e:Et H H'){v:V}{F:Nat->Bool}{P B:Nat}(h:Nr H v F P B):Nr H' v F P B:=by obtain⟨l,d,h1,h2⟩:=h;exact⟨l,d,h1.et e,h2⟩
def Nr.per{H:Hp}{v:V}{F:Nat->Bool}{P B:Nat}(h:Nr H v F P B):aP F B P:=by obtain⟨l,d,h1,h2,h3,⟨k,rfl⟩,h5⟩:=h;rw[Nat.mul_comm];exact(h2.times k).mono h5
def Nr.of{H:Hp}{v:V}{F:Nat->Bool}{P B l d:Nat}(h:bt H v l d (row F 0 l) (row F l d))(hL:Least F d l)(hP:1<=P)(hp:aP F B P):Nr H v F P B:=⟨l,d,h,hL.per,hL.pos,(Rnd.oQ hL hP hp).1,(Rnd.oQ hL hP hp).2⟩
def Nr.mono{H:Hp}{v:V}{F:Nat->Bool}{P B C:Nat}(h:Nr H v F P B)(hB:B<=C):Nr H v F P C:=by obtain⟨l,d,h1,h2,h3,h4,h5⟩:=h;exact⟨l,d,h1,h2,h3,h4,DS h5 hB⟩
def Nr.sn{H:Hp}{v:V}{F:Nat->Bool}{P B:Nat}(h:Nr H v F P B)(hP:1<=P)(hP2:P<=81)(hB:B<=1300):∃l d:Nat,SN H v l d (row F 0 l) (row F l d)/\fn l d (row F 0 l) (row F l d)=F/\l<=B/\d ∣ P:=by obtain⟨l,d,h1,h2,h3,h4,h5⟩:=h;have:=Nat.le_of_dvd hP h4;exact⟨l,d,⟨h1,ju h3 (by omega) (by omega)⟩,rj h3 h2,h5,h4⟩
def jX{a b P:Nat}(hP:1<=P)(h1:a ∣ P)(h2:b ∣ P):cm a b<=P:=by
 have e:cm a b=Nat.lcm a b:=by unfold cm Nat.lcm;rw[Nat.mul_comm a b,Nat.mul_div_assoc _ (Nat.gcd_dvd_left a b),Nat.mul_comm]
 rw[e];exact Nat.le_of_dvd hP (Nat.lcm_dvd h1 h2)
def du(d:Str)(F:Nat->Bool):Nat->Bool:=if d = "up" then cU 1 F else if d = "down" then cU (-1) F else if d = "zero" then λx=>decide (x=0) && F 0 else F
def lZ(F:Nat->Bool):du "up" F=cU 1 F:=by unfold du;rw[Eo (by decide +kernel)]
def kX(F:Nat->Bool):du "down" F=cU (-1) F:=by unfold du;rw[En (by decide +kernel),Eo (by decide +kernel)]
def kQ(F:Nat->Bool):du "stay" F=F:=by unfold du;rw[En (by decide +kernel),En (by decide +kernel),En (by decide +kernel)]
def j2(F:Nat->Bool):du "zero" F=λx=>decide (x=0) && F 0:=by unfold du;rw[En (by decide +kernel),En (by decide +kernel),Eo (by decide +kernel)]
def dO:Nat->Bool:=λx=>decide (x=0)
def yZ(F:Nat->Bool):cU (-1) (pairF eL F dO)=cU (-1) F:=by funext x;unfold cU;rw[Em (show(-1:Int)<=(x:Int) by omega),Bool.true_and,Bool.true_and];show(F _ && !decide _)=_;rw[El (show ¬((x:Int) - -1).toNat=0 by omega),Bool.not_false,Bool.and_true]
def qD:aP dO 1 1:=λx hx=>by show decide (x+1=0)=decide (x=0);rw[El (by omega),El (by omega)]
def oF{H:Hp}{v:V}(h:bt H v 1 1 [0] []):SN H v 1 1 (row dO 0 1) (row dO 1 1)/\fn ((1:Nat):Int) ((1:Nat):Int) (row dO 0 1) (row dO 1 1)=dO:=by have e1:row dO 0 1=[0]:=rfl;have e2:row dO 1 1=[]:=rfl;exact⟨⟨by rw[e1,e2];exact h,ju (by decide) (by decide) (by decide)⟩,rj (by decide) qD⟩
def qc(K:Dj):Sp:=λvs H Q _=>∃v d F P,vs=[v,.str d]/\bI d/\1<=P/\P<=81/\Nr H v F P 1290/\cR K/\Tbs K H/\∀u H',Et H H'->Tbs K H'->Nr H' u (du d F) P 1291->Q u H'
abbrev mU:Stmt:=stq 80
def sY:FnScope ["_law_stair","_law_deed","_law_nought"] ["_law_stair","_law_deed"] (aC mU):=⟨rfl,rfl,rfl,by decide +kernel,rfl,by decide +kernel,by decide +kernel⟩
def Cz{P:Program}{w:World}{K:Dj}{mg:Str->Option Value}{base:Heap}(D:Dfn K mg "_law_part" mU ["_law_stair","_law_deed"])(T:Blt mg)(C_holds:Cal P w K mg base "holds" 7 ["stair","x"] (uP K))(C_moved:Cal P w K mg base "moved" 7 ["stair","k"] (pQ K))(C_less:Cal P w K mg base "less" 8 ["one","other"] (kf K)):Cal P w K mg base "_law_part" 9 ["_law_stair","_law_deed"] (qc K):=by
 have nd:=(sY).nd;refine D.ok sY (λvs H Q E h=>?_) (λX hX H vs Q E h=>?_)
 ·obtain⟨v,d,F,P,rfl,_⟩:=h;rfl
 ·obtain⟨f,cdv,A,outer,s,H0,E0,rfl,hr⟩:=hX;obtain⟨v,d,F,P,rfl,hd,hP,hP2,hv,dis,htb,q⟩:=h;have per:=hv.per;obtain⟨l,s1,hsn,hfn,hl,hs1⟩:=hv.sn hP hP2 (by decide);refine⟨_,(@ah _ _ _ _ _ (@aA _ _ 2 _ _ _ _ nd rfl (Or.inl rfl) (@LitE.pe _ _ _ (.tup (.cons .int (.cons .int (.cons (.tup (.cons .int .nil)) (.cons (.tup .nil) .nil)))))) rfl (Or.inl rfl))
    (@ah _ _ _ _ _ (@bq _ _ _ _ _ _ _ _ (aR bT (pv 1) aO (aM _)) (@ao _ _ _ (@aB _ _ _ _ (av C_moved hr (@aa _ _ _ _ _ (pv 0) (@aa _ _ _ _ _ af ae rfl) rfl)))) aT)
    (@ah _ _ _ _ _ (@bq _ _ _ _ _ _ _ _ (aR bT (pv 1) aO (aM _)) (@ao _ _ _ (@aB _ _ _ _ (av C_moved hr (@aa _ _ _ _ _ (av C_less hr (@aa _ _ _ _ _ (pv 0) (@aa _ _ _ _ _ (pv 2) ae rfl) rfl)) (@aa _ _ _ _ _ (ir gX af) ae rfl) rfl)))) aT)
    (@ah _ _ _ _ _ (@bq _ _ _ _ _ _ _ _ (aR bT (pv 1) aO (aM _)) (@ao _ _ _ (@aB _ _ _ _ (@ai _ _ _ _ _ _ _ (aE K) (@bw _ _ _ _ (@yj _ _ _ _ _ (.tup (.cons .int (.cons .int (.cons (.tup .nil) (.cons (.tup .nil) .nil))))) (@aa _ _ _ _ _ (pv 2) ae rfl))) (gR xN rfl T.int_ PyProof.Rows.boot_int (@aa _ _ _ _ _ (av C_holds hr (@aa _ _ _ _ _ (pv 0) (@aa _ _ _ _ _ af ae rfl) rfl)) ae rfl)) (λ_ _=>rfl)))) aT)
    (@ao _ _ _ (@aB _ _ _ _ (pv 0))))))),?_⟩
  walk_at"";refine aH λt1 H1 e1 ht1 _=>?_;walk_at"";refine aH λt2 H2 e2 ht2 _=>?_;walk_at"";refine aH λt3 H3 e3 ht3 _=>?_;have e03:=e1.trans (e2.trans e3);have hn3:bt H3 (.ref t3) 1 1 [0] []:=⟨t3,t1,t2,rfl,ht3,(e2.trans e3) _ _ ht1,e3 _ _ ht2⟩;have tb3:=htb.ext e03;have hsn3:=hsn.ext e03;walk_at"";refine fj ?_;rcases hd with rfl|rfl|rfl|rfl
  ·rw[Em rfl];refine rd_exb (aI ?_);walk_at"";refine⟨v,1,l,s1,_,_,rfl,hsn3,by decide,by decide,λu l2 d2 H4 e4 hL hl2 hd2 hst=>?_⟩;rw[hfn]at hL hst;exact q u H4 (e03.trans e4).et (tb3.ext e4) (by rw[lZ];exact Nr.of hst hL hP (mG per (by decide)))
  ·rw[El (by decide +kernel)];refine rd_exb (aF ?_);walk_at"";refine fj ?_;rw[Em rfl];refine rd_exb (aI ?_);walk_at"";refine⟨v,.ref t3,l,s1,_,_,1,1,_,_,rfl,hsn3,(oF hn3).1,DS (jX hP hs1 (Nat.one_dvd _)) (by omega),dis,tb3,λu l2 d2 H4 e4 t4 hL hl2 hd2 hst=>?_⟩;rw[hfn,(oF hn3).2]at hL hst;have per2:aP (pairF eL F dO) 1290 P:=λx hx=>by show(F (x+P) && !decide (x+P=0))=(F x && !decide (x=0));rw[per x hx,El (by omega),El (by omega)]
   obtain⟨l3,s3,hsn4,hfn4,hl4,hs4⟩:=(Nr.of hst hL hP per2).sn hP hP2 (by decide);walk_at"";refine⟨u,-1,l3,s3,_,_,rfl,hsn4,by decide,by decide,λu2 l5 d5 H5 e5 hL5 hl5 hd5 hst5=>?_⟩;rw[hfn4,yZ]at hL5 hst5;exact q u2 H5 (e03.et.trans (e4.trans e5.et)) (t4.ext e5) (by rw[kX];exact Nr.of hst5 hL5 hP (mG per (by decide)))
  ·rw[El (by decide +kernel)];refine rd_exb (aF ?_);walk_at"";refine fj ?_;rw[El (by decide +kernel)];refine rd_exb (aF ?_);walk_at"";refine fj ?_;rw[El (by decide +kernel)];refine rd_exb (aF ?_);walk_at"";exact q v H3 e03.et tb3 (by rw[kQ];exact(hv.et e03.et).mono (by decide))
  ·rw[El (by decide +kernel)];refine rd_exb (aF ?_);walk_at"";refine fj ?_;rw[El (by decide +kernel)];refine rd_exb (aF ?_);walk_at"";refine fj ?_;rw[Em rfl];refine rd_exb (aI ?_);walk_at"";refine aH λt4 H4 e4 ht4 _=>?_;walk_at"";refine aH λt5 H5 e5 ht5 _=>?_;walk_at"";refine aH λt6 H6 e6 ht6 _=>?_;walk_at"";refine aH λt7 H7 e7 ht7 _=>?_;walk_at"";have e37:=e4.trans (e5.trans (e6.trans e7));have hsn7:=hsn3.ext e37;refine⟨v,0,l,s1,_,_,rfl,hsn7.1,hsn7.2,?_⟩;have hF0:mem l s1 (row F 0 l) (row F l s1) 0=F 0:=congrFun hfn 0;rw[hF0];walk_at"";cases h0:F 0 with
   | true=>
    refine aD (ag.of ht7) (v:=.ref t3) rfl ?_;refine q _ H7 (e03.trans e37).et (tb3.ext e37) ?_;rw[j2,h0,show (λx=>decide (x=0) && true)=dO from funext λx=>Bool.and_true _];obtain⟨⟨a1,a2⟩,_⟩:=oF (hn3.ext e37);exact⟨1,1,a1,qD,by decide,Nat.one_dvd _,by decide⟩
   | false=>
    refine aD (ag.of ht7) (v:=.ref t6) rfl ?_;refine q _ H7 (e03.trans e37).et (tb3.ext e37) ?_;rw[j2,h0,show (λx:Nat=>decide (x=0) && false)=λ_=>false from funext λx=>Bool.and_false _];exact⟨0,1,⟨t6,t4,t5,rfl,e7 _ _ ht6,(e5.trans (e6.trans e7)) _ _ ht4,(e6.trans e7) _ _ ht5⟩,λ_ _=>rfl,by decide,Nat.one_dvd _,by decide⟩
def fR(ws:List Way)(x:Bfs.Pl)(r:Int):Nat->Bool:=λi=>@decide (bE ws x (r,(i:Int))) (Classical.propDecidable _)
def fi{ws:List Way}{x:Bfs.Pl}{r:Int}{i:Nat}:fR ws x r i=true↔bE ws x (r,(i:Int)):=@decide_eq_true_iff _ (Classical.propDecidable _)
def cX.nr{H:Hp}{xs:List V}{m:Int}{ws:List Way}{x:Bfs.Pl}(h:cX H xs m ws x)(ok:HOuse m ws)(ix:f7 m x):∃P,1<=P/\P<=81/\∀r:Int,0<=r->r<m->∃v,bo xs r=some v/\Nr H v (fR ws x r) P 1290:=by
 obtain⟨P,h1,h2,hn⟩:=h.near ok ix;refine⟨P,h1,h2,λr r0 r1=>?_⟩;have hl:=h.1;have hv:xs[r.toNat]?=some xs[r.toNat]:=Dp (show r.toNat<xs.length by omega);obtain⟨F,l,d,hst,hL,hd,hdP,hl2,hF⟩:=hn r.toNat _ hv;have eF:F=fR ws x r:=funext λi=>by rw[DW,hF,fi,DC r0]
 subst eF;have:=dQ hv;rw[DC r0]at this;exact⟨_,this,l,d,hst,hL.per,hd,hdP,by omega⟩
def dS(b s:Int)(o a:List Int):PyData:=.tuple [.int b,.int s,.tuple (o.map PyData.int),.tuple (a.map PyData.int)]
def tT{H:Hp}{q:Addr}{xs:List Int}(h:H q=some (.tup (xs.map V.int))):aQ H 1 (.ref q) (.tuple (xs.map PyData.int)):=
 .inr ⟨q,_,_,rfl,.inl ⟨h,rfl⟩,nU (λi=>(rfl:i=i)) _⟩
def bt.rep{H:Hp}{v:V}{b s:Int}{o a:List Int}(h:bt H v b s o a):aQ H 2 v (dS b s o a):=by obtain⟨p,q,r,rfl,h1,h2,h3⟩:=h;exact .inr ⟨p,_,_,rfl,.inl ⟨h1,rfl⟩,.cons (.inl (rfl:b=b)) (.cons (.inl (rfl:s=s)) (.cons (tT h2) (.cons (tT h3) .nil)))⟩
def dF(F:Nat->Bool):PyData:=@dite _ (∃p:Nat×Nat,Least F p.2 p.1) (Classical.propDecidable _) (λh=>dS h.choose.1 h.choose.2 (row F 0 h.choose.1) (row F h.choose.1 h.choose.2)) (λ_=>.int 0)
def xl{F:Nat->Bool}{l d:Nat}(h:Least F d l):dF F=dS l d (row F 0 l) (row F l d):=by have hx:∃p:Nat×Nat,Least F p.2 p.1:=⟨(l,d),h⟩;unfold dF;rw[dif_pos hx];obtain⟨e1,e2⟩:=hx.choose_spec.one h;rw[e1,e2]
def rM{R:V->PyData->Prop}{g:Nat->PyData}:∀(xs:List V) (k:Nat),(∀i v,xs[i]?=some v->R v (g (k+i)))->Paired R xs ((List.range' k xs.length).map g)
 | [],_,_=>.nil
 | v::xs,k,h=>by show Paired R (v::xs) ((List.range' k (xs.length+1)).map g);rw[List.range'_succ];refine .cons (h 0 v rfl) (rM xs (k+1) λi u hu=>?_);have:=h (i+1) u hu;rw[show k+(i+1)=k+1+i by omega]at this;exact this
def cX.rep{H:Hp}{xs:List V}{m:Int}{ws:List Way}{x:Bfs.Pl}{l:Addr}(h:cX H xs m ws x)(hl:H l=some (.lst xs)):aQ H 3 (.ref l) (.list ((List.range' 0 m.toNat).map λr:Nat=>dF (fR ws x (r:Int)))):=by
 have e:xs.length=m.toNat:=by have:=h.1;omega
 rw[←e];refine .inr ⟨l,_,_,rfl,.inr ⟨hl,rfl⟩,rM xs 0 λi v hv=>?_⟩;obtain⟨F,b,d,hst,hL,_,_,hF⟩:=h.2 i v hv;have eF:F=fR ws x (i:Int):=funext λk=>by rw[DW,hF k,fi]
 subst eF;show aQ H 2 v (dF (fR ws x ((0+i:Nat):Int)));rw[Nat.zero_add,xl hL];exact hst.rep
def cX.et{H H':Hp}(e:Et H H'){vs:List V}{m:Int}{ws:List Way}{x:Bfs.Pl}(h:cX H vs m ws x):cX H' vs m ws x:=⟨h.1,λr v hv=>by obtain⟨F,l,d,h1,h2⟩:=h.2 r v hv;exact⟨F,l,d,h1.et e,h2⟩⟩
def dk{H H':Hp}(e:Et H H'){l:Addr}{xs:List V}(h:H l=some (.lst xs)):H' l=some (.lst xs):=e _ _ h (λ_ z=>by cases z)
def eZ{H H':Hp}(e:Et H H'){l:Addr}{xs:List V}(h:H l=some (.tup xs)):H' l=some (.tup xs):=e _ _ h (λ_ z=>by cases z)
def pU{w:Way}(hd:bI w.deed){F:Nat->Bool}{n:Nat}:du w.deed F n=true↔∃k:Nat,F k=true/\cw w w.room (k:Int)=true/\(n:Int)=(k:Int)+rz w.deed:=by
 constructor
 ·intro h;rcases hd with e|e|e|e
  ·rw[e,lZ]at h;have h':(decide ((1:Int)<=(n:Int)) && F ((n:Int)-1).toNat)=true:=h;rw[DX,decide_eq_true_iff]at h';exact⟨_,h'.2,fb rfl (.inl e),by rw[e,iU];omega⟩
  ·rw[e,kX]at h;have h':(decide ((-1:Int)<=(n:Int)) && F ((n:Int) - -1).toNat)=true:=h;rw[DX,decide_eq_true_iff]at h';exact⟨_,h'.2,fb rfl (.inr (.inr (.inl ⟨e,by omega⟩))),by rw[e,jH];omega⟩
  ·rw[e,kQ]at h;exact⟨n,h,fb rfl (.inr (.inl e)),by rw[e,jZ];omega⟩
  ·rw[e,j2]at h;have h':(decide (n=0) && F 0)=true:=h;rw[DX,decide_eq_true_iff]at h';exact⟨0,h'.2,fb rfl (.inr (.inr (.inr ⟨e,rfl⟩))),by rw[e,mE];omega⟩
 ·rintro⟨k,h1,h2,h3⟩;rcases fX hd h2 with⟨e,z⟩|⟨e,z⟩|⟨e,hn,z⟩|⟨e,hn,z⟩<;>rw[z]at h3<;>rw[e]
  ·rw[lZ];show(decide ((1:Int)<=(n:Int)) && F ((n:Int)-1).toNat)=true;rw[Em (by omega),Bool.true_and,show ((n:Int)-1).toNat=k by omega];exact h1
  ·rw[kQ];rw[show n=k by omega];exact h1
  ·rw[kX];show(decide ((-1:Int)<=(n:Int)) && F ((n:Int) - -1).toNat)=true;rw[Em (by omega),Bool.true_and,show ((n:Int) - -1).toNat=k by omega];exact h1
  ·rw[j2];show(decide (n=0) && F 0)=true;rw[Em (by omega),Bool.true_and,show 0=k by omega];exact h1
def om{f g:Nat->Bool}:(∀n,pairF eL f g n=false)↔∀n,f n=true->g n=true:=by refine forall_congr' λn=>?_;show(f n && !g n)=false↔_;cases f n<;>cases g n<;>simp
def zS{m:Int}{ws:List Way}(ok:∀w∈ws,w.Ok m){x:Bfs.Pl}{w:Way}(hw:w∈ws)(n:Nat)(h:du w.deed (fR ws x w.room) n=true):fR ws x w.other n=true:=by obtain⟨k,h1,h2,h3⟩:=(pU (ok w hw).dd).mp h;refine fi.mpr ((fi.mp h1).trans (.one ⟨w,hw,h2,Prod.ext rfl h3⟩))
def A9{m:Int}{ws:List Way}(ok:∀w∈ws,w.Ok m){x:Bfs.Pl}(hx:0<=x.2){w:Way}(hd:bI w.deed)(okw:w.Ok m)(h:∀n,du w.deed (fR ws x w.room) n=true->fR ws x w.other n=true){y:Bfs.Pl}:bE (ws++[w]) x y↔bE ws x y:=by
 constructor
 ·rintro⟨n,r⟩;have:∀z:Bfs.Pl,Bfs.Rw (dm (ws++[w])) n z y->z=x->bE ws x y/\0<=y.2:=by
   intro z r;induction r with
   | nil=>rintro rfl;exact⟨.refl,hx⟩
   | @snoc n z y y2 hw hs ih=>
    rintro rfl;obtain⟨a1,a2⟩:=ih (by first|exact hw|exact ⟨_,hw⟩|skip) rfl;have hin:0<=y2.2:=(eA (m:=m) (ws:=ws++[w]) (λu hu=>by
     rcases DL.mp hu with c|c
     ·exact ok u c
     ·rw[Dz.mp c];exact okw) hs a2).2.2.1
    refine⟨?_,hin⟩;obtain⟨u,hu,ho,e⟩:=hs;rcases DL.mp hu with c|c
    ·exact a1.trans (.one ⟨u,c,ho,e⟩)
    ·have c':=Dz.mp c;subst c';have hr:=gh ho;have e1:y2.1=u.other:=by rw[e]
     have e2:y2.2=y.2+rz u.deed:=by rw[e]
     have:=h y2.2.toNat ((pU hd).mpr ⟨y.2.toNat,fi.mpr (by rw[DC a2,hr];exact a1),by rw[DC a2,hr];exact ho,by rw[DC a2,DC hin];exact e2⟩);have:=fi.mp this;rw[DC hin,←e1]at this;exact this
  exact(this x r rfl).1
 ·rintro⟨n,r⟩;exact⟨n,r.imp λa c ⟨u,hu,h⟩=>⟨u,Eb _ hu,h⟩⟩
def AV{m:Int}{ws:List Way}(ok:HOuse3 m ws){r o:Int}{d:Str}(r0:0<=r)(r1:r<m)(o0:0<=o)(o1:o<m)(hd:bI d):HOuse m (ws++[⟨r,d,o,"y"⟩])/\(⟨r,d,o,"y"⟩:Way).Ok m:=by
 have hw:(⟨r,d,o,"y"⟩:Way).Ok m:=⟨r0,r1,o0,o1,hd,121,by decide,by decide,show DY "y" = _ by decide +kernel⟩;have few:=ok.few;refine⟨⟨ok.m1,ok.m12,by rw[DG];show ws.length+1<=100;omega,λu hu=>?_,fY ok.nd λz=>?_⟩,hw⟩
 ·rcases DL.mp hu with c|c
  ·exact(ok.ok u c).ok
  ·rw[Dz.mp c];exact hw
 ·obtain⟨c,c1,c2,c3⟩:=(ok.ok _ z).sg;have c4:DY "y" = ⟨#[c]⟩:=c3;have:(⟨#[121]⟩:Str)=⟨#[c]⟩:=by rw[←c4];decide +kernel
  injection this with this
  have:(121:Nat)=c:=by injection this with this;injection this
  omega
def zG{e:Int}(h0:0<=e)(h1:e<4):∃z,bo ([.str "up",.str "down",.str "stay",.str "zero"]:List V) e=some (.str z)/\bI z:=by
 have:e=0\/e=1\/e=2\/e=3:=by omega
 rcases this with rfl|rfl|rfl|rfl
 ·exact⟨_,rfl,iB⟩
 ·exact⟨_,rfl,jg⟩
 ·exact⟨_,rfl,gr⟩
 ·exact⟨_,rfl,jR⟩
def dH(k:Nat):Nat->Bool:=λx=>decide (x=k)
def Af{H:Hp}{v:V}{k P:Nat}(h:bt H v ((k:Int)+1) 1 [(k:Int)] [])(hk:k<=40):Nr H v (dH k) P 41:=by
 have e1:row (dH k) 0 (k+1)=[(k:Int)]:=by
  have e0:row (dH k) 0 k=[]:=by unfold row;rw[List.map_eq_nil_iff,List.filter_eq_nil_iff];intro i hi;have:=List.mem_range.mp hi;show ¬decide (0+i=k)=true;rw[decide_eq_true_iff];omega
  rw[nK,e0,Nat.zero_add];unfold row;simp[dH]
 have e2:row (dH k) (k+1) 1=[]:=by unfold row;rw[List.map_eq_nil_iff,List.filter_eq_nil_iff];intro i hi;show ¬decide (k+1+i=k)=true;rw[decide_eq_true_iff];omega
 refine⟨k+1,1,by rw[e1,e2];exact h,λx hx=>?_,by decide,Nat.one_dvd _,by omega⟩;show decide (x+1=k)=decide (x=k);rw[El (by omega),El (by omega)]
def zW{F:Nat->Bool}{k:Nat}{v:V}(h:kE F (pairF gZ F (dH k)) v):v=if F k=true then .non else .int k:=by
 rcases h with⟨rfl,h⟩|⟨j,rfl,h1,h2⟩
 ·have:=h k;have e:F k=(F k || decide (k=k)):=this;rw[Em rfl,Bool.or_true]at e;rw[Eo e]
 ·have e:¬F j=(F j || decide (j=k)):=h1;have hj:j=k:=Classical.byContradiction λz=>e (by rw[El z,Bool.or_false]);subst hj;rw[En λz=>e (by rw[z,Bool.true_or])]
def CF{F:Nat->Bool}{k:Nat}:(∀n,pairF eL (dH k) F n=false)↔F k=true:=by
 rw[om];constructor
 ·exact λh=>h k (Em rfl)
 ·intro h n hn;rw[of_decide_eq_true hn];exact h
def mT{K:Dj}{H:Hp}{v1 v2:V}{f1 f2:Nat->Bool}{P B1 B2:Nat}(h1:Nr H v1 f1 P B1)(h2:Nr H v2 f2 P B2)(hP:1<=P)(hP2:P<=81)(hB1:B1<=1300)(hB2:B2<=1300)(dis:cR K)(tb:Tbs K H){Q:VK}{E}(q:∀b H',Et H H'->Tbs K H'->(b=true↔∀n,f1 n=true->f2 n=true)->Q (.bl b) H'):oy K [v1,v2] H Q E:=by obtain⟨l1,d1,s1,e1,_,p1⟩:=h1.sn hP hP2 hB1;obtain⟨l2,d2,s2,e2,_,p2⟩:=h2.sn hP hP2 hB2;have:=jX hP p1 p2;refine⟨v1,v2,l1,d1,_,_,l2,d2,_,_,rfl,s1,s2,by omega,dis,tb,λb H' e t hb=>q b H' e t ?_⟩;rw[e1,e2,om]at hb;exact hb
def jC(K:Dj):Sp:=λvs H Q _=>∃(a:Addr) (ns:List Int),vs=[.ref a]/\ag K H a (ns.map V.int)/\ns.length<=63/\(∀y∈(["either","kept","less","low_levels","parting","risen"]:List Str),∀c T,PySem.W.tabIn K y=some (c,T)->H T=some (.tbl #[]))/\cR K/\∀H',Q (.bl true) H'
abbrev eY:Stmt:=stq 81
def sR:FnScope ["_law_script","_law_house_here","_law_place_here","_law_draws_here","_law_stairs","_law_room","_law_deed","_law_other","_law_sign","_law_wider","_law_x","_law_one","_law_more","_law_due"] ["_law_script"] (aC eY):=⟨rfl,rfl,rfl,by decide +kernel,rfl,by decide +kernel,by decide +kernel⟩
def A1{P:Program}{w:World}{K:Dj}{mg:Str->Option Value}{base:Heap}{f:Addr}{fd:FuncData}(F:Fun K "law" "law" eY f fd)(T:Blt mg)(C_within:Cal P w K mg base "within" 9 ["one","other"] (oy K))(C_parting:Cal P w K mg base "parting" 8 ["one","other"] (kM K))(C__law_holds:Cal P w K mg base "_law_holds" 1 ["_law_stair","_law_x"] (qz K))(C_either:Cal P w K mg base "either" 8 ["one","other"] (nL K))(C_forward:Cal P w K mg base "forward" 10 ["house","place"] (rg K))(C__law_part:Cal P w K mg base "_law_part" 9 ["_law_stair","_law_deed"] (qc K))(C__law_draws:Cal P w K mg base "_law_draws" 2 ["_law_cell_here","_law_widths","_law_prime"] (fg K))(C__law_cell:Cal P w K mg base "_law_cell" 1 ["_law_script","_law_k"] (qv K))(C__law_place:Cal P w K mg base "_law_place" 3 ["_law_house_here","_law_cell_here","_law_prime"] (qO K))(C__law_house:Cal P w K mg base "_law_house" 4 ["_law_cell_here","_law_prime"] (uV K)):FnOk P w K mg base cy 11 f fd ["_law_script"] (jC K):=by
 have nd:=(sR).nd;refine F.ok sR (λvs H Q E h=>?_) (λcdv A outer s H vs Q E hr h=>?_)
 ·obtain⟨a,ns,rfl,_⟩:=h;rfl
 ·obtain⟨a,ns,rfl,ha,hl,hT,dis,q⟩:=h;have tab0:Tbs K H:=⟨λc T e=>.inl (hT _ (by simp) c T e),λc T e=>.inl (hT _ (by simp) c T e),λc T e=>.inl (hT _ (by simp) c T e),λc T e=>.inl (hT _ (by simp) c T e),λc T e=>.inl (hT _ (by simp) c T e),λc T e=>.inl (hT _ (by simp) c T e)⟩;clear hT;refine⟨_,(@ah _ _ _ _ _ (@aA _ _ 1 _ _ _ _ nd rfl (Or.inl rfl) (av C__law_house hr (@aa _ _ _ _ _ (av C__law_cell hr (@aa _ _ _ _ _ (pv 0) (@aa _ _ _ _ _ af ae rfl) rfl)) (@aa _ _ _ _ _ af ae rfl) rfl)) rfl (Or.inl rfl))
    (@ah _ _ _ _ _ (@aA _ _ 2 _ _ _ _ nd rfl (Or.inl rfl) (av C__law_place hr (@aa _ _ _ _ _ (pv 1) (@aa _ _ _ _ _ (av C__law_cell hr (@aa _ _ _ _ _ (pv 0) (@aa _ _ _ _ _ af ae rfl) rfl)) (@aa _ _ _ _ _ af ae rfl) rfl) rfl)) rfl (Or.inl rfl))
    (@ah _ _ _ _ _ (@aA _ _ 3 _ _ _ _ nd rfl (Or.inl rfl) (av C__law_draws hr (@aa _ _ _ _ _ (av C__law_cell hr (@aa _ _ _ _ _ (pv 0) (@aa _ _ _ _ _ af ae rfl) rfl)) (@aa _ _ _ _ _ (@bw _ _ _ _ (gU (.c (.c (.c (.c .n)))))) (@aa _ _ _ _ _ af ae rfl) rfl) rfl)) rfl (Or.inl rfl))
    (@ah _ _ _ _ _ (@aA _ _ 4 _ _ _ _ nd rfl (Or.inl rfl) (av C_forward hr (@aa _ _ _ _ _ (pv 1) (@aa _ _ _ _ _ (pv 2) ae rfl) rfl)) rfl (Or.inl rfl))
    (@ah _ _ _ _ _ (bG PassesOwn.never rfl (fQ K (@ai _ _ _ _ _ _ _ (ay K) (pv 1) af (λ_ _=>rfl))) (gF (n:=4) K rfl (bX (aN (i:=5) nd rfl (Or.inl rfl)) (bX (aN (i:=6) nd rfl (Or.inl rfl)) (bX (aN (i:=7) nd rfl (Or.inl rfl)) (bX (aN (i:=8) nd rfl (Or.inl rfl)) fS))))) (@ao _ _ _ (@bq _ _ _ _ _ _ _ _ (aR zl (av C_within hr (@aa _ _ _ _ _ (av C__law_part hr (@aa _ _ _ _ _ (@ai _ _ _ _ _ _ _ (aE K) (pv 4) (pv 5) (λ_ _=>rfl)) (@aa _ _ _ _ _ (pv 6) ae rfl) rfl)) (@aa _ _ _ _ _ (@ai _ _ _ _ _ _ _ (aE K) (pv 4) (pv 7) (λ_ _=>rfl)) ae rfl) rfl)) bA (aM _)) (@ao _ _ _ (@aB _ _ _ _ bA)) aT)))
    (@ah _ _ _ _ _ (@aA _ _ 5 _ _ _ _ nd rfl (Or.inl rfl) (aq bN (@ai _ _ _ _ _ _ _ (aE K) (pv 3) af (λ_ _=>rfl)) (@ai _ _ _ _ _ _ _ (ay K) (pv 1) af (λ_ _=>rfl))) rfl (Or.inl rfl))
    (@ah _ _ _ _ _ (@aA _ _ 7 _ _ _ _ nd rfl (Or.inl rfl) (aq bN (@ai _ _ _ _ _ _ _ (aE K) (pv 3) af (λ_ _=>rfl)) (@ai _ _ _ _ _ _ _ (ay K) (pv 1) af (λ_ _=>rfl))) rfl (Or.inl rfl))
    (@ah _ _ _ _ _ (@aA _ _ 6 _ _ _ _ nd rfl (Or.inl rfl) (@ai _ _ _ _ _ _ _ (aE K) (@bw _ _ _ _ (@aa _ _ _ _ _ aO (@aa _ _ _ _ _ aO (@aa _ _ _ _ _ aO (@aa _ _ _ _ _ aO ae rfl) rfl) rfl) rfl)) (@ai _ _ _ _ _ _ _ (aE K) (pv 3) af (λ_ _=>rfl)) (λ_ _=>rfl)) rfl (Or.inl rfl))
    (@ah _ _ _ _ _ (@aA _ _ 9 _ _ _ _ nd rfl (Or.inl rfl) (@bz _ _ _ _ _ (@aa _ _ _ _ _ (@ai _ _ _ _ _ _ _ (ay K) (pv 1) af (λ_ _=>rfl)) (@aa _ _ _ _ _ (aq tP (@ai _ _ _ _ _ _ _ (ay K) (pv 1) af (λ_ _=>rfl)) (@bz _ _ _ _ _ (@aa _ _ _ _ _ (@bz _ _ _ _ _ (@aa _ _ _ _ _ (pv 5) (@aa _ _ _ _ _ (pv 6) (@aa _ _ _ _ _ (pv 7) (@aa _ _ _ _ _ aO ae rfl) rfl) rfl) rfl)) ae rfl))) ae rfl) rfl)) rfl (Or.inl rfl))
    (@ah _ _ _ _ _ (cN (PW.pt (mn (bH (av C_within hr (@aa _ _ _ _ _ (av C__law_part hr (@aa _ _ _ _ _ (@ai _ _ _ _ _ _ _ (aE K) (pv 4) (pv 5) (λ_ _=>rfl)) (@aa _ _ _ _ _ (pv 6) ae rfl) rfl)) (@aa _ _ _ _ _ (@ai _ _ _ _ _ _ _ (aE K) (pv 4) (pv 7) (λ_ _=>rfl)) ae rfl) rfl))) (oN (aR (tG hr) (av C_forward hr (@aa _ _ _ _ _ (pv 9) (@aa _ _ _ _ _ (pv 2) ae rfl) rfl)) (pv 4) (aM _))))) (@ao _ _ _ (@aB _ _ _ _ bA)) aT)
    (@ah _ _ _ _ _ (@aA _ _ 10 _ _ _ _ nd rfl (Or.inl rfl) (@ai _ _ _ _ _ _ _ (aE K) (pv 3) af (λ_ _=>rfl)) rfl (Or.inl rfl))
    (@ah _ _ _ _ _ (@aA _ _ 11 _ _ _ _ nd rfl (Or.inl rfl) (@bz _ _ _ _ _ (@aa _ _ _ _ _ (aq aS (pv 10) af) (@aa _ _ _ _ _ af (@aa _ _ _ _ _ (@bz _ _ _ _ _ (@aa _ _ _ _ _ (pv 10) ae rfl)) (@aa _ _ _ _ _ (@bz _ _ _ _ _ ae) ae rfl) rfl) rfl) rfl)) rfl (Or.inl rfl))
    (@ah _ _ _ _ _ (@aA _ _ 12 _ _ _ _ nd rfl (Or.inl rfl) (av C_either hr (@aa _ _ _ _ _ (@ai _ _ _ _ _ _ _ (aE K) (pv 4) (pv 5) (λ_ _=>rfl)) (@aa _ _ _ _ _ (pv 11) ae rfl) rfl)) rfl (Or.inl rfl))
    (@ah _ _ _ _ _ (@aA _ _ 13 _ _ _ _ nd rfl (Or.inl rfl) i6 rfl (Or.inl rfl))
    (@ah _ _ _ _ _ (cN (cK (bH (av C__law_holds hr (@aa _ _ _ _ _ (@ai _ _ _ _ _ _ _ (aE K) (pv 4) (pv 5) (λ_ _=>rfl)) (@aa _ _ _ _ _ (pv 10) ae rfl) rfl)))) (@ao _ _ _ (@aA _ _ 13 _ _ _ _ nd rfl (Or.inl rfl) (pv 10) rfl (Or.inl rfl))) aT)
    (@ao _ _ _ (@aB _ _ _ _ (cW (cE bT (av C_parting hr (@aa _ _ _ _ _ (@ai _ _ _ _ _ _ _ (aE K) (pv 4) (pv 5) (λ_ _=>rfl)) (@aa _ _ _ _ _ (pv 12) ae rfl) rfl)) (pv 13) (aM _)) (cM (cE bT (cE uJ (pv 13) i6 (aM _)) (cE zP (av C_within hr (@aa _ _ _ _ _ (pv 11) (@aa _ _ _ _ _ (@ai _ _ _ _ _ _ _ (aE K) (pv 4) (pv 5) (λ_ _=>rfl)) ae rfl) rfl)) bA (aM _)) (aM _))))))))))))))))))))),?_⟩
  walk_at"";refine⟨a,ns,0,rfl,ha,hl,by decide,λz=>?_⟩;walk_at"";refine⟨z,_,rfl,by decide,λv m ws H1 e1 hv ok3=>?_⟩;have ok:=ok3.house;have m1:=ok.m1;have m2:=ok.m12;have ha1:=ha.ext e1;walk_at"";refine⟨a,ns,1,rfl,ha1,hl,by decide,λz2=>?_⟩;walk_at"";refine⟨v,m,ws,z2,_,rfl,hv,m1,by decide,λpa x H2 e2 hpx x0 x1 x2 x3=>?_⟩;have ix:f7 m x:=⟨x0,x1,x2,by omega⟩;walk_at"";refine⟨a,ns,2,rfl,ha1.ext e2,hl,by decide,λz3=>?_⟩;walk_at"";refine aH λw0 H3 e3 hw0 _=>?_;walk_at"";refine⟨z3,w0,[12,4,12,40],_,rfl,hw0,by decide,by decide,by decide,λdq ds H4 e4 hd hdn hdl hb=>?_⟩;obtain⟨d0,g0,b00,b01⟩:=bU hdl hb 0 rfl;obtain⟨d1,g1,b10,b11⟩:=bU hdl hb 1 rfl;obtain⟨d2,g2,b20,b21⟩:=bU hdl hb 2 rfl;obtain⟨d3,g3,b30,b31⟩:=bU hdl hb 3 rfl;have e24:=e3.trans e4;have tb4:=tab0.ext (e1.trans (e2.trans e24));have hv4:=hv.ext (e2.trans e24);have hx4:=e24 _ _ hpx;clear tab0 e1 e2 e3 e4 e24 ha ha1 hv hpx hw0 hdl hb;walk_at"";refine⟨v,m,ws,pa,x,rfl,hv4,ok,hx4,ix,dis,tb4,λsl xs H5 e5 tb5 _ hsl fw=>?_⟩;have hxl:=fw.1;obtain⟨P,hP,hP2,hnr⟩:=fw.nr ok ix;have hv5:=hv4.et e5;have hx5:=eZ e5 hx4;have hd5:=dk e5 hd;obtain⟨hp0,hq0,rfl,hh,hw⟩:=id hv5;obtain⟨bs,hq,hal⟩:=bL.al hw;have hbl:=hal.1;have few:=ok3.few;clear hd hv4 hx4 e5 tb4;walk_at"";refine az (aj.of hh) (v:=.ref hq0) rfl ?_;walk_at"";refine fN (aj.of hq) ?_;refine iD (xs:=bs.map V.ref) (λi σ H'=>∃k5 k6 k7 k8,σ=[some (.ref a),some (.ref hp0),some (.ref pa),some (.ref dq),some (.ref sl),k5,k6,k7,k8,none,none,none,none,none]/\Et H5 H'/\Tbs K H') ⟨none,none,none,none,rfl,(Ext.rfl' _).et,tb5⟩ (λi σ H' _ h=>by obtain⟨_,_,_,_,_,e,_⟩:=h;exact aj.of (eZ e hq)) ?_ ?_
  ·rintro i u σ H6 hu ⟨k5,k6,k7,k8,rfl,e6,tb6⟩;rw[Dr]at hu;obtain⟨b,hb,rfl⟩:=DA.mp hu;have hi:i<ws.length:=by rw[←hbl];exact(Dx.mp hb).1
   have hwi:ws[i]?=some ws[i]:=Dp hi;have hw6:=eZ e6 (hal.2 i b _ hb hwi);have hmem:ws[i]∈ws:=DO hi;clear hwi;generalize ws[i]=w at hw6 hmem;have okw:=ok.ok _ hmem;obtain⟨v1,hv1,n1⟩:=hnr w.room okw.r0 okw.r1;obtain⟨v2,hv2,n2⟩:=hnr w.other okw.o0 okw.o1;refine il (aj.of hw6) rfl ?_;walk_at"";refine aD (ag.of (dk e6 hsl)) hv1 ?_;walk_at"";refine⟨v1,w.deed,_,P,rfl,okw.dd,hP,hP2,n1.et e6,dis,tb6,λu1 H7 e7 tb7 n3=>?_⟩;walk_at"";refine aD (ag.of (dk (e6.trans e7) hsl)) hv2 ?_;walk_at"";refine mT n3 (n2.et (e6.trans e7)) hP hP2 (by decide) (by decide) dis tb7 λb H8 e8 tb8 hb=>?_;have hbT:b=true:=hb.mpr (zS ok.ok hmem);subst hbT;walk_at"";refine⟨_,_,rfl,rfl,?_⟩;refine rd_exb (aF ?_);walk_at"";exact⟨_,_,_,_,rfl,e6.trans (e7.trans e8),tb8⟩
  rintro σ H6 ⟨k5,k6,k7,k8,rfl,e6,tb6⟩;have hd6:=dk e6 hd5;have hh6:=eZ e6 hh;have hq6:=eZ e6 hq;have hal6:aL H6 bs ws:=⟨hal.1,λj b w e1 e2=>eZ e6 (hal.2 j b w e1 e2)⟩;have hx6:=eZ e6 hx5;have hsl6:=dk e6 hsl;have fw6:=fw.et e6;have hnr6:∀r:Int,0<=r->r<m->∃v,bo xs r=some v/\Nr H6 v (fR ws x r) P 1290:=λr r0 r1=>by obtain⟨v,h1,h2⟩:=hnr r r0 r1;exact⟨v,h1,h2.et e6⟩
  clear hd5 hh hq hal hx5 hsl fw hnr hv5 hw e6 tb5;walk_at"";refine aD (ag.of hd6) g0 ?_;walk_at"";refine az (aj.of hh6) (v:=.int m) rfl ?_
  try refine rd_I (show(0:Int)<m by omega) ?_
  walk_at"";refine aD (ag.of hd6) g2 ?_;walk_at"";refine az (aj.of hh6) (v:=.int m) rfl ?_
  try refine rd_I (show(0:Int)<m by omega) ?_
  have r0:=Int.emod_nonneg d0 (show m≠0 by omega);have r1:=Int.emod_lt_of_pos d0 (show 0<m by omega);have o0:=Int.emod_nonneg d2 (show m≠0 by omega);have o1:=Int.emod_lt_of_pos d2 (show 0<m by omega);generalize d0 % m=r at r0 r1 ⊢;generalize d2 % m=o at o0 o1 ⊢;walk_at"";refine aH λw1 H7 e7 hw1 _=>?_;walk_at"";refine aD (ag.of (e7 _ _ hd6)) g1 ?_;obtain⟨z4,hz4,okz⟩:=zG b10 b11;refine aD (ag.of hw1) hz4 ?_;walk_at"";refine az (aj.of (e7 _ _ hh6)) (v:=.int m) rfl ?_;walk_at"";refine az (aj.of (e7 _ _ hh6)) (v:=.ref hq0) rfl ?_;walk_at"";refine aH λw2 H8 e8 hw2 _=>?_;walk_at"";refine aH λw3 H9 e9 hw3 _=>?_;have e69:=e7.trans (e8.trans e9);refine rm (e69 _ _ hq6) hw3 (bD (by rw[Dn];simp;omega)) λw4 H10 e10 hw4=>?_;walk_at"";refine aH λw5 H11 e11 hw5 _=>?_;have e611:=e69.trans (e10.trans e11);obtain⟨okW,okw⟩:=AV ok3 r0 r1 o0 o1 okz;have hvW:bx H11 (.ref w5) m (ws++[⟨r,z4,o,"y"⟩]):=bx.mk hw5 (((hal6.ext e611).snoc (w:=⟨r,z4,o,"y"⟩) ((e9.trans (e10.trans e11)) _ _ hw2)).ways (by rw[DF];exact e11 _ _ hw4));have tb11:=tb6.ext e611;have hd11:=e611 _ _ hd6;have hx11:=e611 _ _ hx6;have hsl11:=e611 _ _ hsl6;have fw11:=fw6.ext e611;obtain⟨v1,hv1,n1⟩:=hnr6 r r0 r1;obtain⟨v2,hv2,n2⟩:=hnr6 o o0 o1;have n1:=n1.et e611.et;have n2:=n2.et e611.et;clear hnr6 hd6 hh6 hq6 hal6 hx6 hsl6 fw6 tb6 e611 e69 e7 e8 e9 e10 e11 hw1 hw2 hw3 hw4 hw5;walk_at"";refine ft (λσ H'=>σ=[some (.ref a),some (.ref hp0),some (.ref pa),some (.ref dq),some (.ref sl),some (.int r),some (.str z4),some (.int o),k8,some (.ref w5),none,none,none,none]/\Et H11 H'/\Tbs K H') ?_ ?_
  ·walk_at"";refine aD (ag.of hsl11) hv1 ?_;walk_at"";refine⟨v1,z4,_,P,rfl,okz,hP,hP2,n1,dis,tb11,λu1 H12 e12 tb12 n3=>?_⟩;walk_at"";refine aD (ag.of (dk e12 hsl11)) hv2 ?_;walk_at"";refine mT n3 (n2.et e12) hP hP2 (by decide) (by decide) dis tb12 λb H13 e13 tb13 hb=>?_;have e1113:=e12.trans e13;cases b with
   | false=>
    refine rd_exb (aF ?_);walk_at"";exact⟨rfl,e1113,tb13⟩
   | true=>
    refine rd_exb (aI ?_);walk_at"";refine⟨_,m,_,pa,x,rfl,hvW.et e1113,okW,eZ e1113 hx11,ix,dis,tb13,λl2 xs2 H14 e14 tb14 _ hl2 fw2=>?_⟩;have e1114:=e1113.trans e14;have hr1:=fw2.rep hl2;have eR:(λr':Nat=>dF (fR (ws++[⟨r,z4,o,"y"⟩]) x (r':Int)))=λr':Nat=>dF (fR ws x (r':Int)):=funext λr'=>by congr 1;funext i;rw[DW,fi,fi];exact A9 ok.ok ix.2.2.1 okw.dd okw (hb.mp rfl)
    rw[eR]at hr1;walk_at"";refine⟨3,3,_,_,hr1,(fw11.et e1114).rep (dk e1114 hsl11),by decide,?_⟩;rw[SeqAt.eqv_refl _ (aQ.lay 3 hr1).1];refine rd_exb (aF ?_);walk_at"";exact⟨rfl,e1114,tb14⟩
  rintro σ H12 ⟨rfl,e12,tb12⟩;have hsl12:=dk e12 hsl11;have n1:=n1.et e12;obtain⟨l1,s1,hsn,hfn,hl1,hs1⟩:=n1.sn hP hP2 (by decide);walk_at"";refine aD (ag.of (dk e12 hd11)) g3 ?_;walk_at"";obtain⟨k,rfl⟩:∃k:Nat,d3=(k:Int):=⟨d3.toNat,by omega⟩;refine aH λt1 H13 e13 ht1 _=>?_;walk_at"";refine aH λt2 H14 e14 ht2 _=>?_;walk_at"";refine aH λt3 H15 e15 ht3 _=>?_;have e1215:=e13.trans (e14.trans e15);have hone:Nr H15 (.ref t3) (dH k) P 41:=Af ⟨t3,t1,t2,rfl,ht3,(e14.trans e15) _ _ ht1,e15 _ _ ht2⟩ (by omega);have tb15:=tb12.ext e1215;have hsl15:=e1215 _ _ hsl12;have hsn15:=hsn.ext e1215;have n15:=n1.et e1215.et;have hp1:=n1.per;have hp2:=hone.per;obtain⟨l2,s2,hsn2,hfn2,hl2,hs2⟩:=hone.sn hP hP2 (by decide);walk_at"";refine aD (ag.of hsl15) hv1 ?_;walk_at"";refine⟨v1,.ref t3,l1,s1,_,_,l2,s2,_,_,rfl,hsn15,hsn2,DS (jX hP hs1 hs2) (by omega),dis,tb15,λu l4 d4 H16 e16 tb16 hL _ _ hst=>?_⟩;rw[hfn,hfn2]at hL hst;have n4:Nr H16 u (pairF gZ (fR ws x r) (dH k)) P 1290:=Nr.of hst hL hP λy hy=>by show(fR ws x r (y+P) || dH k (y+P))=(fR ws x r y || dH k y);rw[hp1 y hy,hp2 y (by omega)]
  walk_at"";refine ft (λσ H'=>H'=H16/\σ=[some (.ref a),some (.ref hp0),some (.ref pa),some (.ref dq),some (.ref sl),some (.int r),some (.str z4),some (.int o),k8,some (.ref w5),some (.int k),some (.ref t3),some u,some (if fR ws x r k=true then .non else .int k)]) ?_ ?_
  ·walk_at"";refine aD (ag.of (dk e16 hsl15)) hv1 ?_;walk_at"";refine⟨v1,(k:Int),_,_,_,_,rfl,(hsn15.et e16).1,hsn.2.ok,?_⟩;have hFk:mem l1 s1 (row (fR ws x r) 0 l1) (row (fR ws x r) l1 s1) k=fR ws x r k:=congrFun hfn k;rw[hFk];walk_at"";cases hF:fR ws x r k with
   | true=>
    refine aF ?_;walk_at"";exact⟨rfl,rfl⟩
   | false=>
    refine aI ?_;walk_at"";exact⟨rfl,rfl⟩
  rintro σ H17 ⟨rfl,rfl⟩;walk_at"";refine aD (ag.of (dk e16 hsl15)) hv1 ?_;walk_at"";obtain⟨l4,s4,hsn4,hfn4,hl4,hs4⟩:=n4.sn hP hP2 (by decide);refine⟨v1,u,l1,s1,_,_,l4,s4,_,_,rfl,hsn15.et e16,hsn4,DS (jX hP hs1 hs4) (by omega),dis,tb16,λpv H18 e18 tb18 hpv=>?_⟩;rw[hfn,hfn4]at hpv;have hpv':=zW hpv;subst hpv';walk_at"";have e1518:=e16.trans e18;refine⟨by cases fR ws x r k<;>rfl,?_⟩;rw[Em rfl];refine rd_exb (aI ?_);walk_at"";refine⟨rfl,?_⟩;walk_at"";refine aD (ag.of (dk e1518 hsl15)) hv1 ?_;walk_at"";refine mT (hone.et e1518) (n15.et e1518) hP hP2 (by decide) (by decide) dis tb18 λb H19 _ _ hb=>?_;rw[←om,CF]at hb;have hbe:b=fR ws x r k:=DW.mpr hb;subst hbe;walk_at"";refine⟨_,_,rfl,rfl,?_⟩;refine⟨rfl,?_⟩;rw[show decide (V.bl (decide ((if fR ws x r k=true then V.non else V.int k)=V.non))=V.bl (fR ws x r k == true))=true by cases fR ws x r k<;>rfl];exact q _
abbrev Dq(K:Dj)(mg:Str->Option Value)(x:Str)(st:Stmt):Prop:=∃(f:Addr) (fd:FuncData),mg x=some (.ref f)/\Fun K x x st f fd
def dq{K:Dj}{h:Heap}{mg:Str->Option Value}(X:K.In h)(G:h.Ns mainGlobals mg){x:Str}{st:Stmt}{f:Addr}{od an:Option Addr}{sl:Array (Option Value)}{oc kV dc pm cd ct:Value}(a:PySem.W.nsIn K mainGlobals x=some (some (.ref f)))(l:K.lookup f=some ⟨oc,od,.func (PySem.W.fnOf x x (fu st) (dA st) (aC st) .none kV dc pm an cd ct),sl⟩)(c:PySem.W.codeIn K cd x=true)(k:PySem.W.keepIn K (.ref f)=true):Dq K mg x st:=⟨f,_,PySem.W.mg_of X G a,uB (st:=st) l c k⟩
abbrev bd(x:Str)(st:Stmt)(us:List Value)(r:List (Str×Value)):Prop:=∀(kV doc pm:Value) (an:Option Addr) (cdv ct:Value),bindArgs (PySem.W.fnOf x x (fu st) (dA st) (aC st) .none kV doc pm an cdv ct) ⟨us,[]⟩=pure r
def cb{K:Dj}{mg:Str->Option Value}{x:Str}{st:Stmt}(p0:Str)(d:Dq K mg x st)(h:∀u0,bd x st [u0] [(p0,u0)]):Dfn K mg x st [p0]:=let ⟨f,fd,a,F⟩:=d;⟨f,fd,a,F,F.binds (ps:=[p0]) λ_ _ _ _ _ _ us hl=>match us,hl with|[_],_=>h _ _ _ _ _ _ _⟩
def bf{K:Dj}{mg:Str->Option Value}{x:Str}{st:Stmt}(p0 p1:Str)(d:Dq K mg x st)(h:∀u0 u1,bd x st [u0,u1] [(p0,u0),(p1,u1)]):Dfn K mg x st [p0,p1]:=let ⟨f,fd,a,F⟩:=d;⟨f,fd,a,F,F.binds (ps:=[p0,p1]) λ_ _ _ _ _ _ us hl=>match us,hl with|[_,_],_=>h _ _ _ _ _ _ _ _⟩
def f6{K:Dj}{mg:Str->Option Value}{x:Str}{st:Stmt}(p0 p1 p2:Str)(d:Dq K mg x st)(h:∀u0 u1 u2,bd x st [u0,u1,u2] [(p0,u0),(p1,u1),(p2,u2)]):Dfn K mg x st [p0,p1,p2]:=let ⟨f,fd,a,F⟩:=d;⟨f,fd,a,F,F.binds (ps:=[p0,p1,p2]) λ_ _ _ _ _ _ us hl=>match us,hl with|[_,_,_],_=>h _ _ _ _ _ _ _ _ _⟩
def vZ{K:Dj}{mg:Str->Option Value}{x:Str}{st:Stmt}(p0 p1 p2 p3:Str)(d:Dq K mg x st)(h:∀u0 u1 u2 u3,bd x st [u0,u1,u2,u3] [(p0,u0),(p1,u1),(p2,u2),(p3,u3)]):Dfn K mg x st [p0,p1,p2,p3]:=let ⟨f,fd,a,F⟩:=d;⟨f,fd,a,F,F.binds (ps:=[p0,p1,p2,p3]) λ_ _ _ _ _ _ us hl=>match us,hl with|[_,_,_,_],_=>h _ _ _ _ _ _ _ _ _ _⟩
def all_mk{l:PySem.W.OpenLaw}{w:World}{K:Dj}{h:Heap}{mg:Str->Option Value}{fa:Addr}(X:K.In h)(G:h.Ns mainGlobals mg)(hfa:mg "law" = some (.ref fa))
  (d0:Dq K mg "refuse_great_stair" md)
  (d1:Dq K mg "is_whole" lG)
  (d2:Dq K mg "is_rising_row" lJ)
  (d3:Dq K mg "are_stair_places" oh)
  (d4:Dq K mg "is_stair" kN)
  (d5:Dq K mg "refuse_no_stair" lx)
  (d6:Dq K mg "refuse_bad_stair" mO)
  (d7:Dq K mg "first_of" oI)
  (d8:Dq K mg "least_step" mZ)
  (d9:Dq K mg "stair_of_marks" mW)
  (d10:Dq K mg "marks_below" oU)
  (d11:Dq K mg "greatest_divisor" nO)
  (d12:Dq K mg "common_step" nX)
  (d13:Dq K mg "refuse_bad_pair" kW)
  (d14:Dq K mg "chosen" kG)
  (d15:Dq K mg "less" oB)
  (d16:Dq K mg "within" lX)
  (d17:Dq K mg "parting" oY)
  (d18:Dq K mg "_law_holds" oP)
  (d19:Dq K mg "either" nJ)
  (d20:Dq K mg "stair_of_room" mC)
  (d21:Dq K mg "next_level" m6)
  (d22:Dq K mg "reached" lF)
  (d23:Dq K mg "told_pairs" lO)
  (d24:Dq K mg "add_arches" lH)
  (d25:Dq K mg "join_walks" mY)
  (d26:Dq K mg "ways_of_deed" mS)
  (d27:Dq K mg "beginning_table" nI)
  (d28:Dq K mg "kept_table" nF)
  (d29:Dq K mg "is_sign" nH)
  (d30:Dq K mg "is_deed" kI)
  (d31:Dq K mg "is_room" nz)
  (d32:Dq K mg "is_way" kZ)
  (d33:Dq K mg "are_ways" oT)
  (d34:Dq K mg "is_house" oV)
  (d35:Dq K mg "refuse_no_house" mz)
  (d36:Dq K mg "kept" o8)
  (d37:Dq K mg "ways_by_room" kP)
  (d38:Dq K mg "is_open" nB)
  (d39:Dq K mg "raised_by" kU)
  (d40:Dq K mg "led_to" me)
  (d41:Dq K mg "led_to_from" lT)
  (d42:Dq K mg "low_beside" kL)
  (d43:Dq K mg "low_levels" lA)
  (d44:Dq K mg "risen" mQ)
  (d45:Dq K mg "all_levels" mK)
  (d46:Dq K mg "refuse_bad_places" mh)
  (d47:Dq K mg "forward" nk)
  (d48:Dq K mg "holds" lh)
  (d49:Dq K mg "moved" mr)
  (d50:Dq K mg "_law_part" mU)
  (d51:Dq K mg "_law_mixed" lE)
  (d52:Dq K mg "_law_draws" lg)
  (d53:Dq K mg "_law_cell" nv)
  (d54:Dq K mg "_law_place" oR)
  (d55:Dq K mg "_law_unlike" m8)
  (d56:Dq K mg "_law_drawn_house" kT)
  (d57:Dq K mg "_law_gate_house" oK)
  (d58:Dq K mg "_law_ring_house" lK)
  (d59:Dq K mg "_law_spare" lL)
  (d60:Dq K mg "_law_house" mR)
  {f61:Addr} {od61 an61:Option Addr} {sl61:Array (Option Value)} {oc61 kV61 dc61 pm61 cd61 ct61:Value} (a61:PySem.W.nsIn K mainGlobals "law" = some (some (.ref f61))) (l61:K.lookup f61=some ⟨oc61,od61,.func (PySem.W.fnOf "law" "law" (fu eY) (dA eY) (aC eY) .none kV61 dc61 pm61 an61 cd61 ct61),sl61⟩) (c61:PySem.W.codeIn K cd61 "law" = true) (k61:PySem.W.keepIn K (.ref f61)=true)
  (z0:PySem.W.nsIn K mainGlobals "len" = some none)
  (z1:PySem.W.nsIn K mainGlobals "isinstance" = some none)
  (z2:PySem.W.nsIn K mainGlobals "tuple" = some none)
  (z3:PySem.W.nsIn K mainGlobals "list" = some none)
  (z4:PySem.W.nsIn K mainGlobals "int" = some none)
  (z5:PySem.W.nsIn K mainGlobals "bool" = some none)
  (z6:PySem.W.nsIn K mainGlobals "range" = some none)
  (z7:PySem.W.nsIn K mainGlobals "zip" = some none)
  (z8:PySem.W.nsIn K mainGlobals "max" = some none)
  (z9:PySem.W.nsIn K mainGlobals "min" = some none)
  (z10:PySem.W.nsIn K mainGlobals "abs" = some none)
  (z11:PySem.W.nsIn K mainGlobals "all" = some none)
  (z12:PySem.W.nsIn K mainGlobals "set" = some none)
  (z13:PySem.W.nsIn K mainGlobals "str" = some none)
  (z14:PySem.W.nsIn K mainGlobals "any" = some none)
  {t0:Tok} (v0:PySem.W.nsIn K mainGlobals "GREATEST_STEP" = some (some (.int 840 t0)))
  {t1:Tok} (v1:PySem.W.nsIn K mainGlobals "GREATEST_BASE" = some (some (.int 3000 t1)))
  {t2:Tok} (v2:PySem.W.nsIn K mainGlobals "GREATEST_WAYS" = some (some (.int 100 t2)))
  {t3:Tok} (v3:PySem.W.nsIn K mainGlobals "GREATEST_MANY" = some (some (.int 12 t3)))
  {t4:Tok} (v4:PySem.W.nsIn K mainGlobals "GREATEST_NUMBER" = some (some (.int 1000 t4)))
  {t5:Tok} (v5:PySem.W.nsIn K mainGlobals "GREATEST_MOVE" = some (some (.int 3000 t5)))
  {e0:Addr} {q0_0 u0_0 q0_1 u0_1 q0_2 u0_2 q0_3 u0_3:Tok} {ep0:Nat} (x0:PySem.W.nsIn K mainGlobals "TURNED" = some (some (.ref e0))) (y0:K.lookup e0=some (hG w [("up",q0_0,.str "down" u0_0),("down",q0_1,.str "up" u0_1),("stay",q0_2,.str "stay" u0_2),("zero",q0_3,.str "zero" u0_3)] ep0)) (w0:(e0 == sysModules)=false)
  {e1:Addr} {q1_0 u1_0 q1_1 u1_1 q1_2 u1_2 q1_3 u1_3:Tok} {ep1:Nat} (x1:PySem.W.nsIn K mainGlobals "RAISED" = some (some (.ref e1))) (y1:K.lookup e1=some (hG w [("up",q1_0,.int (1) u1_0),("down",q1_1,.int (-1) u1_1),("stay",q1_2,.int (0) u1_2),("zero",q1_3,.int (0) u1_3)] ep1)) (w1:(e1 == sysModules)=false)
  : ∃fd:FuncData,(∀(s:Shared) (v:Value),BindsTo s fd ⟨[v],[]⟩ [("_law_script",v)])/\∀base:Heap,K.In base->base.Ns mainGlobals mg->(∀y∈(["either","kept","less","low_levels","parting","risen"]:List Str),∃c T,Tab K mg base y c T)->FnOk l.prog w K mg base cy 11 fa fd ["_law_script"] (jC K):=by
 have e:=hfa.symm.trans (PySem.W.mg_of X G a61);cases e;have T:Blt mg:=⟨PySem.W.mg_none_of X G z0,PySem.W.mg_none_of X G z1,PySem.W.mg_none_of X G z2,PySem.W.mg_none_of X G z3,PySem.W.mg_none_of X G z4,PySem.W.mg_none_of X G z5,PySem.W.mg_none_of X G z6,PySem.W.mg_none_of X G z7,PySem.W.mg_none_of X G z8,PySem.W.mg_none_of X G z9,PySem.W.mg_none_of X G z10,PySem.W.mg_none_of X G z11,PySem.W.mg_none_of X G z12,PySem.W.mg_none_of X G z13,PySem.W.mg_none_of X G z14⟩;have D0:=cb "stair" d0 λ_ _ _ _ _ _ _=>rfl;have D1:=cb "thing" d1 λ_ _ _ _ _ _ _=>rfl;have D2:=f6 "thing" "low" "end" d2 λ_ _ _ _ _ _ _ _ _=>rfl;have D3:=vZ "base" "step" "once" "again" d3 λ_ _ _ _ _ _ _ _ _ _=>rfl;have D4:=cb "thing" d4 λ_ _ _ _ _ _ _=>rfl;have D5:=cb "thing" d5 λ_ _ _ _ _ _ _=>rfl;have D6:=cb "thing" d6 λ_ _ _ _ _ _ _=>rfl;have D7:=cb "stair" d7 λ_ _ _ _ _ _ _=>rfl;have D8:=cb "turn" d8 λ_ _ _ _ _ _ _=>rfl;have D9:=bf "marks" "base" d9 λ_ _ _ _ _ _ _ _=>rfl;have D10:=bf "stair" "end" d10 λ_ _ _ _ _ _ _ _=>rfl;have D11:=bf "one" "other" d11 λ_ _ _ _ _ _ _ _=>rfl;have D12:=bf "one" "other" d12 λ_ _ _ _ _ _ _ _=>rfl;have D13:=bf "one" "other" d13 λ_ _ _ _ _ _ _ _=>rfl;have D14:=f6 "one" "other" "choice" d14 λ_ _ _ _ _ _ _ _ _=>rfl;have D15:=bf "one" "other" d15 λ_ _ _ _ _ _ _ _=>rfl;have D16:=bf "one" "other" d16 λ_ _ _ _ _ _ _ _=>rfl;have D17:=bf "one" "other" d17 λ_ _ _ _ _ _ _ _=>rfl;have D18:=bf "_law_stair" "_law_x" d18 λ_ _ _ _ _ _ _ _=>rfl;have D19:=bf "one" "other" d19 λ_ _ _ _ _ _ _ _=>rfl;have D20:=f6 "levels" "base" "room" d20 λ_ _ _ _ _ _ _ _ _=>rfl;have D21:=bf "rises" "level" d21 λ_ _ _ _ _ _ _ _=>rfl;have D22:=bf "place" "beside" d22 λ_ _ _ _ _ _ _ _=>rfl;have D23:=bf "house" "choice" d23 λ_ _ _ _ _ _ _ _=>rfl;have D24:=f6 "table" "ups" "downs" d24 λ_ _ _ _ _ _ _ _ _=>rfl;have D25:=cb "table" d25 λ_ _ _ _ _ _ _=>rfl;have D26:=bf "house" "deed" d26 λ_ _ _ _ _ _ _ _=>rfl;have D27:=cb "house" d27 λ_ _ _ _ _ _ _=>rfl;have D28:=cb "house" d28 λ_ _ _ _ _ _ _=>rfl;have D29:=cb "thing" d29 λ_ _ _ _ _ _ _=>rfl;have D30:=cb "thing" d30 λ_ _ _ _ _ _ _=>rfl;have D31:=bf "thing" "many" d31 λ_ _ _ _ _ _ _ _=>rfl;have D32:=bf "thing" "many" d32 λ_ _ _ _ _ _ _ _=>rfl;have D33:=bf "thing" "many" d33 λ_ _ _ _ _ _ _ _=>rfl;have D34:=cb "thing" d34 λ_ _ _ _ _ _ _=>rfl;have D35:=cb "thing" d35 λ_ _ _ _ _ _ _=>rfl;have D36:=cb "house" d36 λ_ _ _ _ _ _ _=>rfl;have D37:=cb "house" d37 λ_ _ _ _ _ _ _=>rfl;have D38:=bf "way" "place" d38 λ_ _ _ _ _ _ _ _=>rfl;have D39:=cb "way" d39 λ_ _ _ _ _ _ _=>rfl;have D40:=bf "way" "place" d40 λ_ _ _ _ _ _ _ _=>rfl;have D41:=bf "ways" "place" d41 λ_ _ _ _ _ _ _ _=>rfl;have D42:=vZ "ways" "keeps" "top" "here" d42 λ_ _ _ _ _ _ _ _ _ _=>rfl;have D43:=bf "house" "place" d43 λ_ _ _ _ _ _ _ _=>rfl;have D44:=cb "house" d44 λ_ _ _ _ _ _ _=>rfl;have D45:=bf "house" "place" d45 λ_ _ _ _ _ _ _ _=>rfl;have D46:=bf "house" "places" d46 λ_ _ _ _ _ _ _ _=>rfl;have D47:=bf "house" "place" d47 λ_ _ _ _ _ _ _ _=>rfl;have D48:=bf "stair" "x" d48 λ_ _ _ _ _ _ _ _=>rfl;have D49:=bf "stair" "k" d49 λ_ _ _ _ _ _ _ _=>rfl;have D50:=bf "_law_stair" "_law_deed" d50 λ_ _ _ _ _ _ _ _=>rfl;have D51:=f6 "_law_cell_here" "_law_k" "_law_prime" d51 λ_ _ _ _ _ _ _ _ _=>rfl;have D52:=f6 "_law_cell_here" "_law_widths" "_law_prime" d52 λ_ _ _ _ _ _ _ _ _=>rfl;have D53:=bf "_law_script" "_law_k" d53 λ_ _ _ _ _ _ _ _=>rfl;have D54:=f6 "_law_house_here" "_law_cell_here" "_law_prime" d54 λ_ _ _ _ _ _ _ _ _=>rfl;have D55:=cb "_law_ways" d55 λ_ _ _ _ _ _ _=>rfl;have D56:=bf "_law_cell_here" "_law_prime" d56 λ_ _ _ _ _ _ _ _=>rfl;have D57:=bf "_law_cell_here" "_law_prime" d57 λ_ _ _ _ _ _ _ _=>rfl;have D58:=bf "_law_cell_here" "_law_prime" d58 λ_ _ _ _ _ _ _ _=>rfl;have D59:=bf "_law_cell_here" "_law_width" d59 λ_ _ _ _ _ _ _ _=>rfl;have D60:=bf "_law_cell_here" "_law_prime" d60 λ_ _ _ _ _ _ _ _=>rfl;refine⟨PySem.W.fnOf "law" "law" (fu eY) (dA eY) (aC eY) .none kV61 dc61 pm61 an61 cd61 ct61,λs v=>.of_eq rfl,λbase KB GB HB=>?_⟩;have C0:=@zX l.prog w K mg base D0 T ⟨_,PySem.W.mg_of X G v0⟩ ⟨_,PySem.W.mg_of X G v1⟩;have C1:=@CL l.prog w K mg base D1 T;have C2:=@yb l.prog w K mg base D2 T C1;have C3:=@As l.prog w K mg base D3 T C2 C1;have C4:=@Ad l.prog w K mg base D4 T C3;have C5:=@wR l.prog w K mg base D5 T C4;have C6:=@Ab l.prog w K mg base D6 T C0 C5;have C7:=@AE l.prog w K mg base D7 T C6;have C8:=@AZ l.prog w K mg base D8 T;have C9:=@zZ l.prog w K mg base D9 T C8;have C10:=@By l.prog w K mg base D10 T;have C11:=@zE l.prog w K mg base D11 T;have C12:=@Cf l.prog w K mg base D12 T C11;have C13:=@AK l.prog w K mg base D13 T ⟨_,PySem.W.mg_of X G v0⟩ C12 C0 C5;have C14:=@BA l.prog w K mg base D14 T C9 C10 C12 C13;obtain⟨c159,T159,B15⟩:=HB "less" (by simp);have C15:Cal l.prog w K mg base "less" 8 ["one","other"] (kf K):=BK D15 T B15 C14;have C16:=@Bm l.prog w K mg base D16 T C7 C15;obtain⟨c179,T179,B17⟩:=HB "parting" (by simp);have C17:Cal l.prog w K mg base "parting" 8 ["one","other"] (kM K):=xM D17 T B17 C7 C14;have C18:=@Bz l.prog w K mg base D18 T;obtain⟨c199,T199,B19⟩:=HB "either" (by simp);have C19:Cal l.prog w K mg base "either" 8 ["one","other"] (nL K):=Cy D19 T B19 C14;have C20:=@ya l.prog w K mg base D20 T C9;have C21:=@xI l.prog w K mg base D21 T;have C22:=@yt l.prog w K mg base D22 T;have C23:=@yM l.prog w K mg base D23 T;have C24:=@Cj l.prog w K mg base D24 T;have C25:=@AR l.prog w K mg base D25 T;have C26:=@Ce l.prog w K mg base D26 T;have C27:=@AS l.prog w K mg base D27 T C26;have C28:=@A3 l.prog w K mg base D28 T C24 C25 C26 C27;have C29:=@yO l.prog w K mg base D29 T;have C30:=@yf l.prog w K mg base D30 T ⟨_,PySem.W.mg_of X G x0,Be y0 w0⟩;have C31:=@w6 l.prog w K mg base D31 T C1;have C32:=@zx l.prog w K mg base D32 T C29 C30 C31;have C33:=@Bf l.prog w K mg base D33 T ⟨_,PySem.W.mg_of X G v2⟩ C32;have C34:=@Cs l.prog w K mg base D34 T ⟨_,PySem.W.mg_of X G v3⟩ C33 C1;have C35:=@BV l.prog w K mg base D35 T C34;obtain⟨c369,T369,B36⟩:=HB "kept" (by simp);have C36:Cal l.prog w K mg base "kept" 7 ["house"] (kS K):=B4 D36 T B36 C23 C28 C35;have C37:=@xm l.prog w K mg base D37 T;have C38:=@xj l.prog w K mg base D38 T;have C39:=@Av l.prog w K mg base D39 T ⟨_,PySem.W.mg_of X G x1,zQ y1 w1⟩;have C40:=@zg l.prog w K mg base D40 T C39;have C41:=@x9 l.prog w K mg base D41 T C38 C40;have C42:=@AW l.prog w K mg base D42 T C41;obtain⟨c439,T439,B43⟩:=HB "low_levels" (by simp);have C43:Cal l.prog w K mg base "low_levels" 8 ["house","place"] (og K):=BJ D43 T B43 C22 C36 C37 C42;obtain⟨c449,T449,B44⟩:=HB "risen" (by simp);have C44:Cal l.prog w K mg base "risen" 7 ["house"] (oG K):=zr D44 T B44 C23 C26 C28 C35;have C45:=@Cn l.prog w K mg base D45 T C21 C43 C44;have C46:=@BC l.prog w K mg base D46 T ⟨_,PySem.W.mg_of X G v4⟩ C31;have C47:=@Bx l.prog w K mg base D47 T C20 C45 C46 C35;have C48:=@Am l.prog w K mg base D48 T C6;have C49:=@A7 l.prog w K mg base D49 T ⟨_,PySem.W.mg_of X G v5⟩ C9 C10 C6;have C50:=@Cz l.prog w K mg base D50 T C48 C49 C15;have C51:=@xc l.prog w K mg base D51 T;have C52:=@yS l.prog w K mg base D52 T C51;have C53:=@AD l.prog w K mg base D53 T;have C54:=@yC l.prog w K mg base D54 T C52;have C55:=@Al l.prog w K mg base D55 T;have C56:=@Dc l.prog w K mg base D56 T C55 C52;have C57:=@Ak l.prog w K mg base D57 T C55 C52;have C58:=@BF l.prog w K mg base D58 T C52;have C59:=@zq l.prog w K mg base D59 T;have C60:=@Ar l.prog w K mg base D60 T C56 C57 C58 C59 C52;exact A1 (uB (st:=eY) l61 c61 k61) T C16 C17 C18 C19 C47 C50 C52 C53 C54 C60
def walk{l:PySem.W.OpenLaw}{q:Program}{loose:List Str}{XP:(Str->Option Value)->Heap->Prop}{YP:World->Heap->Prop}{d:DefRec}{K:Params->Dj}(hn:l.most=some 63)(hdf:d.params.defaults=[])
  (hY:∀(w:World) (h:Heap),YP w h->(K w.params).In h) (hK:∀w:World,PySem.W.noTabs (K w.params)=true) (hrec:∀y∈(["either","kept","less","low_levels","parting","risen"]:List Str),((PyProof.Rows.recsOf q).find? (λe=>e.name == y)).isSome=true) (htab:∀(w:World),∀y∈(["either","kept","less","low_levels","parting","risen"]:List Str),(PySem.W.tabIn (K w.params) y).isSome=true) (hdis:∀w:World,cR (K w.params))
  (F:∀(w:World) (mg:Str->Option Value) (fa:Addr) (h:Heap),(K w.params).In h->h.Ns mainGlobals mg->mg d.name=some (.ref fa) →
   ∃fd:FuncData,(∀(s:Shared) (u:Value),BindsTo s fd ⟨[u],[]⟩ [("_law_script",u)])/\∀base:Heap,(K w.params).In base->base.Ns mainGlobals mg->(∀y∈(["either","kept","less","low_levels","parting","risen"]:List Str),∃c T,Tab (K w.params) mg base y c T)->FnOk l.prog w (K w.params) mg base cy 11 fa fd ["_law_script"] (jC (K w.params))) :
  PySem.W.WalkO q loose XP YP l.row.toRowW d [] (λf vs=>PySem.call f vs):=
 L2.CB (n:=63) (k:=11) (x:="_law_script") (sp:=λw=>jC (K w.params)) ["either","kept","less","low_levels","parting","risen"] hn (by decide) hdf ⟨rfl,by decide,by decide⟩ hY hK hrec htab F λw H a ns hl hT hS=>⟨a,ns,rfl,hS,hl,hT,hdis w,λ_=>rfl⟩
end My
end
open PySem PySem.W PyProof.Rows
set_option maxRecDepth 100000 in
set_option maxHeartbeats 0 in
theorem PySem.Challenge.cw_stairrooms_k74_whole_stairs_of_ways_holds : PySem.Challenge.rw_stairrooms_k74_whole_stairs_of_ways.Holds := by
 refine My.top ?_
 k_fill
 refine My.walk (l := PySem.Challenge.rw_stairrooms_k74_whole_stairs_of_ways) rfl rfl (λw h Y => PySem.W.km_in_of Y) (λw => by kernel_rfl) ?R (λw => ?Tb) (λw => My.zJ (by kernel_rfl)) ?F
 case R => intro y hy; simp only [List.mem_cons, List.not_mem_nil, or_false] at hy; rcases hy with rfl|rfl|rfl|rfl|rfl|rfl <;> kernel_rfl
 case Tb => intro y hy; simp only [List.mem_cons, List.not_mem_nil, or_false] at hy; rcases hy with rfl|rfl|rfl|rfl|rfl|rfl <;> kernel_rfl
 case F =>
  intro w mg fa h KX G hmg;have q := @My.dq _ _ _ KX G
  refine' My.all_mk KX G hmg (q ?a0 ?l0 ?c0 ?k0) (q ?a1 ?l1 ?c1 ?k1) (q ?a2 ?l2 ?c2 ?k2) (q ?a3 ?l3 ?c3 ?k3) (q ?a4 ?l4 ?c4 ?k4) (q ?a5 ?l5 ?c5 ?k5) (q ?a6 ?l6 ?c6 ?k6) (q ?a7 ?l7 ?c7 ?k7) (q ?a8 ?l8 ?c8 ?k8) (q ?a9 ?l9 ?c9 ?k9) (q ?a10 ?l10 ?c10 ?k10) (q ?a11 ?l11 ?c11 ?k11) (q ?a12 ?l12 ?c12 ?k12) (q ?a13 ?l13 ?c13 ?k13) (q ?a14 ?l14 ?c14 ?k14) (q ?a15 ?l15 ?c15 ?k15) (q ?a16 ?l16 ?c16 ?k16) (q ?a17 ?l17 ?c17 ?k17) (q ?a18 ?l18 ?c18 ?k18) (q ?a19 ?l19 ?c19 ?k19) (q ?a20 ?l20 ?c20 ?k20) (q ?a21 ?l21 ?c21 ?k21) (q ?a22 ?l22 ?c22 ?k22) (q ?a23 ?l23 ?c23 ?k23) (q ?a24 ?l24 ?c24 ?k24) (q ?a25 ?l25 ?c25 ?k25) (q ?a26 ?l26 ?c26 ?k26) (q ?a27 ?l27 ?c27 ?k27) (q ?a28 ?l28 ?c28 ?k28) (q ?a29 ?l29 ?c29 ?k29) (q ?a30 ?l30 ?c30 ?k30) (q ?a31 ?l31 ?c31 ?k31) (q ?a32 ?l32 ?c32 ?k32) (q ?a33 ?l33 ?c33 ?k33) (q ?a34 ?l34 ?c34 ?k34) (q ?a35 ?l35 ?c35 ?k35) (q ?a36 ?l36 ?c36 ?k36) (q ?a37 ?l37 ?c37 ?k37) (q ?a38 ?l38 ?c38 ?k38) (q ?a39 ?l39 ?c39 ?k39) (q ?a40 ?l40 ?c40 ?k40) (q ?a41 ?l41 ?c41 ?k41) (q ?a42 ?l42 ?c42 ?k42) (q ?a43 ?l43 ?c43 ?k43) (q ?a44 ?l44 ?c44 ?k44) (q ?a45 ?l45 ?c45 ?k45) (q ?a46 ?l46 ?c46 ?k46) (q ?a47 ?l47 ?c47 ?k47) (q ?a48 ?l48 ?c48 ?k48) (q ?a49 ?l49 ?c49 ?k49) (q ?a50 ?l50 ?c50 ?k50) (q ?a51 ?l51 ?c51 ?k51) (q ?a52 ?l52 ?c52 ?k52) (q ?a53 ?l53 ?c53 ?k53) (q ?a54 ?l54 ?c54 ?k54) (q ?a55 ?l55 ?c55 ?k55) (q ?a56 ?l56 ?c56 ?k56) (q ?a57 ?l57 ?c57 ?k57) (q ?a58 ?l58 ?c58 ?k58) (q ?a59 ?l59 ?c59 ?k59) (q ?a60 ?l60 ?c60 ?k60) ?a61 ?l61 ?c61 ?k61 ?z0 ?z1 ?z2 ?z3 ?z4 ?z5 ?z6 ?z7 ?z8 ?z9 ?z10 ?z11 ?z12 ?z13 ?z14 ?v0 ?v1 ?v2 ?v3 ?v4 ?v5 ?x0 ?y0 ?w0 ?x1 ?y1 ?w1
  case a0|l0|c0|k0|a1|l1|c1|k1|a2|l2|c2|k2|a3|l3|c3|k3|a4|l4|c4|k4|a5|l5|c5|k5|a6|l6|c6|k6|a7|l7|c7|k7|a8|l8|c8|k8|a9|l9|c9|k9|a10|l10|c10|k10|a11|l11|c11|k11|a12|l12|c12|k12|a13|l13|c13|k13|a14|l14|c14|k14|a15|l15|c15|k15|a16|l16|c16|k16|a17|l17|c17|k17|a18|l18|c18|k18|a19|l19|c19|k19|a20|l20|c20|k20|a21|l21|c21|k21|a22|l22|c22|k22|a23|l23|c23|k23|a24|l24|c24|k24|a25|l25|c25|k25|a26|l26|c26|k26|a27|l27|c27|k27|a28|l28|c28|k28|a29|l29|c29|k29|a30|l30|c30|k30|a31|l31|c31|k31|a32|l32|c32|k32|a33|l33|c33|k33|a34|l34|c34|k34|a35|l35|c35|k35|a36|l36|c36|k36|a37|l37|c37|k37|a38|l38|c38|k38|a39|l39|c39|k39|a40|l40|c40|k40|a41|l41|c41|k41|a42|l42|c42|k42|a43|l43|c43|k43|a44|l44|c44|k44|a45|l45|c45|k45|a46|l46|c46|k46|a47|l47|c47|k47|a48|l48|c48|k48|a49|l49|c49|k49|a50|l50|c50|k50|a51|l51|c51|k51|a52|l52|c52|k52|a53|l53|c53|k53|a54|l54|c54|k54|a55|l55|c55|k55|a56|l56|c56|k56|a57|l57|c57|k57|a58|l58|c58|k58|a59|l59|c59|k59|a60|l60|c60|k60|a61|l61|c61|k61|z0|z1|z2|z3|z4|z5|z6|z7|z8|z9|z10|z11|z12|z13|z14|v0|v1|v2|v3|v4|v5=>k_is
  (case x0 => k_is); (case y0 => k_is); (case w0 => first|rfl|k_is)
  (case x1 => k_is); (case y1 => k_is); (case w1 => first|rfl|k_is)
