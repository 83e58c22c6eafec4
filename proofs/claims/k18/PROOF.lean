import PyProof.Rows.All
import Wide.All
import OpenK.AllK
import Wide.FinOn
import Lean
import PyProof.EqAt
import PyProof.EqKinds
import PyProof.TupleCall
import KE.KLam
import PySem.Challenge.RW_stairrooms_k18_read_or_refused
set_option Elab.async false
namespace PySem.W.Fast
def tw4317602825685537254:=0
def tw236312358159718360:=0
def tw18343225757298098464:=0
def tw194125063351580460:=0
def tw9478813727029378433:=0
def tw16327892280459555209:=0
def tw11258306804293243132:=0
def tw13748213211269921915:=0
def tw14284479882343010635:=0
def tw317520914050522945:=0
def tw8325147438673079581:=0
def tw16040925991244642869:=0
def tw16364495873160961403:=0
def tw16750776476121371427:=0
def tw911810538002268367:=0
def tw17179734013377141832:=0
def tw6492568839464336172:=0
def tw4722325039260877897:=0
def tw4992925186480290751:=0
def tw1735571389945239771:=0
def tw12661369023874259431:=0
def tw11846370373574997029:=0
def tw4221310431163856405:=0
def tw3465091326942903629:=0
def tw10166892954511498249:=0
def tw11719058159408555795:=0
def tw9590536906216307355:=0
def tw4918694162171632466:=0
def tw13679643304169797691:=0
def tw3501889831259424984:=0
def tw8229460734390689525:=0
def tw16306601271817509428:=0
def tw9779106197386186623:=0
def tw9936902662144560194:=0
def tw6329672369177362234:=0
def tw11296645311156999791:=0
def tw10053539800044614232:=0
def tw3015604971527890583:=0
def tw11040902395418374828:=0
def tw4797132809794432123:=0
def tw2122511160286549640:=0
def tw12878273097781070547:=0
def tw10846541316933110243:=0
def tw9578026534446552097:=0
def tw2904033067149887106:=0
def tw2342838551658309370:=0
def tw11029396596865941829:=0
def tw477595423994022719:=0
def tw2801974123689400889:=0
def tw14867130098325134529:=0
def tw12585790354688115527:=0
def tw12323772569751236006:=0
def tw621812022307901172:=0
def tw17908656721387608039:=0
def tw15786528573266890262:=0
def tw12150866365501820893:=0
def tw902582806634263858:=0
def tw5533809914848052129:=0
def tw12390782021942118942:=0
def tw12441502783428931068:=0
def tw11655376856063916228:=0
def tw447717403241242290:=0
def tw4202673366249849491:=0
def tw16503717402094505217:=0
def tw13611136168108132581:=0
def tw12664327836493813462:=0
def tw9878173891806150429:=0
def tw5581349078452510653:=0
def tw1057306937073154610:=0
def tw2904058922640873309:=0
def tw13786455662358949411:=0
def tw13647187277582396961:=0
def tw11364142691922409913:=0
def tw9749810874003056045:=0
def tw4997450903056089975:=0
def tw14109453767193502313:=0
def tw11971130579796114034:=0
def tw11801650391622900179:=0
def tw7897135418779063302:=0
def tw1923656493189036919:=0
def tw1901317781093569649:=0
def tw18133197322224867361:=0
def tw10154314827766144001:=0
def tw7875707854763748492:=0
def tw3121732170634265723:=0
def tw17375602352810135561:=0
def tw10276969695076772373:=0
def tw8487562230406468105:=0
def tw4869967250276580588:=0
def tw4532786408525356839:=0
def tw3096949930750721708:=0
def tw17405045028177135956:=0
def tw14800109303040266240:=0
def tw9254883793231693245:=0
def tw8863156965792605256:=0
def tw8612541938085228305:=0
def tw18066811921283522515:=0
def tw16840622159041910090:=0
def tw15660991250957307376:=0
def tw13021086612755893400:=0
def tw11506949944486722818:=0
def tw10150324261921262226:=0
def tw17415715754555401154:=0
def tw15414259988211055499:=0
def tw1428814744893504695:=0
def tw12996499756298277263:=0
def tw10500720501580190231:=0
def tw931510637493425866:=0
def tw9248597171148506525:=0
def tw9119751986894142981:=0
def tw8568187914498332850:=0
def tw7627118995241731642:=0
def tw7393957277229836691:=0
def tw7341270039093922885:=0
def tw7134983793405793177:=0
def tw7115244209674446852:=0
def tw5950158449063615346:=0
def tw590611807225418770:=0
def tw5140171473248983199:=0
def tw456031100195234908:=0
def tw4337561567144917162:=0
def tw3941131271490555836:=0
def tw3866599564448483793:=0
def tw3104486758596841148:=0
def tw18032779900021213040:=0
def tw17729564300890611173:=0
def tw17628590533929976792:=0
def tw17571631200592639834:=0
def tw17438179399263098937:=0
def tw17065142239566038489:=0
def tw16980547499210933930:=0
def tw16964212798373946863:=0
def tw16924412733494049589:=0
def tw16477329177891185698:=0
def tw16283258727396688951:=0
def tw16245695487900975421:=0
def tw16221219022901355867:=0
def tw15829181571673270705:=0
def tw15729792075999087868:=0
def tw15565656631415577005:=0
def tw15186367229040268510:=0
def tw1488474676173749703:=0
def tw14793259975867257014:=0
def tw14775263502782431712:=0
def tw14670137783204244808:=0
def tw14221475358252599964:=0
def tw14025392896863203041:=0
def tw13135487405686255751:=0
def tw12357872333080808881:=0
def tw11787554532782738252:=0
def tw11339562753883754242:=0
def tw11137535781475439334:=0
def tw10769681086646498438:=0
def tw1069010634818593453:=0
def tw976709547398631384:=0
def tw974001917477778970:=0
def tw8035931760809384120:=0
def tw762384175361060421:=0
def tw7175792842613744815:=0
def tw684117499851941213:=0
def tw5425565988235752197:=0
def tw4933930183700603765:=0
def tw404968458719316295:=0
def tw3566807236516140644:=0
def tw3436359320994789115:=0
def tw3258786278723069861:=0
def tw18406689318668271181:=0
def tw18127141830633905074:=0
def tw17843839365795533554:=0
def tw1682181479755940848:=0
def tw1637453852661378490:=0
def tw15831574140416324556:=0
def tw13752025206567590305:=0
def tw13587432420489492189:=0
def tw119674054762100072:=0
def tw9539095207651657643:=0
def tw8338600121835276020:=0
def tw720755081136891062:=0
def tw705330452703051597:=0
def tw6787905781562076304:=0
def tw3268437569422444630:=0
def tw16821967185522334815:=0
def tw14882510809304047780:=0
def tw14849095896601040367:=0
def tw14832175709080873599:=0
def tw1382559312744143635:=0
def tw9002392303285804385:=0
def tw7750769465160294860:=0
def tw6178244272827954729:=0
def tw18324572440802094995:=0
def tw17002439396945247550:=0
def tw16761591470956491853:=0
def tw12261729195969336472:=0
def tw11950575282948044451:=0
def tw9930359092145622687:=0
def tw9834661911540460081:=0
def tw9337504207740955038:=0
def tw8783073200307453229:=0
def tw8340926499216404060:=0
def tw8186763794367992775:=0
def tw8147721191793257292:=0
def tw8143298780573084396:=0
def tw8039774922555296384:=0
def tw7863108119856694670:=0
def tw7693350481814642131:=0
def tw7176572640101177836:=0
def tw6878535200312667207:=0
def tw6658185936689682968:=0
def tw6393150591798677637:=0
def tw6350474685870504171:=0
def tw6008010531490865865:=0
def tw5956051100702781606:=0
def tw5350998768358884751:=0
def tw5051596291613938045:=0
def tw4769826392853288355:=0
def tw4355615645706949100:=0
def tw4169430970946328830:=0
def tw3975676623463710300:=0
def tw3830783680494933951:=0
def tw3711776433476670718:=0
def tw3415376743198261602:=0
def tw3182821167057557991:=0
def tw3093781508513788219:=0
def tw3008007984704827758:=0
def tw2567624805475646970:=0
def tw2187499721780371684:=0
def tw1980078614172103820:=0
def tw18438895364323578133:=0
def tw17994301212061070119:=0
def tw17928405464846012575:=0
def tw17925923492730016652:=0
def tw17652695096001567504:=0
def tw1754243070517289278:=0
def tw16743919102785911483:=0
def tw16669810761675009345:=0
def tw16661212229125270991:=0
def tw16618134895088991800:=0
def tw16575673167688372683:=0
def tw16288524480538194225:=0
def tw16176690743668362219:=0
def tw15945904282836308387:=0
def tw15529604674929473973:=0
def tw15291515778787918541:=0
def tw15269425654929456476:=0
def tw15159215201983465910:=0
def tw14905269560852764671:=0
def tw14836224472968703893:=0
def tw14650229311272632197:=0
def tw1460478622569836974:=0
def tw14560837491469231475:=0
def tw14397947794671477899:=0
def tw13817142068744991791:=0
def tw13814131451427507189:=0
def tw13769731409856085057:=0
def tw13298203722689827917:=0
def tw1304240117979556626:=0
def tw12993445975515111361:=0
def tw12632963454795662708:=0
def tw12340981958623863397:=0
def tw12249993202121903794:=0
def tw12149469363015211488:=0
def tw12124443520851957044:=0
def tw11985937269989024962:=0
def tw11646202046503260017:=0
def tw11644868132232139897:=0
def tw11469663846147530161:=0
def tw11166862733661299840:=0
def tw11030641428109492703:=0
def tw10785498421680218836:=0
def tw1073818698688927204:=0
def tw1059446635175154315:=0
def tw10121643642846045468:=0
def tw10035081181641441020:=0
def tw10017577030591726147:=0
def tw9602979466950630956:=0
def tw912290570786946579:=0
def tw8777541643666118068:=0
def tw8722415481117505015:=0
def tw8572175281459272771:=0
def tw8444893750286939596:=0
def tw8125407811402774585:=0
def tw7552210041123771490:=0
def tw684210181549580303:=0
def tw6744984778823417519:=0
def tw6340304130596135008:=0
def tw6158425238486604569:=0
def tw5920227957080817638:=0
def tw5861546300858528307:=0
def tw5096499008420852698:=0
def tw4256779784062091372:=0
def tw4138905410403352593:=0
def tw4090099033456441411:=0
def tw397431815971221653:=0
def tw3823650005643028596:=0
def tw3612554134655720397:=0
def tw343839832772155065:=0
def tw3410111710019587186:=0
def tw2217001567337907910:=0
def tw2093290091728733057:=0
def tw18334927389422029420:=0
def tw18159918767601648018:=0
def tw17831088686795452451:=0
def tw17795394019121955329:=0
def tw17716863462265859512:=0
def tw17694846207451314135:=0
def tw17581992280946622230:=0
def tw1703860651114587486:=0
def tw16219145617115034907:=0
def tw156604256827902990:=0
def tw15659586693977764946:=0
def tw14550693921475344484:=0
def tw14415884991196681418:=0
def tw13921919005729749812:=0
def tw13809386149585982481:=0
def tw13746588304753895505:=0
def tw12679859039530741841:=0
def tw1218770742548784908:=0
def tw11788803944947964044:=0
def tw11612187849094769778:=0
def tw10143209758796899180:=0
def tw10063842601507977493:=0
def tw9281662355237421915:=0
def tw8938549127931359579:=0
def tw8770029601138628478:=0
def tw8755266905418455375:=0
def tw8708482821940700748:=0
def tw8604979696160575008:=0
def tw8385567426930851361:=0
def tw8377945894465552080:=0
def tw8184033042858750843:=0
def tw8089249423132065445:=0
def tw8037652997034423971:=0
def tw800831887125934919:=0
def tw7956301941440062040:=0
def tw7904445426397662059:=0
def tw7848866751621661257:=0
def tw7539763571100840771:=0
def tw7259079589770855615:=0
def tw7240639191980452486:=0
def tw6942357351460751399:=0
def tw6743822951217308217:=0
def tw6704578965310311189:=0
def tw6429728187070590260:=0
def tw6252878086273825581:=0
def tw6181847661251503008:=0
def tw6169767553621521813:=0
def tw6130821448147606368:=0
def tw6121026886529796221:=0
def tw6093179522131556990:=0
def tw5994711959094706394:=0
def tw5821001088122574322:=0
def tw5819105399919881484:=0
def tw5717963241065829162:=0
def tw5430882940802126740:=0
def tw5295854211047901153:=0
def tw5019332986140449700:=0
def tw5010354932100547165:=0
def tw4977895861229493542:=0
def tw4855646995411632120:=0
def tw4672492687276399408:=0
def tw4566636315000093172:=0
def tw3855077825024126993:=0
def tw3797301031838899788:=0
def tw3760063030202703356:=0
def tw3725507860900426652:=0
def tw3299272117925849540:=0
def tw3017139974649574989:=0
def tw2696157109874119690:=0
def tw2520694231678862498:=0
def tw2448602276733661166:=0
def tw2313535712752964479:=0
def tw2308842233520690658:=0
def tw2248526150547823735:=0
def tw2045930578084102194:=0
def tw18207201711260066481:=0
def tw1818218476948158209:=0
def tw18038851775406917655:=0
def tw18027755133952139252:=0
def tw17990003072128590093:=0
def tw179189376934874584:=0
def tw17843169823834903998:=0
def tw17744632191838401134:=0
def tw17645572048654386869:=0
def tw17584191335013195612:=0
def tw17423125552162021742:=0
def tw17405974757215459542:=0
def tw17357414001117552268:=0
def tw17218974888202052536:=0
def tw17104333970416622323:=0
def tw16988158499489311127:=0
def tw1691102865124860179:=0
def tw16868688195037900307:=0
def tw16843462989757039891:=0
def tw16826725409987885975:=0
def tw16801269517542960672:=0
def tw16702496124019576060:=0
def tw16622475990643145580:=0
def tw16507177298177948937:=0
def tw16408023001231065620:=0
def tw1612923964453859806:=0
def tw16080655234471338842:=0
def tw15968237232650601322:=0
def tw15860708213811878519:=0
def tw15641155157065175805:=0
def tw15415030129712708594:=0
def tw15319796435752655959:=0
def tw15266785391687444539:=0
def tw15104015179872336855:=0
def tw15003257448840769609:=0
def tw14977234088687162302:=0
def tw14931363111589739018:=0
def tw1492062709326496596:=0
def tw14876317631354250296:=0
def tw14774234679712429206:=0
def tw14635225500592789833:=0
def tw14585778381282314952:=0
def tw14429984225472846677:=0
def tw14324394720252608761:=0
def tw14322595565739780087:=0
def tw13841191037290658594:=0
def tw13820470126673855253:=0
def tw13788262537284159298:=0
def tw13732165248360646341:=0
def tw13573848267779960677:=0
def tw13501672401922333513:=0
def tw13385619842731796546:=0
def tw13140385074510843379:=0
def tw12650994420537281789:=0
def tw12296552071639831032:=0
def tw119775208399524090:=0
def tw11860059332995364445:=0
def tw11701492411309977178:=0
def tw11687504721054253588:=0
def tw11665305186481523908:=0
def tw11605670760853518920:=0
def tw11560677996495128784:=0
def tw11365700717142005424:=0
def tw11362101791794971524:=0
def tw10698238366409207256:=0
def tw10602856759635532317:=0
def tw10424792985553544811:=0
def tw10263077061500514125:=0
def tw10118012357411222232:=0
def tw10095913671755900038:=0
end PySem.W.Fast
section
open PySem PySem.W PyProof.Rows
set_option maxRecDepth 100000 in
set_option maxHeartbeats 0 in
open_top My.top for PySem.Challenge.rw_stairrooms_k18_read_or_refused
end
set_option linter.all false
set_option maxRecDepth 100000
set_option maxHeartbeats 4000000
open PySem renaming Value->Va,Addr->Vb,Shared->Vc,Program->Vd,World->Ve,wpAny->Vf,model->Vg,Heap->Vh,Around->Vi,mainGlobals->Vj,Expr->Vk,Stmt->Vl,FuncData->Vm,Str->Vn
open Option renaming some->Vo,none->Vp
open PySem renaming wpAny_bind->CZ,wpAny_pure->Dc,wpAny_setState_of->Eb,wpAny_callSpecial?_slot->Ec
open PySem.W renaming Frag->Dd
open PySem.Heap renaming get?_push_of_some->De,get?_push_size->Df,lt_size->Dg
open List renaming length_map->Dh,getElem?_eq_getElem->Di,getElem?_map->Dj,mem_cons_of_mem->Dk,size_toArray->Dm,mem_cons_self->Dn,getElem?_eq_some_iff->Dr,mem_of_getElem?->Ds,mem_singleton->Dt,mem_cons->Dw,map_append->Dz,length_append->DA,mem_append->DF,getElem?_append_right->DG,getElem?_append_left->DH,getElem_mem->DI,length_cons->DJ,take_length->DK,not_mem_nil->DN,all_eq_true->DO,mem_append_right->DT,mem_append_left->DU,replicate->DV,getElem?_of_mem->DY,lookup_cons->DZ,length_take->Ea,range->Ed
open Array renaming length_toList->Dl
open PySem.F renaming plainAttrs_list->Dp,slot_list_append->DD,type_list_append->DE
open Option renaming map_eq_some_iff->Du
open Int renaming toNat_natCast->Dv
open Bool renaming false_ne_true->Dy,eq_iff_iff->DP,and_eq_true->DQ,false_eq_true->DW
open Nat renaming ne_of_lt->DB,le_refl->DC,lt_of_lt_of_le->DL,le_trans->DM,lt_or_ge->DX
open PySem.Str renaming ofString->DR
open Option.some renaming inj->DS
abbrev Ee:=@decide_eq_false
abbrev Ef:=@decide_eq_true
abbrev Eg:=@if_neg
abbrev Eh:=@if_pos
noncomputable section
namespace L2
open PySem PySem.Spec PyProof.Rows
abbrev Key:=Sum Int Vn
def gg:Key->Va->Bool
 | .inl k,v=>Value.isInt k v
 | .inr x,v=>Value.isStrOf x v
def Cb(w:Ve):Key->Int
 | .inl k=>hashInt k
 | .inr x=>hashStr w x
def eG:∀{k:Key} {v:Va},gg k v=true->(∃i t,k=Sum.inl i/\v=Value.int i t)\/(∃x t,k=Sum.inr x/\v=Value.str x t)
 | .inl i,v,h=>by obtain⟨t,e⟩:=Value.isInt_shape (k:=i) (v:=v) h;exact .inl ⟨i,t,rfl,e⟩
 | .inr x,v,h=>by obtain⟨t,e⟩:=Value.isStrOf_shape (x:=x) (v:=v) h;exact .inr ⟨x,t,rfl,e⟩
def Ad(i:Int)(t:Tok):gg (.inl i) (.int i t)=true:=by simp[gg,Value.isInt]
def CM(x:Vn)(t:Tok):gg (.inr x) (.str x t)=true:=by simp[gg,Value.isStrOf]
def BI(a b:Int):decide ((Sum.inl a:Key)=Sum.inl b)=(a == b):=by
 by_cases e:a=b
 .subst e;simp
 .have h:¬(Sum.inl a:Key)=Sum.inl b:=λq=>e (Sum.inl.inj q);rw[Ee h];exact(beq_eq_false_iff_ne.mpr e).symm
def yq(a b:Vn):decide ((Sum.inr a:Key)=Sum.inr b)=decide (a=b):=by
 by_cases e:a=b
 .subst e;simp
 .have h:¬(Sum.inr a:Key)=Sum.inr b:=λq=>e (Sum.inr.inj q);rw[Ee h,Ee e]
def wU(a:Int)(b:Vn):decide ((Sum.inl a:Key)=Sum.inr b)=false:=Ee (λq=>nomatch q)
def ym(a:Vn)(b:Int):decide ((Sum.inr a:Key)=Sum.inl b)=false:=Ee (λq=>nomatch q)
def aN(prog:Vd)(w:Ve):PySem.KeyKind prog w Key where
 is:=gg
 hash:=Cb w
 inj:=λv a b ha hb=>by
  rcases eG ha with⟨i,t,rfl,rfl⟩|⟨x,t,rfl,rfl⟩
  .rcases eG hb with⟨j,u,rfl,e⟩|⟨y,u,rfl,e⟩
   .injection e with c _;rw[c]
   .exact nomatch e
  .rcases eG hb with⟨j,u,rfl,e⟩|⟨y,u,rfl,e⟩
   .exact nomatch e
   .injection e with c _;rw[c]
 byValue:=λk v h=>by rcases eG h with⟨i,t,rfl,rfl⟩|⟨x,t,rfl,rfl⟩<;>rfl
 pyHash:=λd h=>by
  rcases eG d with⟨i,t,rfl,rfl⟩|⟨x,t,rfl,rfl⟩
  .exact wpAny_pyHash_int h
  .exact wpAny_pyHash_str h
 eqBool:=λf d h=>by
  rcases eG f with⟨i,t,rfl,rfl⟩|⟨x,t,rfl,rfl⟩
  .rcases eG d with⟨j,u,rfl,rfl⟩|⟨y,u,rfl,rfl⟩
   .rw[BI]at h;exact wpAny_eqBool_int h
   .rw[wU]at h;exact SeqAt.EqAt.int_str i t y u _ _ _ _ h
  .rcases eG d with⟨j,u,rfl,rfl⟩|⟨y,u,rfl,rfl⟩
   .rw[ym]at h;exact SeqAt.EqAt.str_int x t j u _ _ _ _ h
   .rw[yq]at h;exact wpAny_eqBool_str h
 «strs»:=λk x t v h=>by
  rcases eG h with⟨i,u,rfl,e⟩|⟨y,u,rfl,e⟩
  .exact nomatch e
  .injection e with c _
   subst c;cases v<;>rfl
def zi(prog:Vd)(w:Ve)(i:Int)(t:Tok):(aN prog w).is (.inl i) (.int i t)=true:=Ad i t
def og(prog:Vd)(w:Ve)(x:Vn)(t:Tok):(aN prog w).is (.inr x) (.str x t)=true:=CM x t
inductive V where
 | non|bl (b:Bool)|int (i:Int)|str (x:Vn)|byt (b:Array UInt8)|flt (b:UInt64)|ref (a:Vb)|ty (n:String)
 deriving DecidableEq
def RelV:V->Va->Prop
 | .non,u=>u=Value.none
 | .bl b,u=>u=Value.bool b
 | .int i,u=>∃t,u=Value.int i t
 | .str x,u=>∃t,u=Value.str x t
 | .byt b,u=>∃t,u=Value.bytes b t
 | .flt b,u=>∃t,u=Value.float b t
 | .ref a,u=>u=Value.ref a
 | .ty n,u=>u=Value.type n
abbrev Vals:List V->List Va->Prop:=Paired RelV
theorem Vals.length{xs:List V}{us:List Va}(r:Vals xs us):xs.length=us.length:=Paired.length r
theorem Vals.get:∀{xs:List V} {us:List Va} {i:Nat} {x:V},Vals xs us->xs[i]?=Vo x->∃u,us[i]?=Vo u/\RelV x u
 | _,_,_,_,.nil,e=>by simp at e
 | _,_,0,_,.cons r _,e=>by simp at e;subst e;exact⟨_,rfl,r⟩
 | _,_,i+1,x,.cons _ t,e=>by obtain⟨u,h1,h2⟩:=Vals.get (i:=i) (x:=x) t (by simpa using e);exact⟨u,by simpa using h1,h2⟩
theorem Vals.append:∀{xs ys:List V} {us ws:List Va},Vals xs us->Vals ys ws->Vals (xs++ys) (us++ws)
 | _,_,_,_,.nil,s=>s
 | _,_,_,_,.cons r t,s=>.cons r (Vals.append t s)
theorem Vals.take:∀{xs:List V} {us:List Va} (n:Nat),Vals xs us->Vals (xs.take n) (us.take n)
 | _,_,0,_=>.nil
 | _,_,_+1,.nil=>.nil
 | _,_,n+1,.cons r t=>.cons r (Vals.take n t)
theorem Vals.drop:∀{xs:List V} {us:List Va} (n:Nat),Vals xs us->Vals (xs.drop n) (us.drop n)
 | _,_,0,r=>r
 | _,_,_+1,.nil=>.nil
 | _,_,n+1,.cons _ t=>Vals.drop n t
def gU:Option V->Option Va->Prop
 | some v,Vo u=>RelV v u
 | none,Vp=>True
 | _,_=>False
def KV{κ:Type}:List (κ×V)->List (κ×Va)->Prop:=Paired λ(p:κ×V) (q:κ×Va)=>p.1=q.1/\RelV p.2 q.2
def kV:Key->V
 | .inl i=>.int i
 | .inr x=>.str x
inductive HO where
 | lst (xs:List V)
 | tup (xs:List V)
 | dK (kvs:List (Key×V))|dT (kvs:List (List Key×V))
 | set (S:Int->Bool) (n:Nat)
 | ins (C dx:Vb) (fs:List (Vn×V))
 | own (x:Vb)
 | xd (fs:List (Vn×V))
 | met (f x:Vb)
 | rng (lo hi:Int)
 | frz (o:Obj) (u:HO)
 | tbl (ps:Array Va)
 | ext (φ:Vh->Prop)
abbrev Hp:=Vb->Option HO
def upd(H:Hp)(a:Vb)(o:HO):Hp:=λb=>if b=a then Vo o else H b
def bg{H:Hp}{a:Vb}{o:HO}:upd H a o a=Vo o:=by unfold upd;rw[Eh rfl]
def aY{H:Hp}{a b:Vb}{o:HO}(h:b≠a):upd H a o b=H b:=by unfold upd;rw[Eg h]
def jB{H:Hp}{a b:Vb}{o u:HO}(h:H a=Vo o)(h':H b=Vo u)(d:o≠u):a≠b:=by intro e;subst e;rw[h]at h';exact d (DS h')
def du{H:Hp}{a b:Vb}{o:HO}(h:H a=Vo o)(h':H b=Vp):a≠b:=by intro e;subst e;rw[h]at h';cases h'
section
variable (P:Vd) (w:Ve)
def bV(H:Hp)(h:Vh)(a:Vb):HO->Prop
 | .lst xs=>xs.length<=sizeLine/\∃(b:List Va) (n:Nat),Vals xs b/\h.get? a=Vo { cls:=.type "list",data:=.seq b.toArray n }
 | .tup xs=>xs.length<=sizeLine/\∃b:List Va,Vals xs b/\IsTup h a b.toArray
 | .dK kvs=>kvs.length<=sizeLine/\(a == sysModules)=false/\∃vs,KV kvs vs/\h.DictOf (aN P w) a vs
 | .dT kvs=>kvs.length<=sizeLine/\(a == sysModules)=false/\∃xs:List (List Key×Vb×Va),
   Paired (λ(p:List Key×V) (q:List Key×Vb×Va)=>p.1=q.1/\H q.2.1=Vo (.tup (p.1.map kV))/\RelV p.2 q.2.2) kvs xs ∧
   ∃o es ep,h.get? a=Vo o/\o.ExactDict/\o.data=.dict es ep/\es.toList=xs.map (entryOfKey (tupleKind (aN P w)))/\(xs.map (·.1)).Nodup
 | .set S n=>h.SetOf (intKind P w) a S n
 | .ins C dx fs=>H dx=Vo (.own a)/\fs.length<=1000/\dx≠a/\h.get? a=Vo (PySem.W.instObj C dx) ∧
   ∃mA,h.Ns1 dx mA/\(∀f,gU (fs.lookup f) (mA f))/\PySem.Within mA (fs.map (·.1))
 | .own _=>∃o,h.get? a=Vo o
 | .xd fs=>∃mA,h.Ns1 a mA/\∀f,gU (fs.lookup f) (mA f)
 | .rng lo hi=>∃t u v,h.get? a=Vo { cls:=.type "range",data:=.fields #[.int lo t,.int hi u,.int 1 v] }
 | .frz o u=>h.get? a=Vo o/\bV H h a u
 | .tbl ps=>h.get? a=Vo { cls:=.none,data:=.fields ps }
 | .met f x=>h.get? a=Vo (PySem.W.methodObj (.ref f) (.ref x))
 | .ext φ=>φ h/\(∃o,h.get? a=Vo o)/\∀h1 h2:Vh,φ h1->(∀o,h1.get? a=Vo o->h2.get? a=Vo o)->φ h2
def bC(H:Hp)(h:Vh):Prop:=∀a o,H a=Vo o->bV P w H h a o
end
section
variable {P:Vd} {w:Ve} {H H':Hp} {h h':Vh} {a:Vb} {o:HO}
theorem bV.lt(x:bV P w H h a o):a<h.objs.size:=by
 cases o with
 | lst xs=>obtain⟨_,_,_,_,e⟩:=x;exact Dg e
 | tup xs=>obtain⟨_,_,_,p⟩:=x;exact p.lt
 | dK kvs=>obtain⟨_,_,_,_,o,_,_,e,_⟩:=x;exact Dg e
 | dT kvs=>obtain⟨_,_,_,_,o,_,_,e,_⟩:=x;exact Dg e
 | set S n=>obtain⟨o,_,_,_,e,_⟩:=x;exact Dg e
 | ins C dx fs=>obtain⟨_,_,_,e,_⟩:=x;exact Dg e
 | own y=>obtain⟨_,e⟩:=x;exact Dg e
 | xd fs=>obtain⟨_,⟨_,_,_,e,_⟩,_⟩:=x;exact Dg e
 | rng lo hi=>obtain⟨_,_,_,e⟩:=x;exact Dg e
 | frz b u=>obtain⟨e,_⟩:=x;exact Dg e
 | tbl ps=>exact Dg (show h.get? a=Vo _ from x)
 | met f y=>exact Dg (show h.get? a=Vo _ from x)
 | ext φ=>obtain⟨_,⟨_,e⟩,_⟩:=x;exact Dg e
theorem Paired.mapP{α β:Type}{F G:α->β->Prop}:∀{l₁:List α} {l₂:List β},Paired F l₁ l₂->(∀a b,F a b->G a b)->Paired G l₁ l₂
 | _,_,.nil,_=>.nil
 | _,_,.cons r t,f=>.cons (f _ _ r) (Paired.mapP t f)
def bV.stay(x:bV P w H h a o)(k:∀b u,(b=a\/H b=Vo (.own a))->h.get? b=Vo u->h'.get? b=Vo u)
  (ho:∀b,H b=Vo (.own a)->H' b=Vo (.own a)) (j:∀b xs,H b=Vo (.tup xs)->H' b=Vo (.tup xs)):bV P w H' h' a o:=by
 induction o with
 | lst xs=>obtain⟨z,i,n,r,e⟩:=x;exact⟨z,i,n,r,k _ _ (.inl rfl) e⟩
 | tup xs=>obtain⟨z,i,r,g,e,c⟩:=x;exact⟨z,i,r,g,k _ _ (.inl rfl) e,c⟩
 | dK kvs=>obtain⟨z,y,vs,r,g,es,ep,e,c⟩:=x;exact⟨z,y,vs,r,g,es,ep,k _ _ (.inl rfl) e,c⟩
 | dT kvs=>
  obtain⟨z,y,xs,r,g,es,ep,e,c⟩:=x;exact⟨z,y,xs,Paired.mapP r λp q z=>⟨z.1,j _ _ z.2.1,z.2.2⟩,g,es,ep,k _ _ (.inl rfl) e,c⟩
 | set S n=>obtain⟨g,es,ep,t,e,c⟩:=x;exact⟨g,es,ep,t,k _ _ (.inl rfl) e,c⟩
 | ins C dx fs=>
  obtain⟨d,z,ne,e,mA,⟨od,es,ep,l,c⟩,r⟩:=x;exact⟨ho _ d,z,ne,k _ _ (.inl rfl) e,mA,⟨od,es,ep,k _ _ (.inr d) l,c⟩,r⟩
 | own y=>obtain⟨g,e⟩:=x;exact⟨g,k _ _ (.inl rfl) e⟩
 | xd fs=>obtain⟨mA,⟨od,es,ep,e,c⟩,r⟩:=x;exact⟨mA,⟨od,es,ep,k _ _ (.inl rfl) e,c⟩,r⟩
 | rng lo hi=>obtain⟨t,u,v,e⟩:=x;exact⟨t,u,v,k _ _ (.inl rfl) e⟩
 | frz g u m=>obtain⟨e,q⟩:=x;exact⟨k _ _ (.inl rfl) e,m q⟩
 | tbl ps=>
  have e:h.get? a=Vo { cls:=.none,data:=.fields ps }:=x;show h'.get? a=Vo { cls:=.none,data:=.fields ps };exact k a _ (.inl rfl) e
 | met f y=>
  have e:h.get? a=Vo (PySem.W.methodObj (.ref f) (.ref y)):=x;show h'.get? a=Vo (PySem.W.methodObj (.ref f) (.ref y));exact k a _ (.inl rfl) e
 | ext φ=>obtain⟨p,⟨o,e⟩,st⟩:=x;exact⟨st _ _ p λo q=>k _ _ (.inl rfl) q,⟨o,k _ _ (.inl rfl) e⟩,st⟩
theorem bC.lt(x:bC P w H h)(e:H a=Vo o):a<h.objs.size:=(x a o e).lt
def bC.fresh(x:bC P w H h)(e:h.objs.size<=a):H a=Vp:=by
 cases q:H a with
 | none=>rfl
 | some u=>exact absurd (DL (x.lt q) e) (Nat.lt_irrefl _)
def bC.kept(x:bC P w H h)(k:∀b u,h.get? b=Vo u->h'.get? b=Vo u):bC P w H h':=λa o e=>
 (x a o e).stay (λb u _ q=>k b u q) (λ_ q=>q) λ_ _ q=>q
def bC.laid(x:bC P w H h)(k:∀b u,h.get? b=Vo u->h'.get? b=Vo u)(f:h.objs.size<=a)(new:bV P w (upd H a o) h' a o):bC P w (upd H a o) h':=λb u e=>by
 have d:=x.fresh f;by_cases hb:b=a
 .subst hb;rw[bg]at e;cases e;exact new
 .rw[aY hb]at e;exact(x b u e).stay (λc v _ q=>k c v q) (λc q=>by rw[aY (du q d)];exact q) λc xs q=>by rw[aY (du q d)];exact q
end
def Rd(H:Hp)(a:Vb)(u:HO):Prop:=H a=Vo u\/∃o,H a=Vo (.frz o u)
def Rd.ok{P:Vd}{w:Ve}{H:Hp}{h:Vh}{a:Vb}{u:HO}(r:Rd H a u)(x:bC P w H h):bV P w H h a u:=by
 rcases r with r|⟨o,r⟩
 .exact x a u r
 .obtain⟨_,q⟩:=x a _ r;exact q
def jv:Option HO->Prop
 | some (.lst _)=>True
 | some (.dK _)=>True
 | some (.dT _)=>True
 | some (.set _ _)=>True
 | some (.ins _ _ _)=>True
 | some (.ext _)=>True
 | _=>False
section
variable {P:Vd} {w:Ve} {H:Hp} {h h':Vh} {x e:Vb} {o':HO}
def bC.write(ok:bC P w H h)(d:jv (H x))(i:e=x\/H e=Vo (.own x))(k:∀b u,b≠e->h.get? b=Vo u->h'.get? b=Vo u)(g:∃u,h'.get? e=Vo u)
  (new:bV P w (upd H x o') h' x o'):bC P w (upd H x o') h':=λb u q=>by
 have nown:∀c y,H c=Vo (.own y)->c≠x:=λc y r z=>by subst z;rw[r]at d;exact d
 have ntup:∀c xs,H c=Vo (.tup xs)->c≠x:=λc xs r z=>by subst z;rw[r]at d;exact d
 by_cases hb:b=x
 .subst hb;rw[bg]at q;cases q;exact new
 .rw[aY hb]at q;by_cases a:b=e
  .have j:H b=Vo (.own x):=by
    rcases i with z|z
    .exact absurd (a.trans z) hb
    .rw[a];exact z
   rw[q]at j;cases j;obtain⟨v,l⟩:=g;exact⟨v,by rw[a];exact l⟩
  .refine(ok b u q).stay (λc v f r=>k c v ?_ r) (λc r=>by rw[aY (nown c b r)];exact r) λc xs r=>by rw[aY (ntup c xs r)];exact r
   rcases f with rfl|f
   .exact a
   .rintro rfl;rcases i with z|z
    .exact nown c b f z
    .rw[f]at z;cases z;exact hb rfl
end
structure Un(fs ex:List Vb)(H H':Hp)(h h':Vh):Prop where
 keep:∀b o,h.get? b=Vo o->H b=Vp->b∉fs->b∉ex->h'.get? b=Vo o
 slot:∀b o,h.get? b=Vo o->H b=Vp->b∈fs->b∉ex->∃sl,h'.get? b=Vo { o with slots:=sl }
 free:∀b o,h.get? b=Vo o->H b=Vp->b∉ex->H' b=Vp
 there:∀b o,h.get? b=Vo o->b∉ex->∃o',h'.get? b=Vo o'
 tups:∀b xs,H b=Vo (.tup xs)->H' b=Vo (.tup xs)
 frzs:∀b o u,H b=Vo (.frz o u)->H' b=Vo (.frz o u)
 tbls:∀b ps,H b=Vo (.tbl ps)->∃more,H' b=Vo (.tbl (ps++more))
section
variable {fs fs' ex ex':List Vb} {H H1 H2:Hp} {h h1 h2 h':Vh} {a x e:Vb} {o:HO}
def Un.any(u:Un fs ex H H1 h h1){b:Vb}{a:Obj}(q:h.get? b=Vo a)(n:H b=Vp)(c:b∉ex):∃sl,h1.get? b=Vo { a with slots:=sl }:=by
 by_cases hb:b∈fs
 .exact u.slot b a q n hb c
 .exact⟨a.slots,u.keep b a q n hb c⟩
def Un.kept(k:∀b u,h.get? b=Vo u->h'.get? b=Vo u):Un fs ex H H h h':=
 ⟨λb a q _ _ _=>k b a q,λb a q _ _ _=>⟨a.slots,k b a q⟩,λ_ _ _ n _=>n,λb a q _=>⟨a,k b a q⟩,λ_ _ q=>q,λ_ _ _ q=>q,λ_ ps q=>⟨#[],by rw[q];simp⟩⟩
def Un.refl:Un fs ex H H h h:=Un.kept λ_ _ q=>q
def Un.laid(k:∀b u,h.get? b=Vo u->h'.get? b=Vo u)(d:h.objs.size<=a)(c:H a=Vp):Un fs ex H (upd H a o) h h' where
 keep:=λb u q _ _ _=>k b u q
 slot:=λb u q _ _ _=>⟨u.slots,k b u q⟩
 free:=λb u q n _=>by rw[aY (DB (DL (Dg q) d))];exact n
 there:=λb u q _=>⟨u,k b u q⟩
 tups:=λb xs q=>by rw[aY (du q c)];exact q
 frzs:=λb u xs q=>by rw[aY (du q c)];exact q
 tbls:=λb ps q=>⟨#[],by rw[aY (du q c),q];simp⟩
def Un.write(c:jv (H x))(i:e=x\/H e=Vo (.own x))(k:∀b u,b≠e->h.get? b=Vo u->h'.get? b=Vo u)(d:∃u,h'.get? e=Vo u):Un fs ex H (upd H x o) h h':=by
 have g:∀b,H b=Vp->b≠x:=λb n z=>by subst z;rw[n]at c;exact c
 have hb:∀b,H b=Vp->b≠e:=λb n z=>by
  subst z;rcases i with r|r
  .exact g b n r
  .rw[n]at r;cases r
 have f:∀b u,H b=Vo u->¬jv (Vo u)->b≠x:=λb u q nm z=>by subst z;rw[q]at c;exact nm c
 refine⟨λb u q n _ _=>k b u (hb b n) q,λb u q n _ _=>⟨u.slots,k b u (hb b n) q⟩,λb u q n _=>by rw[aY (g b n)];exact n,λb u q _=>?_,
  λb xs q=>by rw[aY (f b _ q λz=>z)];exact q,λb u xs q=>by rw[aY (f b _ q λz=>z)];exact q,λb ps q=>⟨#[],by rw[aY (f b _ q λz=>z),q];simp⟩⟩
 by_cases a:b=e
 .subst a;exact d
 .exact⟨u,k b u a q⟩
end
def fL(h:Vh)(H:Hp):List Vb:=(Ed h.objs.size).filter λa=>(H a).isSome
def eS(h:Vh)(H:Hp):Vh:=PySem.W.hideAll h (fL h H)
def yV(h:Vh)(H:Hp):(eS h H).objs.size=h.objs.size:=PySem.W.hideAll_size _ _
def xq{h:Vh}{H:Hp}{b:Vb}{o:Obj}(e:h.get? b=Vo o)(n:H b=Vp):(eS h H).get? b=Vo o:=
 PySem.W.hideAll_get _ e λa=>by have q:(H b).isSome=true:=(List.mem_filter.mp a).2;rw[n]at q;simp at q
def zW{h:Vh}{H:Hp}{b:Vb}{o:Obj}(e:(eS h H).get? b=Vo o):h.get? b=Vo o/\H b=Vp:=by
 have a:h.get? b=Vo o:=PySem.W.of_hideAll (fL h H) e;refine⟨a,?_⟩;cases q:H b with
 | none=>rfl
 | some x=>
  have c:b∈fL h H:=List.mem_filter.mpr ⟨List.mem_range.mpr (Dg a),by simp[q]⟩;have z:(eS h H).get? b=Vp:=PySem.W.hideAll_none (fL h H) c;rw[z]at e;cases e
structure Mod(K:Dd)(mg:Vn->Option Va)(base:Vh):Prop where
 kin:K.In base
 glob:base.Ns Vj mg
 blt:∃mb,base.Ns builtinsNs mb/\∀x:Vn,x≠"__name__"->mb x=bootBuiltins x
 nolimit:base.NoLimit
structure Cx where
 prog:Vd
 w:Ve
 K:Dd
 mg:Vn->Option Va
 base:Vh
 A:Vi
 N:List Vn
 s₀:Vc
 H₀:Hp
 env:Env
 outer:List Env
 stack:List Env
 ex:List Vb
 fn:Vn->Bool
 calm:Bool
 pn:List (Vb×Obj)
 xe:Va->Vc->Prop
variable {t' n:Nat}{ch fp:List Vb}{M:Model}{A:Vi}{E:Va->Vc->Prop}{v:V}{u:Va}{s:Vc}{pins:List (Vb×Obj)}{H:Hp}{P:Vd}{w:Ve}{tg:Vk}{h:Vh}{us:List Va}
def aQ(l:List Env):List Vb:=l.filterMap (·.frame)
abbrev Cx.fs(X:Cx):List Vb:=aQ X.outer
def ky(sc:Scope)(x:Vn):Prop:=sc.names.lookup x=Vo .local\/sc.names.lookup x=Vo .cell\/sc.names.lookup x=Vo .free
def Loc(sc:Scope)(x:Vn):Prop:=sc.names.lookup x=Vo .local\/sc.names.lookup x=Vo .cell
def Look(env:Env)(h:Vh)(m:Vn->Option Va)(x:Vn)(u:Va):Prop:=
 (env.kindOf x=Vo .local/\m x=Vo u)\/((env.kindOf x=Vo .cell\/env.kindOf x=Vo .free)/\∃c,env.cells.lookup x=Vo c/\h.IsCell c (Vo u))
structure Cx.Ok(X:Cx):Prop where
 mod:Mod X.K X.mg X.base
 kind:X.env.scope.kind=.function
 glob:X.env.globals=Vj
 blt:X.env.builtins=builtinsNs
 above:X.s₀.heap.objs.size<=X.env.locals
 inj:∀x y c,X.env.cells.lookup x=Vo c->X.env.cells.lookup y=Vo c->x=y
 has:∀x,(X.env.kindOf x=Vo .cell\/X.env.kindOf x=Vo .free)->∃c,X.env.cells.lookup x=Vo c
 cab:∀x c,X.fn x=true->X.env.cells.lookup x=Vo c->X.s₀.heap.objs.size<=c
 hd:X.calm=true->X.A.handled=Vp
 frames:X.A.frames=Vo X.stack
 stk:X.stack=X.outer\/(X.stack=X.env::X.outer/\X.env.frame=Vo X.env.locals)
 exf:∀b∈X.ex,b≠X.env.locals/\∀x c,X.env.cells.lookup x=Vo c->c≠b
 bs:∀b o,X.base.get? b=Vo o->X.s₀.heap.get? b=Vo o/\X.H₀ b=Vp
 bsz:X.base.objs.size<=X.s₀.heap.objs.size
 noex:∀b o,X.base.get? b=Vo o->b∉X.ex
 exfs:∀b∈X.ex,b∉X.fs
 funs:X.s₀.heap.FunFrames X.base X.outer
 frf:∀b∈X.fs,X.H₀ b=Vp
structure Inv(X:Cx)(pins:List (Vb×Obj))(σ:List (Option V))(H:Hp)(s:Vc):Prop where
 ok:X.Ok
 os:s.os=X.s₀.os
 bare:AllBare s.gens
 base:Un X.fs X.ex X.H₀ H X.s₀.heap s.heap
 loc:∃m,s.heap.Ns X.env.locals m/\∀(i:Nat) (x:Vn) (v:V),X.N[i]?=Vo x->σ[i]?=Vo (Vo v)->ky X.env.scope x->∃u,RelV v u/\Look X.env s.heap m x u
 cell:∀x c,X.env.cells.lookup x=Vo c->∃v,s.heap.IsCell c v
 free:H X.env.locals=Vp
 freeC:∀x c,X.env.cells.lookup x=Vo c->H c=Vp
 pin:∀p∈X.pn++pins,s.heap.get? p.1=Vo p.2/\H p.1=Vp/\p.1≠X.env.locals/\p.1∉X.fs/\∀v,p.2.data≠.cell v
 hok:bC X.prog X.w H s.heap
 len:σ.length=X.N.length
section
variable {X:Cx} {pins:List (Vb×Obj)} {σ:List (Option V)} {H H':Hp} {s:Vc} {h':Vh}
def Cx.Ok.nofr(ok:X.Ok){b:Vb}{o:Obj}(e:X.base.get? b=Vo o):b∉X.fs:=λhb=>by have:=(ok.funs.mem hb).1;rw[e]at this;cases this
theorem Inv.bs(I:Inv X pins σ H s):∀b o,X.base.get? b=Vo o->s.heap.get? b=Vo o/\H b=Vp:=λb o e=>
 ⟨I.base.keep b o (I.ok.bs b o e).1 (I.ok.bs b o e).2 (I.ok.nofr e) (I.ok.noex b o e),I.base.free b o (I.ok.bs b o e).1 (I.ok.bs b o e).2 (I.ok.noex b o e)⟩
def Inv.bk(I:Inv X pins σ H s):∀b o,X.base.get? b=Vo o->s.heap.get? b=Vo o:=λb o e=>(I.bs b o e).1
theorem Inv.mod(I:Inv X pins σ H s):Mod X.K X.mg X.base:=I.ok.mod
def Inv.kIn(I:Inv X pins σ H s):X.K.In s.heap:=I.ok.mod.kin.keeps I.bk
theorem Inv.lt(I:Inv X pins σ H s):X.env.locals<s.heap.objs.size:=let ⟨_,hn,_⟩:=I.loc;hn.lt
def Inv.sz(I:Inv X pins σ H s):X.s₀.heap.objs.size<=s.heap.objs.size:=DM I.ok.above (Nat.le_of_lt I.lt)
def Inv.nofs(I:Inv X pins σ H s){a:Vb}(h:s.heap.objs.size<=a):a∉X.fs:=λhb=>by obtain⟨_,o,ho,_⟩:=I.ok.funs.mem hb;exact absurd (DL (Dg ho) (DM I.sz h)) (Nat.lt_irrefl _)
def Inv.cne(I:Inv X pins σ H s):∀x c,X.env.cells.lookup x=Vo c->c≠X.env.locals:=λx c e z=>by obtain⟨v,o,ho,hd⟩:=I.cell x c e;obtain⟨m,⟨o',es,ep,a,b,_⟩,_⟩:=I.loc;rw[z,a]at ho;cases ho;rw[b]at hd;cases hd
theorem Inv.funs(I:Inv X pins σ H s):s.heap.FunFrames X.base X.outer:=by
 have all:∀(l:List Env),(∀b∈aQ l,b∈X.fs)->X.s₀.heap.FunFrames X.base l->s.heap.FunFrames X.base l:=by
  intro l;induction l with
  | nil=>intro _ _;trivial
  | cons env r d=>
   intro hs f;obtain⟨g,⟨L,o,a,h,ho,hd⟩,i⟩:=f;have c:L∈X.fs:=hs L (by unfold aQ;rw[List.filterMap_cons,a];exact Dn);obtain⟨sl,e⟩:=I.base.slot L o ho (I.ok.frf L c) c λz=>I.ok.exfs L z c;exact⟨g,⟨L,_,a,h,e,hd⟩,d (λb hb=>hs b (by unfold aQ;rw[List.filterMap_cons,a];exact Dk _ hb)) i⟩
 exact all X.outer (λ_ hb=>hb) I.ok.funs
theorem Inv.stack(I:Inv X pins σ H s):s.heap.FunFrames X.base X.stack:=by
 rcases I.ok.stk with e|⟨e,a⟩
 .rw[e];exact I.funs
 .rw[e];obtain⟨m,b,_⟩:=I.loc;refine .cons (by rw[I.ok.kind];decide) a b ?_ I.funs;exact Heap.get?_none_of_le (DM I.ok.bsz I.ok.above)
def Inv.stkSub(I:Inv X pins σ H s):∀b∈aQ X.stack,b∈X.env.locals::X.fs:=λb hb=>by
 rcases I.ok.stk with e|⟨e,a⟩
 .rw[e]at hb;exact Dk _ hb
 .rw[e]at hb;unfold aQ at hb;rw[List.filterMap_cons,a]at hb;exact hb
def Inv.stkFree(I:Inv X pins σ H s):∀b∈aQ X.stack,H b=Vp:=λb hb=>by
 rcases Dw.mp (I.stkSub b hb)with e|hb
 .rw[e];exact I.free
 .obtain⟨_,o,ho,_⟩:=I.ok.funs.mem hb;exact I.base.free b o ho (I.ok.frf b hb) λz=>I.ok.exfs b z hb
def Inv.step{g':Array GenState}{t':Nat}{d':Drawn}(I:Inv X pins σ H s)
  (hch:∀b∈ch,(b∈X.ex\/X.s₀.heap.objs.size<=b)/\b≠X.env.locals/\(∀x c,X.env.cells.lookup x=Vo c->c≠b)/\∀p∈X.pn++pins,p.1≠b)
  (keep:∀b o,b≠X.env.locals->b∉X.fs->b∉ch->s.heap.get? b=Vo o->H b=Vp->h'.get? b=Vo o)
  (slot:∀b o,b≠X.env.locals->b∈X.fs->b∉ch->s.heap.get? b=Vo o->H b=Vp->∃sl,h'.get? b=Vo { o with slots:=sl }) (free:∀b o,b∉ch->s.heap.get? b=Vo o->H b=Vp->H' b=Vp)
  (there:∀b o,b∉ch->s.heap.get? b=Vo o->∃o',h'.get? b=Vo o')
  (tups:∀b xs,H b=Vo (.tup xs)->H' b=Vo (.tup xs)) (frzs:∀b o u,H b=Vo (.frz o u)->H' b=Vo (.frz o u)) (tbls:∀b ps,H b=Vo (.tbl ps)->∃more,H' b=Vo (.tbl (ps++more)))
  (ns:∀m,s.heap.Ns X.env.locals m->h'.Ns X.env.locals m) (hok:bC X.prog X.w H' h') (B:AllBare g') :
  Inv X pins σ H' { s with heap:=h',gens:=g',drawn:=d',toks:=t' }:=by
 have neL:∀b o,X.s₀.heap.get? b=Vo o->b≠X.env.locals:=λb o e=>DB (DL (Dg e) I.ok.above);have neC:∀b o,X.s₀.heap.get? b=Vo o->b∉X.ex->b∉ch:=λb o e a hb=>by
  rcases(hch b hb).1 with z|z
  .exact a z
  .exact absurd (DL (Dg e) z) (Nat.lt_irrefl _)
 have cellK:∀x c,X.env.cells.lookup x=Vo c->∀v,s.heap.IsCell c v->h'.IsCell c v:=λx c e v ⟨o,ho,hd⟩=>by
  have f:c∉ch:=λz=>(hch c z).2.2.1 x c e rfl;by_cases t:c∈X.fs
  .obtain⟨sl,q⟩:=slot c o (I.cne x c e) t f ho (I.freeC x c e);exact⟨_,q,hd⟩
  .exact⟨o,keep c o (I.cne x c e) t f ho (I.freeC x c e),hd⟩
 refine⟨I.ok,I.os,B,⟨λb o e n hb a=>?_,λb o e n hb a=>?_,λb o e n a=>?_,λb o e a=>?_,λb xs e=>tups b xs (I.base.tups b xs e),λb o xs e=>frzs b o xs (I.base.frzs b o xs e),λb ps e=>?_⟩,?_,λx c e=>?_,?_,λx c e=>?_,λp y=>?_,hok,I.len⟩
 .exact keep b o (neL b o e) hb (neC b o e a) (I.base.keep b o e n hb a) (I.base.free b o e n a)
 .obtain⟨sl,g⟩:=I.base.slot b o e n hb a;obtain⟨j,h⟩:=slot b _ (neL b o e) hb (neC b o e a) g (I.base.free b o e n a);exact⟨j,h⟩
 .obtain⟨o',g⟩:=I.base.there b o e a;exact free b o' (neC b o e a) g (I.base.free b o e n a)
 .obtain⟨o',g⟩:=I.base.there b o e a;exact there b o' (neC b o e a) g
 .obtain⟨m1,g⟩:=I.base.tbls b ps e;obtain⟨C,h⟩:=tbls b _ g;exact⟨m1++C,by rw[h,Array.append_assoc]⟩
 .obtain⟨m,E,F⟩:=I.loc;refine⟨m,ns m E,λi x v g h G=>?_⟩;obtain⟨u,r,l⟩:=F i x v g h G;refine⟨u,r,?_⟩;rcases l with l|⟨k,c,e,z⟩
  .exact .inl l
  .exact .inr ⟨k,c,e,cellK x c e _ z⟩
 .obtain⟨v,z⟩:=I.cell x c e;exact⟨v,cellK x c e v z⟩
 .obtain⟨m,⟨o,_,_,ho,_⟩,_⟩:=I.loc;exact free _ o (λz=>(hch _ z).2.1 rfl) ho I.free
 .obtain⟨v,o,ho,hd⟩:=I.cell x c e;exact free c o (λz=>(hch c z).2.2.1 x c e rfl) ho (I.freeC x c e)
 .obtain⟨e,n,ne,A,d⟩:=I.pin p y;have f:p.1∉ch:=λz=>(hch p.1 z).2.2.2 p y rfl;exact⟨keep p.1 p.2 ne A f e n,free p.1 p.2 f e n,ne,A,d⟩
def Inv.un{t':Nat}(I:Inv X pins σ H s)(u:Un X.fs [] H H' s.heap h')(hok:bC X.prog X.w H' h'):Inv X pins σ H' { s with heap:=h',toks:=t' }:=by
 obtain⟨m,⟨o,es,ep,ho,r⟩,_⟩:=id I.loc;obtain⟨sl,f⟩:=u.any ho I.free (by simp);exact I.step (g':=s.gens) (d':=s.drawn) (ch:=[]) (λ_ z=>nomatch z) (λb o _ hb _ e n=>u.keep b o e n hb (by simp)) (λb o _ hb _ e n=>u.slot b o e n hb (by simp)) (λb o _ e n=>u.free b o e n (by simp)) (λb o _ e=>u.there b o e (by simp)) u.tups u.frzs u.tbls (λi g=>by obtain⟨o',c,d,a,h⟩:=g;rw[ho]at a;cases a;exact⟨_,c,d,f,h⟩) hok I.bare
def Inv.call{g':Array GenState}{t':Nat}{d':Drawn}(I:Inv X pins σ H s)(u:Un (aQ X.stack) ch H H' s.heap h')(hok:bC X.prog X.w H' h')(i:AllBare g')
  (hch:∀b∈ch,(b∈X.ex\/X.s₀.heap.objs.size<=b)/\b≠X.env.locals/\(∀x c,X.env.cells.lookup x=Vo c->c≠b)/\∀p∈X.pn++pins,p.1≠b) :
  Inv X pins σ H' { s with heap:=h',gens:=g',drawn:=d',toks:=t' }:=by
 obtain⟨m,⟨o,es,ep,ho,r⟩,_⟩:=id I.loc;obtain⟨sl,f⟩:=u.any ho I.free λz=>(hch _ z).2.1 rfl;exact I.step (ch:=ch) hch (λb o f hb a e n=>u.keep b o e n (λz=>(Dw.mp (I.stkSub b z)).elim f hb) a) (λb o _ _ a e n=>u.any e n a) (λb o a e n=>u.free b o e n a) (λb o a e=>u.there b o e a) u.tups u.frzs u.tbls (λl j=>by obtain⟨o',g,h,d,k⟩:=j;rw[ho]at d;cases d;exact⟨_,g,h,f,k⟩) hok i
def Inv.turned{t':Nat}{it:Vb}(I:Inv X pins σ H s)(k:∀b o,b≠it->s.heap.get? b=Vo o->h'.get? b=Vo o)(g:H it=Vp)(f:it≠X.env.locals)
  (h1:it∈X.ex\/X.s₀.heap.objs.size<=it) (h2:∀x c,X.env.cells.lookup x=Vo c->c≠it) (h:∀p∈X.pn++pins,p.1≠it):Inv X pins σ H { s with heap:=h',toks:=t' }:=by
 have d:∀b u,H b=Vo u->b≠it:=λb u e z=>by rw[z,g]at e;cases e
 refine I.step (g':=s.gens) (d':=s.drawn) (ch:=[it]) (λb hb=>?_) (λb o _ _ a e _=>k b o (λz=>a (by simp[z])) e) (λb o _ _ a e _=>⟨o.slots,k b o (λz=>a (by simp[z])) e⟩) (λ_ _ _ _ n=>n)
  (λb o a e=>⟨o,k b o (λz=>a (by simp[z])) e⟩) (λ_ _ e=>e) (λ_ _ _ e=>e) (λb ps e=>⟨#[],by rw[e];simp⟩) (λm i=>?_) (λb u e=>?_) I.bare
 .have e:b=it:=by simpa using hb
  subst e;exact⟨h1,f,h2,h⟩
 .obtain⟨o,es,ep,ho,r⟩:=i;exact⟨o,es,ep,k _ o (Ne.symm f) ho,r⟩
 .refine(I.hok b u e).stay (λc v a q=>k c v ?_ q) (λ_ q=>q) λ_ _ q=>q;rcases a with z|z
  .rw[z];exact d b u e
  .exact d c _ z
def Inv.tok(I:Inv X pins σ H s)(t:Nat):Inv X pins σ H { s with toks:=t }:=I.un (h':=s.heap) (t':=t) Un.refl I.hok
theorem Inv.kept{t':Nat}(I:Inv X pins σ H s)(k:∀b u,s.heap.get? b=Vo u->h'.get? b=Vo u):Inv X pins σ H { s with heap:=h',toks:=t' }:=I.un (Un.kept k) (I.hok.kept k)
theorem Inv.laid{a:Vb}{o:HO}{t':Nat}(I:Inv X pins σ H s)(k:∀b u,s.heap.get? b=Vo u->h'.get? b=Vo u)(c:s.heap.objs.size<=a)(new:bV X.prog X.w (upd H a o) h' a o):
  Inv X pins σ (upd H a o) { s with heap:=h',toks:=t' }:=I.un (Un.laid k c (I.hok.fresh c)) (I.hok.laid k c new)
theorem Inv.write{x e:Vb}{o:HO}{t':Nat}(I:Inv X pins σ H s)(c:jv (H x))(d:e=x\/H e=Vo (.own x))(k:∀b u,b≠e->s.heap.get? b=Vo u->h'.get? b=Vo u)(a:∃u,h'.get? e=Vo u)
  (new:bV X.prog X.w (upd H x o) h' x o):Inv X pins σ (upd H x o) { s with heap:=h',toks:=t' }:=I.un (Un.write c d k a) (I.hok.write c d k a new)
def Inv.pins_of{a:List (Vb×Obj)}(I:Inv X pins σ H s)(h:∀p∈a,s.heap.get? p.1=Vo p.2/\H p.1=Vp/\p.1≠X.env.locals/\p.1∉X.fs/\∀v,p.2.data≠.cell v):Inv X a σ H s:=
 ⟨I.ok,I.os,I.bare,I.base,I.loc,I.cell,I.free,I.freeC,λp b=>(DF.mp b).elim (λz=>I.pin p (DU _ z)) (h p),I.hok,I.len⟩
def jS{N:List Vn}(c:N.Nodup){i j:Nat}{x:Vn}(a:N[i]?=Vo x)(b:N[j]?=Vo x):i=j:=by obtain⟨h1,d⟩:=Dr.mp a;obtain⟨h2,e⟩:=Dr.mp b;exact(List.getElem_inj c).mp (d.trans e.symm)
def rE{M:Model}{A:Vi}{E:Va->Vc->Prop}{i:Nat}{x:Vn}{Q:Unit->Vc->Prop}(I:Inv X pins σ H s)(hN:X.N.Nodup)(hi:X.N[i]?=Vo x)(l:Loc X.env.scope x)(r:RelV v u)
  (h:∀s',Inv X pins (σ.set i (Vo v)) H s'->(∃a,Heap.SameBut a s.heap s'.heap/\(a=X.env.locals\/X.env.cells.lookup x=Vo a))->Q () s') (hf:X.fn x=true\/X.env.scope.names.lookup x=Vo .local:=by first|exact .inl rfl|exact .inr rfl|assumption):Vf M A (storeName X.env x u) Q E s:=by
 obtain⟨m,T,hl⟩:=id I.loc;have K:(X.env.scope.kind == .class || (X.env.scope.kind == .module && X.env.locals != X.env.globals))=false:=by rw[I.ok.kind];rfl
 have C:i<σ.length:=by rw[I.len];exact(Dr.mp hi).1
 have cne:=I.cne;have tracked:∀{a:Vb} {h':Vh},(∃o,s.heap.get? a=Vo o/\H a=Vp)->Heap.SameBut a s.heap h'->bC X.prog X.w H h':=λ{a h'} ha hs b ob e=>by
  obtain⟨_,_,t⟩:=ha;refine(I.hok b ob e).stay (λc S g q=>(hs.2 c ?_).trans q) (λ_ q=>q) λ_ _ q=>q;rintro rfl;rcases g with rfl|g
  .rw[t]at e;cases e
  .rw[t]at g;cases g
 rcases l with F|F
 .refine wpAny_storeName_local F T (λh' U hs=>?_) K;obtain⟨oL,_,_,W,_⟩:=id T;refine h _ ⟨I.ok,I.os,I.bare,⟨λb o e n hb l=>?_,λb o e n hb l=>?_,I.base.free,λb o e l=>?_,I.base.tups,I.base.frzs,I.base.tbls⟩,⟨_,U,λj y Y f B Z=>?_⟩,λy c e=>?_,I.free,I.freeC,λp hp=>?_,tracked ⟨oL,W,I.free⟩ hs,by simpa using I.len⟩ ⟨_,hs,.inl rfl⟩
  .exact(hs.2 b (DB (DL (Dg e) I.ok.above))).trans (I.base.keep b o e n hb l)
  .obtain⟨sl,f⟩:=I.base.slot b o e n hb l;exact⟨sl,(hs.2 b (DB (DL (Dg e) I.ok.above))).trans f⟩
  .obtain⟨o',f⟩:=I.base.there b o e l;exact⟨o',(hs.2 b (DB (DL (Dg e) I.ok.above))).trans f⟩
  .by_cases G:j=i
   .subst G;rw[hi]at f;cases f;rw[List.getElem?_set_self C]at B;cases B;exact⟨u,r,.inl ⟨F,by simp⟩⟩
   .rw[List.getElem?_set_ne (Ne.symm G)]at B;obtain⟨u',r',q⟩:=hl j y Y f B Z;refine⟨u',r',?_⟩;rcases q with⟨k,e⟩|⟨k,c,e,z⟩
    .refine .inl ⟨k,?_⟩;have:y≠x:=λe=>G (jS hN f (e ▸ hi));simp[this,e]
    .exact .inr ⟨k,c,e,z.sameBut hs (cne y c e)⟩
  .obtain⟨S,z⟩:=I.cell y c e;exact⟨S,z.sameBut hs (cne y c e)⟩
  .obtain⟨e,n,ne,nf,d⟩:=I.pin p hp;exact⟨(hs.2 p.1 ne).trans e,n,ne,nf,d⟩
 .have J:X.fn x=true:=by
   rcases hf with z|z
   .exact z
   .rw[z]at F;cases F
  obtain⟨c,g⟩:=I.ok.has x (.inl F);obtain⟨S,z⟩:=I.cell x c g;refine wpAny_storeName_cell I.ok.kind F g z (λh' L hs=>?_);obtain⟨oc,O,P⟩:=id z;refine h { s with heap:=h' } ⟨I.ok,I.os,I.bare,⟨λb o e n hb l=>?_,λb o e n hb l=>?_,I.base.free,λb o e l=>?_,I.base.tups,I.base.frzs,I.base.tbls⟩,⟨m,T.sameBut hs (Ne.symm (cne x c g)),λj y Y f B Z=>?_⟩,λy c' e=>?_,I.free,I.freeC,λp hp=>?_,tracked ⟨oc,O,I.freeC x c g⟩ hs,by simpa using I.len⟩ ⟨c,hs,.inr g⟩
  .exact(hs.2 b (DB (DL (Dg e) (I.ok.cab x c J g)))).trans (I.base.keep b o e n hb l)
  .obtain⟨sl,f⟩:=I.base.slot b o e n hb l;exact⟨sl,(hs.2 b (DB (DL (Dg e) (I.ok.cab x c J g)))).trans f⟩
  .obtain⟨o',f⟩:=I.base.there b o e l;exact⟨o',(hs.2 b (DB (DL (Dg e) (I.ok.cab x c J g)))).trans f⟩
  .by_cases G:j=i
   .subst G;rw[hi]at f;cases f;rw[List.getElem?_set_self C]at B;cases B;exact⟨u,r,.inr ⟨.inl F,c,g,L⟩⟩
   .rw[List.getElem?_set_ne (Ne.symm G)]at B;obtain⟨u',r',q⟩:=hl j y Y f B Z;refine⟨u',r',?_⟩;rcases q with q|⟨k,c',e,z'⟩
    .exact .inl q
    .refine .inr ⟨k,c',e,z'.sameBut hs ?_⟩;rintro rfl;exact G (jS hN f (I.ok.inj _ _ _ e g ▸ hi))
  .by_cases R:c'=c
   .subst R;exact⟨_,L⟩
   .obtain⟨w2,z2⟩:=I.cell y c' e;exact⟨w2,z2.sameBut hs R⟩
  .obtain⟨e,n,ne,nf,d⟩:=I.pin p hp;refine⟨(hs.2 p.1 ?_).trans e,n,ne,nf,d⟩;intro q;rw[q,O]at e;have q':oc=p.2:=DS e;exact d S (by rw[<-q'];exact P)
def ir{M:Model}{A:Vi}{E:Va->Vc->Prop}{i:Nat}{x:Vn}{Q:Unit->Vc->Prop}(I:Inv X pins σ H s)(a:X.N.Nodup)(hi:X.N[i]?=Vo x)(b:Loc X.env.scope x)(r:RelV v u)
  (h:∀s',Inv X pins (σ.set i (Vo v)) H s'->Q () s') (c:X.fn x=true\/X.env.scope.names.lookup x=Vo .local:=by first|exact .inl rfl|exact .inr rfl|assumption):Vf M A (storeName X.env x u) Q E s:=
 rE I a hi b r (λs' d _=>h s' d) c
def Inv.call'{s':Vc}(I:Inv X pins σ H s)(ho:s'.os=s.os)(u:Un (aQ X.stack) ch H H' s.heap s'.heap)(hok:bC X.prog X.w H' s'.heap)(a:AllBare s'.gens)
  (hch:∀b∈ch,(b∈X.ex\/X.s₀.heap.objs.size<=b)/\b≠X.env.locals/\(∀x c,X.env.cells.lookup x=Vo c->c≠b)/\∀p∈X.pn++pins,p.1≠b):Inv X pins σ H' s':=by
 obtain⟨h',g',d',t',o'⟩:=s';have e:o'=s.os:=ho;subst e;exact I.call (g':=g') (t':=t') (d':=d') u hok a hch
end
abbrev XK:=Va->Option Vb->Hp->Prop
abbrev St:=List (Option V)
abbrev VK:=V->Hp->Prop
abbrev TE:=St->Hp->VK->Prop
abbrev TT:=St->Hp->(Bool->Hp->Prop)->Prop
abbrev TA:=St->Hp->(List V->Hp->Prop)->Prop
structure Ends where
 nx:St->Hp->Prop
 rt:VK
 bk:St->Hp->Prop:=λ_ _=>False
 ct:St->Hp->Prop:=λ_ _=>False
abbrev TS:=Ends->St->Hp->Prop
def EP(X:Cx)(pins:List (Vb×Obj))(σ:St)(Q:VK)(u:Va)(s':Vc):Prop:=∃v H',Inv X pins σ H' s'/\RelV v u/\Q v H'
def TP(X:Cx)(pins:List (Vb×Obj))(σ:St)(Q:Bool->Hp->Prop)(b:Bool)(s':Vc):Prop:=∃H',Inv X pins σ H' s'/\Q b H'
def AP(X:Cx)(pins:List (Vb×Obj))(σ:St)(Q:List V->Hp->Prop)(us:List Va)(s':Vc):Prop:=∃vs H',Inv X pins σ H' s'/\Vals vs us/\Q vs H'
def SP(X:Cx)(pins:List (Vb×Obj))(D:Ends)(f:Flow)(s':Vc):Prop:=
 match f with
 | .next=>∃a H',Inv X pins a H' s'/\D.nx a H'
 | .brk=>∃a H',Inv X pins a H' s'/\D.bk a H'
 | .cont=>∃a H',Inv X pins a H' s'/\D.ct a H'
 | .ret u=>∃v a H',Inv X pins a H' s'/\RelV v u/\D.rt v H'
def PE(X:Cx)(e:Vk)(t:TE):Prop:=
 ∀(pins:List (Vb×Obj)) (s:Vc) (σ:St) (H:Hp) (Q:VK),Inv X pins σ H s->t σ H Q->Vf (Vg X.prog X.w) X.A (eval e X.env) (EP X pins σ Q) X.xe s
def PT(X:Cx)(e:Vk)(t:TT):Prop:=
 ∀(pins:List (Vb×Obj)) (s:Vc) (σ:St) (H:Hp) (Q:Bool->Hp->Prop),Inv X pins σ H s->t σ H Q->Vf (Vg X.prog X.w) X.A (isTrue e X.env (eval e X.env)) (TP X pins σ Q) X.xe s
def PW(X:Cx)(e:Vk)(t:TT):Prop:=
 ∀(whole:Sem Va) (pins:List (Vb×Obj)) (s:Vc) (σ:St) (H:Hp) (Q:Bool->Hp->Prop),Inv X pins σ H s->t σ H Q->Vf (Vg X.prog X.w) X.A (isTrue e X.env whole) (TP X pins σ Q) X.xe s
def PW.pt{X:Cx}{e:Vk}{t:TT}(h:PW X e t):PT X e t:=h _
def PA(X:Cx)(es:List Vk)(t:TA):Prop:=
 ∀(pos:Pos) (pins:List (Vb×Obj)) (s:Vc) (σ:St) (H:Hp) (Q:List V->Hp->Prop),Inv X pins σ H s->t σ H Q->Vf (Vg X.prog X.w) X.A (spliced (backTo pos (starEach es X.env))) (AP X pins σ Q) X.xe s
def PS(X:Cx)(st:Vl)(t:TS):Prop:=
 ∀(pins:List (Vb×Obj)) (s:Vc) (σ:St) (H:Hp) (D:Ends),Inv X pins σ H s->t D σ H->Vf (Vg X.prog X.w) X.A (exec st X.env) (SP X pins D) X.xe s
def b9(X:Cx)(st:List Vl)(t:TS):Prop:=
 ∀(pins:List (Vb×Obj)) (s:Vc) (σ:St) (H:Hp) (D:Ends),Inv X pins σ H s->t D σ H->Vf (Vg X.prog X.w) X.A (execs st X.env) (SP X pins D) X.xe s
def aw{α:Type}{t:Sem α}{Q b:α->Vc->Prop}(h:Vf M A t Q E s)(c:∀a s,Q a s->b a s):Vf M A t b E s:=wpAny_mono h c λ_ _ x=>x
section
variable {X:Cx}
def bin{a b:Vk}{ta tb:TE}(ha:PE X a ta)(hb:PE X b tb){σ:St}{R:V->V->Hp->Prop}(I:Inv X pins σ H s)(h:ta σ H λx H1=>tb σ H1 λy H2=>R x y H2)
  {α:Type} {Q:α->Vc->Prop} {f:Va->Va->Sem α}
  (e:∀v u s2 x y H2,Inv X pins σ H2 s2->RelV x v->RelV y u->R x y H2->Vf (Vg X.prog X.w) X.A (f v u) Q X.xe s2) :
  Vf (Vg X.prog X.w) X.A (eval a X.env) (λv c=>Vf (Vg X.prog X.w) X.A (eval b X.env) (λu d=>Vf (Vg X.prog X.w) X.A (f v u) Q X.xe d) X.xe c) X.xe s:=by
 refine aw (ha pins s σ H _ I h) λv s1 ⟨x,H1,g,r1,i⟩=>?_;refine aw (hb pins s1 σ H1 _ g i) λu s2 ⟨y,H2,j,k,l⟩=>?_;exact e v u s2 x y H2 j r1 k l
def kL(i:Nat):TE:=λσ H Q=>∃v,σ[i]?=Vo (Vo v)/\Q v H
def tC(v:V):TE:=λ_ H Q=>Q v H
def xN{i:Nat}{x:Vn}{pos:Pos}(g:X.N[i]?=Vo x)(j:ky X.env.scope x)(hd:(x == ("__debug__":Vn))=false:=by decide)(d:(x == ("__classdict__":Vn))=false:=by decide):PE X (.Name x pos) (kL i):=by
 intro pins s σ H Q I h;obtain⟨v,e,h⟩:=h;obtain⟨m,k,n⟩:=I.loc;obtain⟨u,r,l⟩:=n i x v g e j;have fin:EP X pins σ Q u s:=⟨v,H,I,r,h⟩;rcases l with⟨b,o⟩|⟨b,c,f,a⟩
 .exact wpAny_Name (wpAny_loadName_local I.ok.kind b k o fin) hd
 .rcases b with b|b
  .exact wpAny_Name (wpAny_loadName_cell I.ok.kind b f a fin) hd
  .exact wpAny_Name (wpAny_loadName_free I.ok.kind b f a fin d) hd
def ag{i j pos}:PE X (.Constant (.int i) j pos) (tC (.int i)):=λ_ _ _ H _ I h=>wpAny_Constant_int ⟨.int i,H,I.tok _,⟨_,rfl⟩,h⟩
def bJ{b j pos}:PE X (.Constant (.bool b) j pos) (tC (.bl b)):=λ_ _ _ H _ I h=>Constant_bool ⟨.bl b,H,I,rfl,h⟩
def dn{j pos}:PE X (.Constant .none j pos) (tC .non):=λ_ _ _ H _ I h=>Constant_none ⟨.non,H,I,rfl,h⟩
def ai{x j pos}:PE X (.Constant (.str x) j pos) (tC (.str x)):=λ_ _ _ H _ I h=>Calls.Constant_str ⟨.str x,H,I.tok _,⟨_,rfl⟩,h⟩
def Gl(X:Cx)(x:Vn):Prop:=X.env.kindOf x=Vo .globalImplicit
def gp{E:Va->Vc->Prop}{σ:St}{x:Vn}{pos:Pos}{Q:Va->Vc->Prop}(I:Inv X pins σ H s)(a:Gl X x)(b:X.mg x=Vo u)(h:Q u s)
  (hd:(x == ("__debug__":Vn))=false:=by decide):Vf (Vg X.prog X.w) X.A (eval (.Name x pos) X.env) Q E s:=
 Calls.Name_function_global I.ok.kind a (Calls.loadGlobal_global (by rw[I.ok.glob];exact I.mod.glob.keeps I.bk) b h) hd
def iP{E:Va->Vc->Prop}{σ:St}{x:Vn}{pos:Pos}{Q:Va->Vc->Prop}(I:Inv X pins σ H s)(a:Gl X x)(b:X.mg x=Vp)(c:bootBuiltins x=Vo u)(h:Q u s)
  (d:x≠"__name__":=by decide) (hd:(x == ("__debug__":Vn))=false:=by decide):Vf (Vg X.prog X.w) X.A (eval (.Name x pos) X.env) Q E s:=by
 obtain⟨mb,h1,h2⟩:=I.mod.blt;exact Calls.Name_function_global I.ok.kind a (Calls.loadGlobal_builtin (by rw[I.ok.glob];exact I.mod.glob.keeps I.bk) b (by rw[I.ok.blt];exact h1.keeps I.bk) ((h2 x d).trans c) h) hd
def cP{x:Vn}{pos:Pos}(a:Gl X x)(b:X.mg x=Vo u)(r:RelV v u)(hd:(x == ("__debug__":Vn))=false:=by decide):PE X (.Name x pos) (tC v):=
 λ_ _ _ H _ I h=>gp I a b ⟨v,H,I,r,h⟩ hd
def cq{x:Vn}{pos:Pos}(a:Gl X x)(b:X.mg x=Vp)(c:bootBuiltins x=Vo u)(r:RelV v u)(d:x≠"__name__":=by decide)(hd:(x == ("__debug__":Vn))=false:=by decide):PE X (.Name x pos) (tC v):=
 λ_ _ _ H _ I h=>iP I a b c ⟨v,H,I,r,h⟩ d hd
variable {a b:Vk} {ta tb:TE} {pos:Pos}
def PC(X:Cx)(op:CmpOp)(a b:Vk)(t:TE):Prop:=
 ∀(pins:List (Vb×Obj)) (s:Vc) (σ:St) (H:Hp) (Q:VK),Inv X pins σ H s->t σ H Q ->
  Vf (Vg X.prog X.w) X.A (eval a X.env) (λv c=>Vf (Vg X.prog X.w) X.A (eval b X.env) (λu d=>Vf (Vg X.prog X.w) X.A (compareOp op v u) (EP X pins σ Q) X.xe d) X.xe c) X.xe s
def tB(t:TE):TT:=λσ H Q=>t σ H λx H1=>∃c,x=.bl c/\Q c H1
def CL{op:CmpOp}{t:TE}(h:PC X op a b t)(h1:behindInMarks op b=false:=by first|exact nobehind _ (by decide) (by decide)|rfl):PE X (.Compare a [op] [b] pos) t:=λpins s σ H Q I c=>wpAny_Compare1 (h pins s σ H Q I c) h1
def CV{op:CmpOp}{t:TE}(h:PC X op a b t)(h1:behindInMarks op b=false:=by first|exact nobehind _ (by decide) (by decide)|rfl):PT X (.Compare a [op] [b] pos) (tB t):=by intro pins s σ H Q I e;refine wpAny_isTrue_Compare1 (aw (h pins s σ H _ I e) λv s1 h1=>aw h1 λu s2 h2=>aw h2 λc i ⟨x,H1,f,r1,g⟩=>?_) h1;obtain⟨d,rfl,q⟩:=g;cases r1;exact wpAny_truthy_bool ⟨H1,f,q⟩
def br{e:Vk}{t:TE}(h:PE X e t)(a:∀whole,isTrue e X.env whole=(do let v <-whole;standAt e.pos;holding [v] (truthy v)):=by intro _;rfl):PT X e (tB t):=by intro pins s σ H Q I b;refine isTrue_plain (aw (h pins s σ H _ I b) λv s1 ⟨x,H1,c,r1,f⟩=>?_) (a _);obtain⟨d,rfl,q⟩:=f;cases r1;exact wpAny_truthy_bool ⟨H1,c,q⟩
variable {tA tB':TT} {rest:List Vk}
def rZ(t u:TT):TT:=λσ H Q=>t σ H λc H1=>if c=true then u σ H1 Q else Q false H1
def pW(t u:TT):TT:=λσ H Q=>t σ H λc H1=>if c=true then Q true H1 else u σ H1 Q
def rV(t:TT):TT:=λσ H Q=>t σ H λc H1=>Q (!c) H1
def jY(ha:PT X a tA):PW X (.BoolOp .And [a] pos) tA:=by
 intro b pins s σ H Q I h;refine isTrue_and (aw (ha pins s σ H Q I h) λc s1 e=>?_);cases c with
 | true=>exact isTrue_and_nil e
 | false=>exact e
def bQ(ha:PT X a tA):PW X (.BoolOp .Or [a] pos) tA:=by
 intro b pins s σ H Q I h;refine isTrue_or (aw (ha pins s σ H Q I h) λc s1 e=>?_);cases c with
 | false=>exact isTrue_or_nil e
 | true=>exact e
def ke(ha:PT X a tA)(hb:PW X (.BoolOp .And (b::rest) pos) tB'):PW X (.BoolOp .And (a::b::rest) pos) (rZ tA tB'):=by
 intro f pins s σ H Q I h;refine isTrue_and (aw (ha pins s σ H _ I h) λc s1 ⟨H1,d,e⟩=>?_);cases c with
 | true=>exact hb f pins s1 σ H1 Q d e
 | false=>exact⟨H1,d,e⟩
def bj(ha:PT X a tA)(hb:PW X (.BoolOp .Or (b::rest) pos) tB'):PW X (.BoolOp .Or (a::b::rest) pos) (pW tA tB'):=by
 intro f pins s σ H Q I h;refine isTrue_or (aw (ha pins s σ H _ I h) λc s1 ⟨H1,d,e⟩=>?_);cases c with
 | true=>exact⟨H1,d,e⟩
 | false=>exact hb f pins s1 σ H1 Q d e
def bt(ha:PT X a tA):PT X (.UnaryOp .Not a pos) (rV tA):=by intro pins s σ H Q I h;exact isTrue_not (ha pins s σ H (λc H1=>Q (!c) H1) I h)
def sA(ta tb:TE):TE:=λσ H Q=>ta σ H λx H1=>∃c,x=.bl c/\if c=true then tb σ H1 Q else Q (.bl false) H1
def uF(ta tb:TE):TE:=λσ H Q=>ta σ H λx H1=>∃c,x=.bl c/\if c=true then Q (.bl true) H1 else tb σ H1 Q
def we(ta:TE):TE:=λσ H Q=>ta σ H λx H1=>∃c,x=.bl c/\Q (.bl (!c)) H1
def dg{op}{t:TE}(h:PE X a t):PE X (.BoolOp op [a] pos) t:=λpins s σ H Q I b=>BoolOp_one (h pins s σ H Q I b)
def cM(ha:PE X a ta)(hb:PE X (.BoolOp .And (b::rest) pos) tb):PE X (.BoolOp .And (a::b::rest) pos) (sA ta tb):=by
 intro pins s σ H Q I h;refine BoolOp_and (aw (ha pins s σ H _ I h) λv s1 ⟨x,H1,e,r1,d⟩=>?_);obtain⟨c,rfl,d⟩:=d;cases r1;refine wpAny_truthy_bool ?_;cases c with
 | true=>exact hb pins s1 σ H1 Q e d
 | false=>exact⟨.bl false,H1,e,rfl,d⟩
def vt(ha:PE X a ta)(hb:PE X (.BoolOp .Or (b::rest) pos) tb):PE X (.BoolOp .Or (a::b::rest) pos) (uF ta tb):=by
 intro pins s σ H Q I h;refine BoolOp_or (aw (ha pins s σ H _ I h) λv s1 ⟨x,H1,e,r1,d⟩=>?_);obtain⟨c,rfl,d⟩:=d;cases r1;refine wpAny_truthy_bool ?_;cases c with
 | false=>exact hb pins s1 σ H1 Q e d
 | true=>exact⟨.bl true,H1,e,rfl,d⟩
def oY(ha:PE X a ta):PE X (.UnaryOp .Not a pos) (we ta):=by intro pins s σ H Q I h;refine UnaryOp_ (aw (ha pins s σ H _ I h) λv s1 ⟨x,H1,d,r1,b⟩=>?_);obtain⟨c,rfl,b⟩:=b;cases r1;exact not_of (wpAny_truthy_bool ⟨.bl (!c),H1,d,rfl,b⟩)
end
def ah(K:Dd)(H:Hp)(a:Vb)(xs:List V):Prop:=
 Rd H a (.lst xs) ∨
  ∃(o:Obj) (b:Array Va) (n:Nat),K.lookup a=Vo o/\o.cls=.type "list"/\o.dict=Vp/\o.data=.seq b n/\b.size<=sizeLine/\Vals xs b.toList
def ar(K:Dd)(H:Hp)(a:Vb)(xs:List V):Prop:=
 Rd H a (.tup xs) ∨
  ∃(o:Obj) (b:Array Va) (n:Nat),K.lookup a=Vo o/\o.cls=.type "tuple"/\o.data=.seq b n/\b.size<=sizeLine/\Vals xs b.toList
def zf:Va->Option V
 | .none=>Vo .non
 | .bool b=>Vo (.bl b)
 | .int i _=>Vo (.int i)
 | .str x _=>Vo (.str x)
 | .bytes b _=>Vo (.byt b)
 | .float b _=>Vo (.flt b)
 | .ref a=>Vo (.ref a)
 | .type n=>Vo (.ty n)
 | _=>Vp
def RelV.abs{x:V}(r:RelV x u):zf u=Vo x:=by
 cases x with
 | non=>cases r;rfl
 | bl _=>cases r;rfl
 | int _=>obtain⟨t,rfl⟩:=r;rfl
 | str _=>obtain⟨t,rfl⟩:=r;rfl
 | byt _=>obtain⟨t,rfl⟩:=r;rfl
 | flt _=>obtain⟨t,rfl⟩:=r;rfl
 | ref _=>cases r;rfl
 | ty _=>cases r;rfl
def RelV.inj{x y:V}(r:RelV x u)(q:RelV y u):x=y:=DS (r.abs.symm.trans q.abs)
theorem Vals.inj:∀{xs ys:List V} {us:List Va},Vals xs us->Vals ys us->xs=ys
 | _,_,_,.nil,.nil=>rfl
 | _,_,_,.cons r t,.cons a t'=>by rw[r.inj a,Vals.inj t t']
section
variable {X:Cx} {pins:List (Vb×Obj)} {σ:St} {H:Hp} {s:Vc} {a:Vb} {xs ys:List V}
def ah.of{K:Dd}(h:H a=Vo (.lst xs)):ah K H a xs:=.inl (.inl h)
def ar.of{K:Dd}(h:H a=Vo (.tup xs)):ar K H a xs:=.inl (.inl h)
def Inv.list(I:Inv X pins σ H s)(h:ah X.K H a xs):∃b:List Va,Vals xs b/\PlainL s.heap a b.toArray/\xs.length<=sizeLine:=by
 rcases h with h|⟨o,b,n,c,d,hd,hs,f,r⟩
 .obtain⟨z,b,n,r,e⟩:=h.ok I.hok;exact⟨b,r,⟨_,n,e,rfl,rfl,rfl⟩,z⟩
 .refine⟨b.toList,r,⟨o,n,I.kIn a o c,d,hd,by simpa using hs⟩,?_⟩;have e:=r.length;simp only[Dl]at e;omega
def Inv.tuple(I:Inv X pins σ H s)(h:ar X.K H a xs):∃b:List Va,Vals xs b/\IsTup s.heap a b.toArray/\xs.length<=sizeLine:=by
 rcases h with h|⟨o,b,n,c,d,hs,f,r⟩
 .obtain⟨z,b,r,p⟩:=h.ok I.hok;exact⟨b,r,p,z⟩
 .refine⟨b.toList,r,⟨o,I.kIn a o c,d,n,by simpa using hs⟩,?_⟩;have e:=r.length;simp only[Dl]at e;omega
def Inv.list_inj(I:Inv X pins σ H s)(h:ah X.K H a xs)(h':ah X.K H a ys):xs=ys:=by
 obtain⟨c,r,⟨o,n,e,_,_,d⟩,_⟩:=I.list h;obtain⟨b,i,⟨o',k,f,_,_,g⟩,_⟩:=I.list h';rw[e]at f;cases f;rw[d]at g;injection g with j _;have:c=b:=by simpa using congrArg Array.toList j
 subst this;exact r.inj i
def Inv.tuple_inj(I:Inv X pins σ H s)(h:ar X.K H a xs)(h':ar X.K H a ys):xs=ys:=by
 obtain⟨c,r,⟨o,e,_,n,d⟩,_⟩:=I.tuple h;obtain⟨b,i,⟨o',f,_,k,g⟩,_⟩:=I.tuple h';rw[e]at f;cases f;rw[d]at g;injection g with j _;have:c=b:=by simpa using congrArg Array.toList j
 subst this;exact r.inj i
end
abbrev Cx.wish(X:Cx)(E:Va->Vc->Prop):Cx:={ X with xe:=E }
abbrev Cx.nox(X:Cx):Cx:=X.wish λ_ _=>False
theorem Cx.Ok.wish{X:Cx}(ok:X.Ok)(E:Va->Vc->Prop):(X.wish E).Ok:=
 ⟨ok.mod,ok.kind,ok.glob,ok.blt,ok.above,ok.inj,ok.has,ok.cab,ok.hd,ok.frames,ok.stk,ok.exf,ok.bs,ok.bsz,ok.noex,ok.exfs,ok.funs,ok.frf⟩
def Cx.Ok.unwish{X:Cx}(ok:(X.wish E).Ok):X.Ok:=
 ⟨ok.mod,ok.kind,ok.glob,ok.blt,ok.above,ok.inj,ok.has,ok.cab,ok.hd,ok.frames,ok.stk,ok.exf,ok.bs,ok.bsz,ok.noex,ok.exfs,ok.funs,ok.frf⟩
section
variable {X:Cx} {pins:List (Vb×Obj)} {σ:St} {H:Hp} {s:Vc} {E:Va->Vc->Prop}
theorem Inv.wish(I:Inv X pins σ H s)(E:Va->Vc->Prop):Inv (X.wish E) pins σ H s:=⟨I.ok.wish E,I.os,I.bare,I.base,I.loc,I.cell,I.free,I.freeC,I.pin,I.hok,I.len⟩
theorem Inv.unwish(I:Inv (X.wish E) pins σ H s):Inv X pins σ H s:=⟨I.ok.unwish,I.os,I.bare,I.base,I.loc,I.cell,I.free,I.freeC,I.pin,I.hok,I.len⟩
theorem SP.unwish{D:Ends}{f:Flow}{s':Vc}(h:SP (X.wish E) pins D f s'):SP X pins D f s':=by
 cases f with
 | next=>obtain⟨a,H',I,q⟩:=h;exact⟨a,H',I.unwish,q⟩
 | brk=>obtain⟨a,H',I,q⟩:=h;exact⟨a,H',I.unwish,q⟩
 | cont=>obtain⟨a,H',I,q⟩:=h;exact⟨a,H',I.unwish,q⟩
 | ret u=>obtain⟨v,a,H',I,r,q⟩:=h;exact⟨v,a,H',I.unwish,r,q⟩
theorem b9.nox{st:List Vl}{t:TS}(h:b9 X.nox st t):b9 X st t:=λpins s σ H D I a=>
 wpAny_mono (h pins s σ H D (I.wish _) a) (λ_ _ q=>q.unwish) λ_ _ z=>False.elim z
end
section
variable {X:Cx} {st:Vl} {rest:List Vl} {t u:TS} {e:Vk} {te:TE} {pos:Pos}
def lM:TS:=λD σ H=>D.nx σ H
def iX(t u:TS):TS:=λD σ H=>t { D with nx:=u D } σ H
def aO:b9 X [] lM:=λ_ _ σ H _ I h=>wpAny_execs_nil ⟨σ,H,I,h⟩
def ak(h1:PS X st t)(h2:b9 X rest u):b9 X (st::rest) (iX t u):=by
 intro pins s σ H D I h;refine wpAny_execs_cons (aw (h1 pins s σ H { D with nx:=u D } I h) λf s1 q=>?_);cases f with
 | next=>
  obtain⟨a,H',b,q⟩:=q;exact h2 pins s1 a H' D b q
 | ret v=>exact q
 | brk=>exact q
 | cont=>exact q
def au(h1:PS X st t):b9 X [st] t:=by
 intro pins s σ H D I h;refine wpAny_execs_cons (aw (h1 pins s σ H D I h) λf s1 q=>?_);cases f with
 | next=>exact wpAny_execs_nil q
 | ret v=>exact q
 | brk=>exact q
 | cont=>exact q
def Inv.quiet{σ:St}(I:Inv X pins σ H s):interactive X.env=false:=by simp[interactive,I.ok.kind]
def vL(te:TE):TS:=λD σ H=>te σ H λ_ H1=>D.nx σ H1
def cF(a:PE X e te)(hs:swapsWith e Vp pos.line X.env=pure false:=by rfl):PS X (.Expr e pos) (vL te):=by intro pins s σ H D I h;exact wpAny_Expr_any (aw (a pins s σ H _ I h) λv s1 ⟨x,H1,b,r1,c⟩=>⟨σ,H1,b,c⟩) I.quiet hs
def ug(te:TE):TS:=λD σ H=>te σ H D.rt
def ax(a:PE X e te):PS X (.Return (Vo e) pos) (ug te):=by intro pins s σ H D I h;exact wpAny_Return_some (aw (a pins s σ H _ I h) λv s1 ⟨x,H1,b,r1,c⟩=>⟨x,σ,H1,b,r1,c⟩)
def tP(c:TT)(t u:TS):TS:=λD σ H=>c σ H λb H1=>if b=true then t D σ H1 else u D σ H1
def aT{c:Vk}{a b:List Vl}{tc:TT}(g:PT X c tc)(ha:b9 X a t)(hb:b9 X b u):PS X (.If c a b pos) (tP tc t u):=by
 intro pins s σ H D I h;refine wpAny_If (aw (g pins s σ H _ I h) λd s1 ⟨H1,e,f⟩=>?_);cases d with
 | true=>exact ha pins s1 σ H1 D e f
 | false=>exact hb pins s1 σ H1 D e f
end
abbrev TG:=V->St->Hp->(St->Hp->Prop)->Prop
abbrev dj:=List V->St->Hp->(St->Hp->Prop)->Prop
def PG(X:Cx)(target:Vk)(t:TG):Prop:=
 ∀(pins:List (Vb×Obj)) (s:Vc) (σ:St) (H:Hp) (v:V) (u:Va) (Q:St->Hp->Prop),Inv X pins σ H s->RelV v u->t v σ H Q ->
  Vf (Vg X.prog X.w) X.A (assign target X.env u) (λ_ s'=>∃a H',Inv X pins a H' s'/\Q a H') X.xe s
def iz(X:Cx)(ts:List Vk)(t:dj):Prop:=
 ∀(pins:List (Vb×Obj)) (s:Vc) (σ:St) (H:Hp) (vs:List V) (us:List Va) (Q:St->Hp->Prop),Inv X pins σ H s->Vals vs us->t vs σ H Q ->
  Vf (Vg X.prog X.w) X.A (assignInOrder ((assignEach ts X.env).map (·.2)) us) (λ_ s'=>∃a H',Inv X pins a H' s'/\Q a H') X.xe s
section
variable {X:Cx} {pos:Pos}
def gL(i:Nat):TG:=λv σ H Q=>Q (σ.set i (Vo v)) H
def aV{i:Nat}{x:Vn}(a:X.N.Nodup)(hi:X.N[i]?=Vo x)(b:Loc X.env.scope x)(c:X.fn x=true\/X.env.scope.names.lookup x=Vo .local:=by first|exact .inl rfl|exact .inr rfl|assumption):PG X (.Name x pos) (gL i):=by intro pins s σ H v u Q I r h;exact wpAny_assign_Name (ir I a hi b r (λs' d=>⟨_,H,d,h⟩) c)
def uU:dj:=λvs σ H Q=>vs=[]/\Q σ H
def pG(t:TG)(u:dj):dj:=λvs σ H Q=>∃v r,vs=v::r/\t v σ H λa H'=>u r a H' Q
def iL:iz X [] uU:=by intro pins s σ H vs us Q I r h;obtain⟨e,h⟩:=h;subst e;cases r;exact assignInOrder_nil ⟨σ,H,I,h⟩
def cZ{e:Vk}{es:List Vk}{t:TG}{u:dj}(h1:PG X e t)(h2:iz X es u)
  (hs:(assignEach (e::es) X.env).map (·.2)=assign e X.env::(assignEach es X.env).map (·.2):=by rfl):iz X (e::es) (pG t u):=by
 intro pins s σ H vs us Q I r h;obtain⟨v,g,b,h⟩:=h;subst b;cases r with
 | cons r c=>
  rw[hs];refine assignInOrder_cons (aw (h1 pins s σ H _ _ _ I r h) λ_ s1 ⟨a,H1,d,f⟩=>?_);exact h2 pins s1 a H1 _ _ Q d c f
def lH(K:Dd)(n:Nat)(t:dj):TG:=λv σ H Q=>∃a xs,v=.ref a/\ar K H a xs/\xs.length=n/\t xs σ H Q
def zx{es:List Vk}{k:Nat}{t:dj}(g:X.calm=true)(h:iz X es t)
  (i:(assignEach es X.env).length=n:=by rfl) (c:(assignEach es X.env).findIdx? (·.1)=Vp:=by rfl):PG X (.Tuple es k pos) (lH X.K n t):=by
 intro pins s σ H v u Q I r d;obtain⟨a,xs,j,l,m,d⟩:=d;subst j;cases r;obtain⟨p,f,w,z⟩:=I.tuple l;refine assign_Tuple_tuple (I.ok.hd g) w (by simp[i,<-m,f.length]) c λh' x=>?_;have y:Inv X pins σ H { s with heap:=h' }:=I.kept (t':=s.toks) λb o e=>x b o (DB (Dg e)) e;exact h pins _ σ H xs _ Q y (by simpa using f) d
def gX(te:TE)(g:TG):TS:=λD σ H=>te σ H λx H1=>g x σ H1 D.nx
def nF{tg e:Vk}{te:TE}{g:TG}(a:PE X e te)(b:PG X tg g)(hs:swapsWithSole [tg] e pos.line X.env=pure false:=by rfl)(c:swappedStores [tg] e X.env=pure Vp:=by rfl)
  (h1:(assignEach [tg] X.env).map (·.2)=[assign tg X.env]:=by rfl):PS X (.Assign [tg] e pos) (gX te g):=by
 intro pins s σ H D I h;refine wpAny_Assign_stores (aw (a pins s σ H _ I h) λv s1 ⟨x,H1,d,r1,f⟩=>?_) hs c;rw[h1];exact aw (b pins s1 σ H1 x v _ d r1 f) λ_ s2 q=>q
def ay{i:Nat}{x:Vn}{e:Vk}{te:TE}{pos':Pos}(a:X.N.Nodup)(hi:X.N[i]?=Vo x)(b:Loc X.env.scope x)(c:PE X e te)(hs:swapsWith e (Vo (.Name x pos')) pos.line X.env=pure false:=by rfl)(d:X.fn x=true\/X.env.scope.names.lookup x=Vo .local:=by first|exact .inl rfl|exact .inr rfl|assumption):
  PS X (.Assign [.Name x pos'] e pos) (gX te (gL i)):=by
 intro pins s σ H D I h;refine wpAny_Assign_Name (aw (c pins s σ H _ I h) λv s1 ⟨y,H1,f,r1,g⟩=>?_) hs;exact ir f a hi b r1 (λs2 j=>⟨_,H1,j,g⟩) d
def tu(i j:Nat)(ta:TA):TS:=λD σ H=>ta σ H λvs H1=>∃v w,vs=[v,w]/\D.nx ((σ.set i (Vo v)).set j (Vo w)) H1
def qD{i j:Nat}{x y:Vn}{a b:Vk}{ta:TA}{f py pt:Pos}{kt k2 pt2}(z:X.calm=true)(n:X.N.Nodup)(hi:X.N[i]?=Vo x)(B:X.N[j]?=Vo y)(g:i≠j)
  (r:X.env.scope.names.lookup x=Vo .local) (t:X.env.scope.names.lookup y=Vo .local) (ha:PA X [a,b] ta)
  (C:swappedStores [.Tuple [.Name x f,.Name y py] kt pt] (.Tuple [a,b] k2 pt2) X.env=pure (Vo [x,y]))
  (hs:swapsWithSole [.Tuple [.Name x f,.Name y py] kt pt] (.Tuple [a,b] k2 pt2) pos.line X.env=pure false:=by rfl) :
  PS X (.Assign [.Tuple [.Name x f,.Name y py] kt pt] (.Tuple [a,b] k2 pt2) pos) (tu i j ta):=by
 intro pins s σ H D I h;rw[exec_Assign_arm];refine CZ (wpAny_standAt ?_);rw[hs];refine CZ (Dc ?_);rw[Eg (by decide)];refine CZ (Tuple_ (aw (ha _ pins s σ H _ I h) λus s1 ⟨vs,H1,E,r1,k⟩=>?_));obtain⟨v,w,F,k⟩:=k;subst F;obtain⟨c,d,rfl,G,l⟩:∃c d,us=[c,d]/\RelV v c/\RelV w d:=by
  cases r1 with
  | cons p q=>
   cases q with
   | cons J K=>
    cases K;exact⟨_,_,rfl,p,J⟩
 refine wpAny_newObj_type ?_ (by show 2<=sizeLine;decide);have L:Inv X pins σ H1 { s1 with heap:=s1.heap.push { cls:=.type "tuple",data:=.seq [c,d].toArray } }:=E.kept (t':=s1.toks) λb o e=>De _ e;rw[C];refine CZ (Dc ?_);show Vf (Vg X.prog X.w) X.A (do rule "assign.swapped-stores";let items <-unpackItems (.ref s1.heap.objs.size) 2 none;assignInOrder [λv=>bindName X.env y v,λv=>bindName X.env x v] items.reverse;pure Flow.next) _ _ _;refine CZ (wpAny_rule (CZ (unpackItems_tuple (items:=#[c,d]) (I.ok.hd z) (IsTup.new s1.heap _) λh' m=>?_)));have M:=L.kept (h':=h') (t':=s1.toks) λb o e=>m b o (DB (Dg e)) e;show Vf _ _ (assignInOrder [λv=>bindName X.env y v,λv=>bindName X.env x v] [d,c] >>= λ_=>pure Flow.next) _ _ _;refine CZ (assignInOrder_cons (wpAny_bindName (ir M n B (.inl t) l (λs2 O=>?_) (.inr t))));refine assignInOrder_cons (wpAny_bindName (ir O n hi (.inl r) G (λP u=>assignInOrder_nil (Dc ?_)) (.inr r)));rw[List.set_comm _ _ (Ne.symm g)]at u;exact⟨_,H1,u,k⟩
end
structure It where
 go:Nat->Hp->Prop
 yld:Nat->Hp->V->Hp->Prop
 stop:Nat->Hp->Prop
def bL(X:Cx)(pins:List (Vb×Obj))(H:Hp)(b:Vb):Prop:=
 H b=Vp/\b≠X.env.locals/\b∉X.fs/\(b∈X.ex\/X.s₀.heap.objs.size<=b)/\(∀x c,X.env.cells.lookup x=Vo c->c≠b)/\∀p∈X.pn++pins,p.1≠b
def Inv.fpOk{X:Cx}{σ:St}{H':Hp}{b:Vb}(I:Inv X pins σ H s)(hb:s.heap.objs.size<=b)(a:H' b=Vp):bL X pins H' b:=by
 refine⟨a,Nat.ne_of_gt (DL I.lt hb),I.nofs hb,.inr (DM I.sz hb),λx c e z=>?_,λp d z=>?_⟩
 .obtain⟨v,q⟩:=I.cell x c e;exact absurd (DL q.lt (by rw[z];exact hb)) (Nat.lt_irrefl _)
 .exact absurd (DL (Dg (I.pin p d).1) (by rw[z];exact hb)) (Nat.lt_irrefl _)
structure Turn(P:Vd)(w:Ve)(K:Dd)(tg:Vk)(J:It)(fp:List Vb)(it:Vb)(tn:Nat->Vh->Prop):Prop where
 mem:it∈fp
 obj:∀i h,tn i h->∀b∈fp,∃o,h.get? b=Vo o/\∀v,o.data≠.cell v
 keep:∀i h h',tn i h->(∀b∈fp,∀o,h.get? b=Vo o->h'.get? b=Vo o)->tn i h'
 item:∀(X:Cx),X.prog=P->X.w=w->X.K=K->X.calm=true->∀(i:Nat) (pins:List (Vb×Obj)) (s:Vc) (σ:St) (H:Hp) (E:Va->Vc->Prop),Inv X pins σ H s->(∀b∈fp,bL X pins H b)->tn i s.heap->J.go i H ->
  Vf (Vg P w) X.A (pyNext (.ref it)) (λr s1=>∃u,r=Vo u ∧
   Vf (Vg P w) X.A (letOwnedTupleGo tg (.ref it) u) (λ_ s2=>∃x H',Inv X pins σ H' s2/\RelV x u/\J.yld i H x H'/\tn (i+1) s2.heap/\∀b∈fp,H' b=Vp) E s1) E s
 done:∀(X:Cx),X.prog=P->X.w=w->X.K=K->X.calm=true->∀(i:Nat) (pins:List (Vb×Obj)) (s:Vc) (σ:St) (H:Hp) (E:Va->Vc->Prop),Inv X pins σ H s->(∀b∈fp,bL X pins H b)->tn i s.heap->J.stop i H ->
  Vf (Vg P w) X.A (pyNext (.ref it)) (λr s1=>r=Vp/\Inv X pins σ H s1) E s
 self:∀(A:Vi) (i:Nat) (s:Vc) (Q:Va->Vc->Prop) (E:Va->Vc->Prop),tn i s.heap->Q (.ref it) s->Vf (Vg P w) A (pyIter (.ref it)) Q E s
abbrev TI:=St->Hp->(It->Hp->Prop)->Prop
def lZ(X:Cx)(pins:List (Vb×Obj))(σ:St)(tg:Vk)(R:It->Hp->Prop)(a:Va)(s2:Vc):Prop:=
 ∃(it:Vb) (fp:List Vb) (tn:Nat->Vh->Prop) (J:It) (H':Hp),a=.ref it/\Inv X pins σ H' s2/\Turn X.prog X.w X.K tg J fp it tn/\tn 0 s2.heap/\(∀b∈fp,bL X pins H' b)/\R J H'
def PI(X:Cx)(tg iter:Vk)(a:TI):Prop:=
 ∀(pins:List (Vb×Obj)) (s:Vc) (σ:St) (H:Hp) (R:It->Hp->Prop),Inv X pins σ H s->a σ H R ->
  Vf (Vg X.prog X.w) X.A (eval iter X.env) (λv s1=>Vf (Vg X.prog X.w) X.A (pyIter v) (lZ X pins σ tg R) X.xe s1) X.xe s
def j5 {M : Model} {A : Vi} {E : Va -> Vc -> Prop} {s : Vc} {tg : Vk} {it : Vb} {u : Va} {o : Obj} {n : String} {vs : Array Va} {Q : Unit -> Vc -> Prop} (ho : s.heap.get? it = Vo o) (b : o.cls = .type n) (hd : o.data = .fields vs)
    (c : ["enumerate", "zip", "dict_itemiterator", "dict_reverseitemiterator", "odict_iterator", "itertools.zip_longest", "itertools.pairwise"].contains n = false) (a : Q () s) : Vf M A (letOwnedTupleGo tg (.ref it) u) Q E s := by
  unfold letOwnedTupleGo;cases tg <;> first
    | exact Dc a
    | (cases u <;> first
        | exact Dc a
        | (refine CZ (wpAny_load ho ?_)
           rw [b, hd];show Vf M A (if (["enumerate", "zip", "dict_itemiterator", "dict_reverseitemiterator", "odict_iterator", "itertools.zip_longest", "itertools.pairwise"].contains n && vs[0]? == Vo (rawInt _)) = true then _ else _) Q E s;rw [Eg (by intro h; rw [c, Bool.false_and] at h; cases h)];exact Dc a))
def dw(K:Dd)(a:Vb):It:=
 ⟨λi H=>∃xs x,ah K H a xs/\xs[i]?=Vo x,λi H x H'=>H'=H/\∀xs,ah K H a xs->xs[i]?=Vo x,λi H=>∃xs,ah K H a xs/\xs.length<=i⟩
def cH(K:Dd)(a:Vb):It:=
 ⟨λi H=>∃xs x,ar K H a xs/\xs[i]?=Vo x,λi H x H'=>H'=H/\∀xs,ar K H a xs->xs[i]?=Vo x,λi H=>∃xs,ar K H a xs/\xs.length<=i⟩
def eJ(lo:Int)(n:Nat):It:=⟨λi _=>i<n,λi H x H'=>H'=H/\x=.int (lo+i),λi _=>n<=i⟩
def zA{K:Dd}(a it:Vb):Turn P w K tg (dw K a) [it] it (λi h=>h.IsListIter it a i) where
 mem:=by simp
 obj:=λi h st b hb=>by
  have e:b=it:=by simpa using hb
  subst e;obtain⟨o,e,c,d⟩:=st;exact⟨o,e,λv z=>by rw[d]at z;cases z⟩
 keep:=λi h h' st k=>st.at λo e=>k it (by simp) o e
 item:=by intro X l m n L i pins s σ H E I g st r;subst l m n;obtain⟨xs,x,j,t⟩:=r;obtain⟨y,A,p,M⟩:=I.list j;obtain⟨u,N,O⟩:=A.get t;obtain⟨B,C,Q,F,G,J⟩:=g it (by simp);refine wpAny_pyNext_list_item st p.isList (x:=u) (by simpa using N) λh' f sb=>?_;have R:Inv X pins σ H { s with heap:=h' }:=I.turned (t':=s.toks) (λb o hb e=>(sb.2 b hb).trans e) B C F G J;obtain⟨o,e,c,d⟩:=id f;exact⟨u,rfl,j5 (s:={ s with heap:=h' }) e c d (by decide) ⟨x,H,R,O,⟨rfl,λys S=>by rw[I.list_inj S j];exact t⟩,f,λb hb=>(g b hb).1⟩⟩
 done:=by intro X l m n L i pins s σ H E I g st r;subst l m n;obtain⟨xs,j,t⟩:=r;obtain⟨y,A,p,M⟩:=I.list j;obtain⟨B,C,Q,F,G,J⟩:=g it (by simp);have U:=A.length;exact wpAny_pyNext_list_end (I.ok.hd L) st p.isList (by simp;omega) λh' T=>⟨rfl,I.turned (t':=s.toks) (λb o hb e=>T b o hb e) B C F G J⟩
 self:=λ_ _ _ _ _ st h=>wpAny_pyIter_listiter st h
def wM{K:Dd}(a it:Vb):Turn P w K tg (cH K a) [it] it (λi h=>h.IsTupleIter it a i) where
 mem:=by simp
 obj:=λi h st b hb=>by
  have e:b=it:=by simpa using hb
  subst e;obtain⟨o,e,c,d⟩:=st;exact⟨o,e,λv z=>by rw[d]at z;cases z⟩
 keep:=λi h h' st k=>st.at λo e=>k it (by simp) o e
 item:=by intro X m n r L i pins s σ H E I j st t;subst m n r;obtain⟨xs,x,l,y⟩:=t;obtain⟨f,A,p,M⟩:=I.tuple l;obtain⟨u,N,O⟩:=A.get y;obtain⟨B,C,Q,F,G,J⟩:=j it (by simp);refine wpAny_pyNext_tuple_item st (show s.heap.IsTuple a f.toArray from p) (x:=u) (by simpa using N) λh' g sb=>?_;have R:Inv X pins σ H { s with heap:=h' }:=I.turned (t':=s.toks) (λb o hb e=>(sb.2 b hb).trans e) B C F G J;obtain⟨o,e,c,d⟩:=id g;exact⟨u,rfl,j5 (s:={ s with heap:=h' }) e c d (by decide) ⟨x,H,R,O,⟨rfl,λys S=>by rw[I.tuple_inj S l];exact y⟩,g,λb hb=>(j b hb).1⟩⟩
 done:=by intro X m n r L i pins s σ H E I j st t;subst m n r;obtain⟨xs,l,y⟩:=t;obtain⟨f,A,p,M⟩:=I.tuple l;obtain⟨B,C,Q,F,G,J⟩:=j it (by simp);have U:=A.length;exact wpAny_pyNext_tuple_end (I.ok.hd L) st (show s.heap.IsTuple a f.toArray from p) (by simp;omega) λh' T=>⟨rfl,I.turned (t':=s.toks) (λb o hb e=>T b o hb e) B C F G J⟩
 self:=λ_ _ _ _ _ st h=>wpAny_pyIter_tupleiter st h
def yf{K:Dd}(it:Vb)(lo:Int)(n:Nat):Turn P w K tg (eJ lo n) [it] it (λi h=>IsRangeIter h it (lo+(i:Nat)*1) ((n:Int)-(i:Nat)) 1) where
 mem:=by simp
 obj:=λi h st b hb=>by
  have e:b=it:=by simpa using hb
  subst e;exact⟨_,st,λv z=>by have y:Data.fields _=Data.cell v:=z;cases y⟩
 keep:=λi h h' st k=>k it (by simp) _ st
 item:=by intro X d f g j i pins s σ H E I c st l;subst d f g;obtain⟨m,p,A,r,u,x⟩:=c it (by simp);have W:=Walks.range (prog:=X.prog) (w:=X.w) (I.ok.hd j) it lo 1 n;refine W.item i s _ _ l st λv h' tk B a C=>?_;obtain⟨t,rfl⟩:=B;have F:Inv X pins σ H { s with heap:=h',toks:=tk }:=I.turned (λb o hb e=>C b o (by simpa using hb) e) m p r u x;refine⟨_,rfl,j5 (s:={ s with heap:=h',toks:=tk }) (n:="range_iterator") a rfl rfl (by decide) ⟨.int (lo+i),H,F,⟨t,?_⟩,⟨rfl,rfl⟩,a,λb hb=>(c b hb).1⟩⟩;rw[Int.mul_one]
 done:=by intro X d f g j i pins s σ H E I c st l;subst d f g;obtain⟨m,p,A,r,u,x⟩:=c it (by simp);exact wpAny_pyNext_range_end (I.ok.hd j) st (by have:n<=i:=l;omega) λh' G=>⟨rfl,I.turned (t':=s.toks) (λb o hb e=>G b o hb e) m p r u x⟩
 self:=λ_ _ _ _ _ st h=>wpAny_pyIter_rangeiter st h
section
variable {X:Cx} {tg:Vk}
def nZ(K:Dd)(tl:TE):TI:=λσ H R=>tl σ H λx H1=>∃a,x=.ref a/\(∃xs,ah K H1 a xs)/\R (dw K a) H1
def nh(K:Dd)(tl:TE):TI:=λσ H R=>tl σ H λx H1=>∃a,x=.ref a/\(∃xs,ar K H1 a xs)/\R (cH K a) H1
def Bv{l:Vk}{tl:TE}(d:PE X l tl):PI X tg l (nZ X.K tl):=by
 intro pins s σ H R I h;refine aw (d pins s σ H _ I h) λv s1 ⟨x,H1,c,r1,f⟩=>?_;obtain⟨a,e,⟨xs,g⟩,q⟩:=f;subst e;cases r1;obtain⟨i,j,p,k⟩:=c.list g;refine wpAny_pyIter_list p.isList ?_;refine⟨s1.heap.objs.size,[s1.heap.objs.size],_,_,H1,rfl,c.kept (t':=s1.toks) λb o e=>De _ e,zA a _,⟨_,Df _ rfl,rfl,rfl⟩,λb hb=>?_,q⟩;have e:b=s1.heap.objs.size:=by simpa using hb
 subst e;exact c.fpOk (DC _) (c.hok.fresh (DC _))
def wN{l:Vk}{tl:TE}(f:PE X l tl):PI X tg l (nh X.K tl):=by
 intro pins s σ H R I h;refine aw (f pins s σ H _ I h) λv s1 ⟨x,H1,c,r1,g⟩=>?_;obtain⟨a,e,⟨xs,i⟩,q⟩:=g;subst e;cases r1;obtain⟨d,j,p,k⟩:=c.tuple i;refine wpAny_pyIter_tuple (show s1.heap.IsTuple a d.toArray from p) ?_;refine⟨s1.heap.objs.size,[s1.heap.objs.size],_,_,H1,rfl,c.kept (t':=s1.toks) λb o e=>De _ e,wM a _,⟨_,Df _ rfl,rfl,rfl⟩,λb hb=>?_,q⟩;have e:b=s1.heap.objs.size:=by simpa using hb
 subst e;exact c.fpOk (DC _) (c.hok.fresh (DC _))
def yN{σ:St}{R:It->Hp->Prop}{lo hi:Int}{t u v:Tok}{tk:Nat}(I:Inv X pins σ H s)(h1:-(2 ^ 62)<=lo)(h2:lo<2 ^ 62)(c:-(2 ^ 62)<=hi)(d:hi<2 ^ 62)
  (q:R (eJ lo (hi-lo).toNat) H):Vf (Vg X.prog X.w) X.A (pyIter (.ref s.heap.objs.size)) (lZ X pins σ tg R) E { s with heap:=s.heap.push { cls:=.type "range",data:=.fields #[.int lo t,.int hi u,.int 1 v] },toks:=tk }:=by
 refine wpAny_pyIter_range (IsRange.new ..) (small_one h1 h2 c d) ?_;have a:Inv X pins σ H { s with heap:=s.heap.push { cls:=.type "range",data:=.fields #[.int lo t,.int hi u,.int 1 v] },toks:=tk }:=I.kept λb o e=>De _ e;refine⟨(s.heap.push { cls:=.type "range",data:=.fields #[.int lo t,.int hi u,.int 1 v] }).objs.size,[(s.heap.push { cls:=.type "range",data:=.fields #[.int lo t,.int hi u,.int 1 v] }).objs.size],_,_,H,rfl,
  a.kept (t':=tk) λb o e=>De _ e,yf _ lo (hi-lo).toNat,?_,λb hb=>?_,q⟩
 .have f:lo+((0:Nat):Int)*1=lo:=by simp
  have g:(((hi-lo).toNat:Nat):Int)-((0:Nat):Int)=Builtin.Range.rangeSize lo hi 1:=by rw[rangeSize_one];split<;>omega
  show IsRangeIter _ _ (lo+((0:Nat):Int)*1) ((((hi-lo).toNat:Nat):Int)-((0:Nat):Int)) 1;rw[f,g];exact Df _ rfl
 .have e:b=(s.heap.push { cls:=.type "range",data:=.fields #[.int lo t,.int hi u,.int 1 v] }).objs.size:=by simpa using hb
  subst e;exact a.fpOk (DC _) (a.hok.fresh (DC _))
def qG(ta:TA):TI:=λσ H R=>ta σ H λvs H1=>∃j:Int,vs=[.int j]/\-(2 ^ 62)<=j/\j<2 ^ 62/\R (eJ 0 j.toNat) H1
def eB{a:Vk}{ta:TA}{p pos:Pos}(c:Gl X "range")(d:X.mg "range" = Vp)(ha:PA X [a] ta)(hs:starEach [a] X.env=[(false,eval a X.env)]:=by rfl):PI X tg (.Call (.Name "range" p) [a] [] pos) (qG ta):=by
 intro pins s σ H R I h;refine Call_ (iP I c d boot_range (PyProof.Rows.callWith_type1 (aw (ha pos pins s σ H _ I h) λus s1 ⟨vs,H1,f,r1,b⟩=>?_) hs rfl));obtain⟨j,e,b,g,q⟩:=b;subst e;cases r1 with
 | cons r i=>
  cases i;obtain⟨t,rfl⟩:=r;exact call_range_1 (yN f (by omega) (by omega) b g (by simpa using q))
def qS(d:TI)(g:TG)(tb:TS):TS:=λD σ H=>d σ H λJ H1=>∃W:Nat->Nat->St->Hp->Prop,(∃m,W 0 m σ H1)/\∀i m σ H,W i m σ H ->
 (J.stop i H/\D.nx σ H)\/(J.go i H/\∃N:St->Hp->Prop,(∀a H',N a H'->∃c,c<m/\W (i+1) c a H')/\∀x H',J.yld i H x H'->g x σ H' λb H2=>tb { D with nx:=N,ct:=N,bk:=D.nx } b H2)
def dE(fp:List Vb)(h:Vh):List (Vb×Obj):=fp.filterMap λb=>(h.get? b).map λo=>(b,o)
def kG{b:Vb}{o:Obj}(hb:b∈fp)(e:h.get? b=Vo o):(b,o)∈dE fp h:=List.mem_filterMap.mpr ⟨b,hb,by rw[e];rfl⟩
def ou{p:Vb×Obj}(a:p∈dE fp h):p.1∈fp/\h.get? p.1=Vo p.2:=by
 obtain⟨b,hb,e⟩:=List.mem_filterMap.mp a;cases q:h.get? b with
 | none=>rw[q]at e;cases e
 | some o=>
  rw[q]at e;have c:(b,o)=p:=DS e;subst c;exact⟨hb,q⟩
def Inv.pinned{σ:St}(I:Inv X pins σ H s)(c:∀b∈fp,bL X pins H b)(ho:∀b∈fp,∃o,s.heap.get? b=Vo o/\∀v,o.data≠.cell v):Inv X (pins++dE fp s.heap) σ H s:=
 I.pins_of λp f=>(DF.mp f).elim (λz=>I.pin p (DT _ z)) λz=>by obtain⟨hb,e⟩:=ou z;obtain⟨g,h,i,_⟩:=c p.1 hb;obtain⟨o,a,d⟩:=ho p.1 hb;rw[e]at a;cases a;exact⟨e,g,h,i,d⟩
def Inv.unpinned{pl:List (Vb×Obj)}{σ:St}(I:Inv X (pins++pl) σ H s):Inv X pins σ H s:=I.pins_of λp a=>I.pin p (DT _ (DU _ a))
def dO{iter:Vk}{body:List Vl}{P:TI}{g:TG}{tb:TS}{pos:Pos}(y:PassesOwn (Vg X.prog X.w) X.A X.env X.xe)(Q:X.calm=true)(hi:PI X tg iter P)(hg:PG X tg g)(hb:b9 X body tb)
  (hs:∀x,foldedSetIterable iter X.env x=pure x:=by intro _;rfl):PS X (.For tg iter body [] pos) (qS P g tb):=by
 intro pins s σ H D I h;refine wpAny_For (aw (hi pins s σ H _ I h) λv s1 h1=>aw h1 λa0 s2 h2=>?_) hs;obtain⟨it,fp,tn,J,H2,e,I2,T,F,R,W,⟨m0,w0⟩,turn⟩:=h2;subst e;have stat:∀{H':Hp},(∀b∈fp,H' b=Vp)->∀b∈fp,bL X pins H' b:=λhn b hb=>⟨hn b hb,(R b hb).2⟩;refine codeAny_forLoop_any (λn s'=>∃i c H',Inv X pins c H' s'/\tn i s'.heap/\(∀b∈fp,H' b=Vp)/\W i n c H') ?_ m0 ⟨0,σ,H2,I2,F,λb hb=>(R b hb).1,w0⟩;rintro n S ⟨i,j,E,U,z,B,w3⟩;rcases turn i n j E w3 with⟨stop,qn⟩|⟨go,N,hN,step⟩
 .refine wpAny_passesOwn y (aw (T.done X rfl rfl rfl Q i pins S j E X.xe U (stat B) z stop) λr s4 ⟨G,I4⟩=>?_);subst G;exact wpAny_execs_nil ⟨j,E,I4,qn⟩
 .refine wpAny_passesOwn y (aw (T.item X rfl rfl rfl Q i pins S j E X.xe U (stat B) z go) λr s4 ⟨u,G,h4⟩=>?_);subst G;refine wpAny_passesOwn y (aw h4 λ_ Y ⟨x,Z,I5,r5,y5,t,K⟩=>?_);have L:=I5.pinned (stat K) (T.obj _ _ t);refine wpAny_passesOwn y (aw (hg _ Y j Z x u _ L r5 (step x Z y5)) λ_ s6 ⟨M,H6,I6,q6⟩=>?_);refine wpAny_passesOwn y (aw (hb _ s6 M H6 _ I6 q6) λf O p=>?_);have again:∀{a:St} {k:Hp},Inv X (pins++dE fp Y.heap) a k O->N a k->∃m,m<n/\∃i c H',Inv X pins c H' O/\tn i O.heap/\(∀b∈fp,H' b=Vp)/\W i m c H':=λ{a k} l C=>by obtain⟨m',hm,w7⟩:=hN a k C;refine⟨m',hm,i+1,a,k,l.unpinned,T.keep _ _ _ t λb hb o e=>(l.pin (b,o) (DT _ (DT _ (kG hb e)))).1,λb hb=>?_,w7⟩;obtain⟨o,e,d⟩:=T.obj _ _ t b hb;exact(l.pin (b,o) (DT _ (DT _ (kG hb e)))).2.1
  cases f with
  | next=>obtain⟨a,k,l,C⟩:=p;exact again l C
  | cont=>obtain⟨a,k,l,C⟩:=p;exact again l C
  | brk=>obtain⟨a,k,l,p⟩:=p;exact⟨a,k,l.unpinned,p⟩
  | ret v=>obtain⟨x7,a,k,l,r7,p⟩:=p;exact⟨x7,a,k,l.unpinned,r7,p⟩
end
def zg{K:Dd}{a:Vb}{xs:List V}{g:TG}{tb:TS}{D:Ends}{σ:St}(Pv:Nat->St->Hp->Prop)(f:Pv 0 σ H)(h:∀i σ H,i<=xs.length->Pv i σ H->ah K H a xs)
  (hs:∀i x σ H,xs[i]?=Vo x->Pv i σ H->g x σ H λb H2=>tb { D with nx:=Pv (i+1),ct:=Pv (i+1),bk:=D.nx } b H2) (hd:∀σ H,Pv xs.length σ H->D.nx σ H) :
  ∃W:Nat->Nat->St->Hp->Prop,(∃m,W 0 m σ H)/\∀i m σ H,W i m σ H ->
   ((dw K a).stop i H/\D.nx σ H)\/((dw K a).go i H/\∃N:St->Hp->Prop,(∀c H',N c H'->∃d,d<m/\W (i+1) d c H')/\∀x H',(dw K a).yld i H x H'->g x σ H' λb H2=>tb { D with nx:=N,ct:=N,bk:=D.nx } b H2):=by
 refine⟨λi m σ H=>m=xs.length-i/\i<=xs.length/\Pv i σ H,⟨xs.length,by simp,Nat.zero_le _,f⟩,?_⟩;rintro i m σ H ⟨rfl,hi,p⟩;have q:=h i σ H hi p;by_cases hlt:i<xs.length
 .refine .inr ⟨⟨xs,xs[i],q,by simp[hlt]⟩,Pv (i+1),λc H' j=>⟨xs.length-(i+1),by omega,rfl,hlt,j⟩,λx H' y=>?_⟩;obtain⟨e,y⟩:=y;subst e;exact hs i x σ _ (y xs q) p
 .have e:i=xs.length:=by omega
  subst e;exact .inl ⟨⟨xs,q,DC _⟩,hd σ H p⟩
def BQ{K:Dd}{a:Vb}{xs:List V}{g:TG}{tb:TS}{D:Ends}{σ:St}(Pv:Nat->St->Hp->Prop)(f:Pv 0 σ H)(h:∀i σ H,i<=xs.length->Pv i σ H->ar K H a xs)
  (hs:∀i x σ H,xs[i]?=Vo x->Pv i σ H->g x σ H λb H2=>tb { D with nx:=Pv (i+1),ct:=Pv (i+1),bk:=D.nx } b H2) (hd:∀σ H,Pv xs.length σ H->D.nx σ H) :
  ∃W:Nat->Nat->St->Hp->Prop,(∃m,W 0 m σ H)/\∀i m σ H,W i m σ H ->
   ((cH K a).stop i H/\D.nx σ H)\/((cH K a).go i H/\∃N:St->Hp->Prop,(∀c H',N c H'->∃d,d<m/\W (i+1) d c H')/\∀x H',(cH K a).yld i H x H'->g x σ H' λb H2=>tb { D with nx:=N,ct:=N,bk:=D.nx } b H2):=by
 refine⟨λi m σ H=>m=xs.length-i/\i<=xs.length/\Pv i σ H,⟨xs.length,by simp,Nat.zero_le _,f⟩,?_⟩;rintro i m σ H ⟨rfl,hi,p⟩;have q:=h i σ H hi p;by_cases hlt:i<xs.length
 .refine .inr ⟨⟨xs,xs[i],q,by simp[hlt]⟩,Pv (i+1),λc H' j=>⟨xs.length-(i+1),by omega,rfl,hlt,j⟩,λx H' y=>?_⟩;obtain⟨e,y⟩:=y;subst e;exact hs i x σ _ (y xs q) p
 .have e:i=xs.length:=by omega
  subst e;exact .inl ⟨⟨xs,q,DC _⟩,hd σ H p⟩
def yC{lo:Int}{g:TG}{tb:TS}{D:Ends}{σ:St}(Pv:Nat->St->Hp->Prop)(d:Pv 0 σ H)
  (hs:∀i σ H,i<n->Pv i σ H->g (.int (lo+i)) σ H λa H2=>tb { D with nx:=Pv (i+1),ct:=Pv (i+1),bk:=D.nx } a H2) (hd:∀σ H,Pv n σ H->D.nx σ H) :
  ∃W:Nat->Nat->St->Hp->Prop,(∃m,W 0 m σ H)/\∀i m σ H,W i m σ H ->
   ((eJ lo n).stop i H/\D.nx σ H)\/((eJ lo n).go i H/\∃N:St->Hp->Prop,(∀b H',N b H'->∃c,c<m/\W (i+1) c b H')/\∀x H',(eJ lo n).yld i H x H'->g x σ H' λa H2=>tb { D with nx:=N,ct:=N,bk:=D.nx } a H2):=by
 refine⟨λi m σ H=>m=n-i/\i<=n/\Pv i σ H,⟨n,by simp,Nat.zero_le _,d⟩,?_⟩;rintro i m σ H ⟨rfl,hi,p⟩;by_cases hlt:i<n
 .refine .inr ⟨hlt,Pv (i+1),λb H' f=>⟨n-(i+1),by omega,rfl,hlt,f⟩,λx H' y=>?_⟩;obtain⟨e,y⟩:=y;subst e y;exact hs i σ _ hlt p
 .have e:i=n:=by omega
  subst e;exact .inl ⟨DC _,hd σ H p⟩
abbrev R2:=V->V->Hp->VK->Prop
def bh(X:Cx)(f:Va->Va->Sem Va)(r:R2):Prop:=
 ∀(pins:List (Vb×Obj)) (s:Vc) (σ:St) (H:Hp) (x y:V) (v u:Va) (Q:VK),Inv X pins σ H s->RelV x v->RelV y u->r x y H Q ->
  Vf (Vg X.prog X.w) X.A (f v u) (EP X pins σ Q) X.xe s
def nG(X:Cx)(f:Va->Sem Va)(r:V->Hp->VK->Prop):Prop:=
 ∀(pins:List (Vb×Obj)) (s:Vc) (σ:St) (H:Hp) (x:V) (v:Va) (Q:VK),Inv X pins σ H s->RelV x v->r x H Q ->
  Vf (Vg X.prog X.w) X.A (f v) (EP X pins σ Q) X.xe s
def bN(X:Cx)(f:Va)(r:List V->Hp->VK->Prop):Prop:=
 ∀(pins:List (Vb×Obj)) (s:Vc) (σ:St) (H:Hp) (xs:List V) (us:List Va) (Q:VK),Inv X pins σ H s->Vals xs us->r xs H Q ->
  Vf (Vg X.prog X.w) X.A (call f us) (EP X pins σ Q) X.xe s
def gE(r:R2)(ta tb:TE):TE:=λσ H Q=>ta σ H λx H1=>tb σ H1 λy H2=>r x y H2 Q
def rR(r:V->Hp->VK->Prop)(ta:TE):TE:=λσ H Q=>ta σ H λx H1=>r x H1 Q
def rI(C:Int->Int->Prop)(g:Int->Int->V):R2:=λx y H Q=>∃i j,x=.int i/\y=.int j/\C i j/\Q (g i j) H
def eU(g:Int->Int->V):R2:=λx y H Q=>∃i j,x=.int i/\y=.int j/\Q (g i j) H
def rU(g:Int->V):V->Hp->VK->Prop:=λx H Q=>∃i,x=.int i/\Q (g i) H
section
variable {X:Cx} {a b c:Vk} {ta tb tc:TE} {pos:Pos}
def nt(ha:PE X a ta)(hb:PE X b tb){σ:St}{R:V->V->Hp->Prop}(I:Inv X pins σ H s)
  (h:ta σ H λx H1=>tb σ H1 λy H2=>R x y H2) {Q:Va->Vc->Prop} {f:Va->Va->Sem Va}
  (e:∀v u s2 x y H2,Inv X pins σ H2 s2->RelV x v->RelV y u->R x y H2->Vf (Vg X.prog X.w) X.A (f v u) Q X.xe s2) :
  Vf (Vg X.prog X.w) X.A (eval a X.env) (λv c=>Vf (Vg X.prog X.w) X.A (eval b X.env) (λu d=>Vf (Vg X.prog X.w) X.A (f v u) Q X.xe d) X.xe c) X.xe s:=by
 refine aw (ha pins s σ H _ I h) λv s1 ⟨x,H1,g,r1,i⟩=>?_;refine aw (hb pins s1 σ H1 _ g i) λu s2 ⟨y,H2,j,k,l⟩=>?_;exact e v u s2 x y H2 j r1 k l
def aj{op:Operator}{r:R2}(ho:bh X (binaryOp op) r)(ha:PE X a ta)(hb:PE X b tb):PE X (.BinOp a op b pos) (gE r ta tb):=by intro pins s σ H Q I h;exact wpAny_BinOp (nt ha hb I h λv u s2 x y H2 c d e q=>ho pins s2 σ H2 x y v u Q c d e q)
def lJ{op:UnaryOp}{r:V->Hp->VK->Prop}(ho:nG X (unaryOp op) r)(ha:PE X a ta):PE X (.UnaryOp op a pos) (rR r ta):=by intro pins s σ H Q I h;exact UnaryOp_ (aw (ha pins s σ H _ I h) λv s1 ⟨x,H1,b,r1,c⟩=>ho pins s1 σ H1 x v Q b r1 c)
def jF{f:Va->Va->Sem Va}{C:Int->Int->Prop}{g:Int->Int->Int}
  (rule:∀(i j:Int) (t u:Tok) (s:Vc) (Q:Va->Vc->Prop) (E:Va->Vc->Prop),C i j->Q (.int (g i j) s.toks) { s with toks:=s.toks+1 }->Vf (Vg X.prog X.w) X.A (f (.int i t) (.int j u)) Q E s) :
  bh X f (rI C λi j=>.int (g i j)):=by
 intro pins s σ H x y v u Q I a b h;obtain⟨i,j,rfl,rfl,c,q⟩:=h;obtain⟨t,rfl⟩:=a;obtain⟨d,rfl⟩:=b;exact rule i j t d s _ _ c ⟨.int (g i j),H,I.tok _,⟨_,rfl⟩,q⟩
def tT{f:Va->Va->Sem Va}{g:Int->Int->Int}
  (rule:∀(i j:Int) (t u:Tok) (s:Vc) (Q:Va->Vc->Prop) (E:Va->Vc->Prop),Q (.int (g i j) s.toks) { s with toks:=s.toks+1 }->Vf (Vg X.prog X.w) X.A (f (.int i t) (.int j u)) Q E s) :
  bh X f (eU λi j=>.int (g i j)):=by
 intro pins s σ H x y v u Q I a b h;obtain⟨i,j,rfl,rfl,q⟩:=h;obtain⟨t,rfl⟩:=a;obtain⟨c,rfl⟩:=b;exact rule i j t c s _ _ ⟨.int (g i j),H,I.tok _,⟨_,rfl⟩,q⟩
def kK{f:Va->Va->Sem Va}{g:Int->Int->Bool}
  (rule:∀(i j:Int) (t u:Tok) (s:Vc) (Q:Va->Vc->Prop) (E:Va->Vc->Prop),Q (.bool (g i j)) s->Vf (Vg X.prog X.w) X.A (f (.int i t) (.int j u)) Q E s) :
  bh X f (eU λi j=>.bl (g i j)):=by
 intro pins s σ H x y v u Q I a b h;obtain⟨i,j,rfl,rfl,q⟩:=h;obtain⟨t,rfl⟩:=a;obtain⟨c,rfl⟩:=b;exact rule i j t c s _ _ ⟨.bl (g i j),H,I,rfl,q⟩
def vM(i j:Int):Prop:=0<=j/\j<=1000000/\i.natAbs<2 ^ 64
def kI(i j:Int):Prop:=(-(2 ^ 64)<i/\i<2 ^ 64)\/(-(2 ^ 64)<j/\j<2 ^ 64)
def kI.ok{i j:Int}(h:kI i j):IntMulOk i j:=by
 rcases h with⟨h1,h2⟩|⟨h1,h2⟩
 .exact .of_left (intBits_le_64 h1 h2)
 .exact .of_right (intBits_le_64 h1 h2)
def aM:bh X (binaryOp .Add) (eU λi j=>.int (i+j)):=tT λ_ _ _ _ _ _ _ q=>add_int q
def dC:bh X (binaryOp .Sub) (eU λi j=>.int (i-j)):=tT λ_ _ _ _ _ _ _ q=>sub_int q
def dW:bh X (binaryOp .Mult) (rI kI λi j=>.int (i*j)):=jF λ_ _ _ _ _ _ _ a q=>mul_int q a.ok
def cj:bh X (binaryOp .Mod) (rI (λ_ j=>0<j) λi j=>.int (i % j)):=jF λi j _ _ _ _ _ a q=>by have h1:(0:Int)<j:=a;exact mod_int' (by omega) (by rw[Int.fmod_eq_emod_of_nonneg i (by omega)];exact q)
def iW:bh X (binaryOp .Pow) (rI vM λi j=>.int (i ^ j.toNat)):=jF λ_ _ _ _ _ _ _ a q=>pow_int_small a.1 a.2.1 a.2.2 q
def yb{f:Va->Sem Va}{g:Int->Int}
  (rule:∀(i:Int) (t:Tok) (s:Vc) (Q:Va->Vc->Prop) (E:Va->Vc->Prop),Q (.int (g i) s.toks) { s with toks:=s.toks+1 }->Vf (Vg X.prog X.w) X.A (f (.int i t)) Q E s) :
  nG X f (rU λi=>.int (g i)):=by
 intro pins s σ H x v Q I a h;obtain⟨i,rfl,q⟩:=h;obtain⟨t,rfl⟩:=a;exact rule i t s _ _ ⟨.int (g i),H,I.tok _,⟨_,rfl⟩,q⟩
def lL:nG X (unaryOp .USub) (rU λi=>.int (-i)):=yb λ_ _ _ _ _ q=>neg_int q
end
def rd:V->V->Bool
 | .non,.non=>true|.non,.int _=>true|.int _,.non=>true|.non,.bl _=>true|.bl _,.non=>true|.non,.str _=>true|.str _,.non=>true
 | .int _,.int _=>true|.bl _,.bl _=>true|.str _,.str _=>true|.byt _,.byt _=>true
 | .int _,.str _=>true|.str _,.int _=>true|.bl _,.str _=>true|.str _,.bl _=>true
 | _,_=>false
def lI:R2:=λx y H Q=>rd x y=true/\Q (.bl (decide (x=y))) H
def me:R2:=λx y H Q=>rd x y=true/\Q (.bl (!decide (x=y))) H
def sv{i j:Int}:decide (V.int i=V.int j)=(i == j):=by rw[DP];simp
def rF{i j:Bool}:decide (V.bl i=V.bl j)=(i == j):=by rw[DP];simp
def jg{i j:Vn}:decide (V.str i=V.str j)=(i == j):=by rw[DP];simp
def uV{i j:Array UInt8}:decide (V.byt i=V.byt j)=(i.toList == j.toList):=by rw[DP];cases i;cases j;simp
section
variable {X:Cx} {a b c:Vk} {ta tb tc:TE} {pos:Pos}
def bq{σ:St}{Q:VK}{k a:Bool}(I:Inv X pins σ H s)(q:Q (.bl k) H)(e:k=a):EP X pins σ Q (.bool a) s:=by subst e;exact⟨.bl k,H,I,rfl,q⟩
def b6:bh X (compareOp .Eq) lI:=by
 intro pins s σ H x y v u Q I c a h;obtain⟨hs,q⟩:=h;cases x with
 | non=>
  cases c;cases y with
  | non=>cases a;exact PySem.EqNone.eq_none_none (bq I q (by simp))
  | bl j=>cases a;exact PySem.EqNone.eq_none_bool (bq I q (by simp))
  | int j=>obtain⟨b,rfl⟩:=a;exact PySem.EqNone.eq_none_int (bq I q (by simp))
  | str j=>obtain⟨b,rfl⟩:=a;exact PySem.EqNone.eq_none_str (bq I q (by simp))
  | _=>exact absurd (show false=true from hs) Dy
 | bl i=>
  cases c;cases y with
  | non=>cases a;exact PySem.EqNone.eq_bool_none (bq I q (by simp))
  | bl j=>cases a;exact eq_bool (bq I q rF)
  | str j=>obtain⟨b,rfl⟩:=a;exact PySem.EqMixed.eq_bool_str (bq I q (by simp))
  | _=>exact absurd (show false=true from hs) Dy
 | int i=>
  obtain⟨t,rfl⟩:=c;cases y with
  | non=>cases a;exact PySem.EqNone.eq_int_none (bq I q (by simp))
  | int j=>obtain⟨b,rfl⟩:=a;exact eq_int (bq I q sv)
  | str j=>obtain⟨b,rfl⟩:=a;exact PySem.EqMixed.eq_int_str (bq I q (by simp))
  | _=>exact absurd (show false=true from hs) Dy
 | str i=>
  obtain⟨t,rfl⟩:=c;cases y with
  | non=>cases a;exact PySem.EqNone.eq_str_none (bq I q (by simp))
  | bl j=>cases a;exact PySem.EqMixed.eq_str_bool (bq I q (by simp))
  | int j=>obtain⟨b,rfl⟩:=a;exact PySem.EqMixed.eq_str_int (bq I q (by simp))
  | str j=>obtain⟨b,rfl⟩:=a;exact eq_str (bq I q jg)
  | _=>exact absurd (show false=true from hs) Dy
 | byt i=>
  obtain⟨t,rfl⟩:=c;cases y with
  | byt j=>obtain⟨b,rfl⟩:=a;exact PySem.W.eq_bytes (bq I q uV)
  | _=>exact absurd (show false=true from hs) Dy
 | _=>cases y<;>exact absurd (show false=true from hs) Dy
def cn:bh X (compareOp .NotEq) me:=by
 intro pins s σ H x y v u Q I c a h;obtain⟨hs,q⟩:=h;cases x with
 | non=>
  cases c;cases y with
  | non=>cases a;exact PySem.EqNone.ne_none_none (bq I q (by simp))
  | bl j=>cases a;exact PySem.EqNone.ne_none_bool (bq I q (by simp))
  | int j=>obtain⟨b,rfl⟩:=a;exact PySem.EqNone.ne_none_int (bq I q (by simp))
  | str j=>obtain⟨b,rfl⟩:=a;exact PySem.EqNone.ne_none_str (bq I q (by simp))
  | _=>exact absurd (show false=true from hs) Dy
 | bl i=>
  cases c;cases y with
  | non=>cases a;exact PySem.EqNone.ne_bool_none (bq I q (by simp))
  | bl j=>cases a;exact ne_bool (bq I q (congrArg not rF))
  | str j=>obtain⟨b,rfl⟩:=a;exact PySem.EqMixed.ne_bool_str (bq I q (by simp))
  | _=>exact absurd (show false=true from hs) Dy
 | int i=>
  obtain⟨t,rfl⟩:=c;cases y with
  | non=>cases a;exact PySem.EqNone.ne_int_none (bq I q (by simp))
  | int j=>obtain⟨b,rfl⟩:=a;exact ne_int (bq I q (congrArg not sv))
  | str j=>obtain⟨b,rfl⟩:=a;exact PySem.EqMixed.ne_int_str (bq I q (by simp))
  | _=>exact absurd (show false=true from hs) Dy
 | str i=>
  obtain⟨t,rfl⟩:=c;cases y with
  | non=>cases a;exact PySem.EqNone.ne_str_none (bq I q (by simp))
  | bl j=>cases a;exact PySem.EqMixed.ne_str_bool (bq I q (by simp))
  | int j=>obtain⟨b,rfl⟩:=a;exact PySem.EqMixed.ne_str_int (bq I q (by simp))
  | str j=>obtain⟨b,rfl⟩:=a;exact ne_str (bq I q (congrArg not jg))
  | _=>exact absurd (show false=true from hs) Dy
 | byt i=>
  obtain⟨t,rfl⟩:=c;cases y with
  | byt j=>obtain⟨b,rfl⟩:=a;exact PySem.W.ne_bytes (bq I q (congrArg not uV))
  | _=>exact absurd (show false=true from hs) Dy
 | _=>cases y<;>exact absurd (show false=true from hs) Dy
def cW:bh X (compareOp .Lt) (eU λi j=>.bl (decide (i<j))):=kK λ_ _ _ _ _ _ _ q=>lt_int q
def ju:bh X (compareOp .LtE) (eU λi j=>.bl (decide (i<=j))):=kK λ_ _ _ _ _ _ _ q=>le_int q
def ed:bh X (compareOp .Gt) (eU λi j=>.bl (decide (j<i))):=kK λ_ _ _ _ _ _ _ q=>gt_int q
def jU:bh X (compareOp .GtE) (eU λi j=>.bl (decide (j<=i))):=kK λ_ _ _ _ _ _ _ q=>ge_int q
def vI:bh X (compareOp .In) (λx y H Q=>∃i j,x=.str i/\y=.str j/\Q (.bl (!(Builtin.Str.occurrences j i 0 j.length 1).isEmpty)) H):=by intro pins s σ H x y v u Q I a b h;obtain⟨i,j,rfl,rfl,q⟩:=h;obtain⟨t,rfl⟩:=a;obtain⟨c,rfl⟩:=b;exact in_str (bq I q rfl)
def vj:bh X (compareOp .Is) (λx y H Q=>y=.non/\Q (.bl (decide (x=.non))) H):=by
 intro pins s σ H x y v u Q I a b h;obtain⟨rfl,q⟩:=h;cases b;refine is_none_gen (bq I q ?_);cases x<;>first
  | (cases a;rfl)
  | (obtain⟨t,rfl⟩:=a;rfl)
def sd:bh X (compareOp .IsNot) (λx y H Q=>y=.non/\Q (.bl (!decide (x=.non))) H):=by
 intro pins s σ H x y v u Q I a b h;obtain⟨rfl,q⟩:=h;cases b;refine isnot_none_gen (bq I q ?_);cases x<;>first
  | (cases a;rfl)
  | (obtain⟨t,rfl⟩:=a;rfl)
def aA(b:Vk){op:CmpOp}(h:op≠.In:=by decide)(h2:op≠.NotIn:=by decide):behindInMarks op b=false:=by
 have a:(op == CmpOp.In)=false:=by cases op<;>first|rfl|exact absurd rfl h
 have c:(op == CmpOp.NotIn)=false:=by cases op<;>first|rfl|exact absurd rfl h2
 cases b<;>simp[behindInMarks,a,c]
def dD{op:CmpOp}{r:R2}(ho:bh X (compareOp op) r)(ha:PE X a ta)(hb:PE X b tb)(c:behindInMarks op b=false):PE X (.Compare a [op] [b] pos) (gE r ta tb):=by intro pins s σ H Q I h;exact wpAny_Compare1 (nt ha hb I h λv u s2 x y H2 d e f q=>ho pins s2 σ H2 x y v u Q d e f q) c
def tW(t:TE):TT:=λσ H Q=>t σ H λx H'=>∃k,x=.bl k/\Q k H'
def aD{op:CmpOp}{r:R2}(ho:bh X (compareOp op) r)(ha:PE X a ta)(hb:PE X b tb)(d:behindInMarks op b=false):PT X (.Compare a [op] [b] pos) (tW (gE r ta tb)):=by
 intro pins s σ H Q I h;refine wpAny_isTrue_Compare1 (aw (ha pins s σ H _ I h) λv s1 ⟨x,H1,f,r1,g⟩=>aw (hb pins s1 σ H1 _ f g) λu s2 ⟨y,H2,i,j,l⟩=>
  aw (ho pins s2 σ H2 x y v u _ i r1 j l) λc t ⟨z,m,n,o,k,e,p⟩=>?_) d
 subst e;cases o;exact wpAny_truthy_bool ⟨m,n,p⟩
def uw(r b:R2)(ta tb tc:TE):TE:=λσ H Q=>ta σ H λx H1=>tb σ H1 λy H2=>r x y H2 λz a=>∃k,z=.bl k ∧
 (if k=true then tc σ a λc d=>b y c d Q else Q (.bl false) a)
def km{op f:CmpOp}{r i:R2}(ho:bh X (compareOp op) r)(g:bh X (compareOp f) i)(ha:PE X a ta)(hb:PE X b tb)(o:PE X c tc)
  (p:lastMarks [op,f] [b,c]=false:=by with_unfolding_all rfl):PE X (.Compare a [op,f] [b,c] pos) (uw r i ta tb tc):=by
 intro pins s σ H Q I h;refine Compare_chain (aw (ha pins s σ H _ I h) λv s1 ⟨x,H1,t,r1,w⟩=>chain_link (aw (hb pins s1 σ H1 _ t w) λu s2 ⟨y,H2,A,j,B⟩=>
  aw (ho pins s2 σ H2 x y v u _ A r1 j B) λd C ⟨z,l,m,E,k,e,n⟩=>?_)) p
 subst e;cases E;refine wpAny_truthy_bool ?_;cases k with
 | false=>exact ite_ff ⟨.bl false,l,m,rfl,n⟩
 | true=>exact ite_tt (chain_last (aw (o pins C σ l _ m n) λF G ⟨J,K,L,M,N⟩=>g pins G σ K y J u F Q L j M N))
def iT:(sizeLine:Nat)<2 ^ 63:=by rw[sizeLine_eq];decide
def dR:bh X (binaryOp .Add) (λx y H Q=>∃i j,x=.str i/\y=.str j/\i.length+j.length<=sizeLine/\Q (.str (i++j)) H):=by intro pins s σ H x y v u Q I a b h;obtain⟨i,j,rfl,rfl,c,q⟩:=h;obtain⟨t,rfl⟩:=a;obtain⟨d,rfl⟩:=b;exact add_str (λd tk=>⟨.str (i++j),H,I.tok _,⟨_,rfl⟩,q⟩) c
def vals1{x:V}(r:Vals [x] us):∃u,us=[u]/\RelV x u:=by
 cases r with
 | cons r1 a=>cases a;exact⟨_,rfl,r1⟩
def vals2{x y:V}(r:Vals [x,y] us):∃u a,us=[u,a]/\RelV x u/\RelV y a:=by
 cases r with
 | cons r1 b=>
  cases b with
  | cons c d=>cases d;exact⟨_,_,rfl,r1,c⟩
def wG(b:X.calm=true):bN X (.builtin "max") (λxs H Q=>∃i j,xs=[.int i,.int j]/\Q (.int (if j>i then j else i)) H):=by
 intro pins s σ H xs us Q I r h;obtain⟨i,j,rfl,q⟩:=h;obtain⟨u,c,rfl,⟨t,rfl⟩,⟨d,rfl⟩⟩:=vals2 r;refine max_two_ints (I.ok.hd b) λh' tk k=>⟨_,H,I.kept k,?_,q⟩;by_cases a:j>i
 .rw[Eh a,Eh a];exact⟨_,rfl⟩
 .rw[Eg a,Eg a];exact⟨_,rfl⟩
def wJ(b:X.calm=true):bN X (.builtin "min") (λxs H Q=>∃i j,xs=[.int i,.int j]/\Q (.int (if j<i then j else i)) H):=by
 intro pins s σ H xs us Q I r h;obtain⟨i,j,rfl,q⟩:=h;obtain⟨u,c,rfl,⟨t,rfl⟩,⟨d,rfl⟩⟩:=vals2 r;refine min_two_ints (I.ok.hd b) λh' tk k=>⟨_,H,I.kept k,?_,q⟩;by_cases a:j<i
 .rw[Eh a,Eh a];exact⟨_,rfl⟩
 .rw[Eg a,Eg a];exact⟨_,rfl⟩
def BR:bN X (.type "int") (λxs H Q=>(∃i,xs=[.int i]/\Q (.int i) H)\/∃k,xs=[.bl k]/\Q (.int (if k then 1 else 0)) H):=by
 intro pins s σ H xs us Q I r h;rcases h with⟨i,rfl,q⟩|⟨k,rfl,q⟩
 .obtain⟨u,rfl,t,rfl⟩:=vals1 r;exact call_int_int ⟨.int i,H,I,⟨_,rfl⟩,q⟩
 .obtain⟨u,rfl,r1⟩:=vals1 r;cases r1;exact call_int_bool ⟨.int (if k then 1 else 0),H,I.tok _,⟨_,rfl⟩,q⟩
def gy:bN X (.type "str") (λxs H Q=>∃i,xs=[.int i]/\i.natAbs.log2<1920/\Q (.str (toString i)) H):=by intro pins s σ H xs us Q I r h;obtain⟨i,rfl,a,q⟩:=h;obtain⟨u,rfl,t,rfl⟩:=vals1 r;exact PySem.P.str_of_int a ⟨.str _,H,I.tok _,⟨_,rfl⟩,q⟩
end
structure ObjM(h:Vh)(x dx C:Vb)(mA:Vn->Option Va):Prop where
 obj:h.get? x=Vo (PySem.W.instObj C dx)
 ns:h.Ns1 dx mA
 ne:dx≠x
def B4{dx:Vb}{mA:Vn->Option Va}(n:h.Ns1 dx mA):∃od,h.get? dx=Vo od/\∀name,PySem.W.lookIn name od=Vo (mA name):=by
 obtain⟨o,es,ep,ho,hd,c,_,d⟩:=n;refine⟨o,ho,λname=>?_⟩;have e:=d name;unfold nsFind findBy at e;rw[<-Array.find?_toList]at e;unfold PySem.W.lookIn;rw[hd];dsimp only;split
 .rename_i y q;rw[q]at e;exact congrArg Vo e
 .rename_i q;rw[q]at e;have a:es.toList.any (·.refKey)=false:=by rw[List.any_eq_false];intro y f;obtain⟨z,t,b⟩:=c y (Array.mem_toList_iff.mp f);simp[DictEntry.refKey,b]
  have g:¬es.toList.any (·.refKey)=true:=by rw[a];exact Dy
  rw[Eg g];exact congrArg Vo e
def ObjM.look{x dx C:Vb}{mA:Vn->Option Va}(I:ObjM h x dx C mA):∃od,PySem.W.InstAt h x (PySem.W.instObj C dx) C (Vo od)/\∀name,PySem.W.lookIn name od=Vo (mA name):=
 let ⟨od,ho,hl⟩:=B4 I.ns
 ⟨od,⟨I.obj,rfl,rfl,ho⟩,hl⟩
section
variable {P:Vd} {w:Ve} {H H':Hp} {h h':Vh} {a C dx:Vb} {fs fs':List (Vn×V)}
def xO(hok:bC P w H h)(e:H a=Vo (.ins C dx fs)):∃mA,ObjM h a dx C mA/\(∀f,gU (fs.lookup f) (mA f))/\PySem.Within mA (fs.map (·.1))/\fs.length<=1000/\H dx=Vo (.own a):=by obtain⟨d,z,ne,b,mA,n,r,q⟩:=(show bV P w H h a (.ins C dx fs)from hok a _ e);exact⟨mA,⟨b,n,ne⟩,r,q,z,d⟩
end
structure Cls(K:Dd)(C:Vb):Prop where
 pg:PySem.W.plainGet K C Str.empty=true
 hd:PySem.W.hasDictIn K C=true
 po:PySem.W.plainOver K C=true
 sa:PySem.W.findIn K (.ref C) "__setattr__" = Vo (Vo (.builtin "object.__setattr__"))
def Cls.get{K:Dd}{C:Vb}(c:Cls K C)(f:Vn):PySem.W.plainGet K C f=true:=c.pg
section
variable {X:Cx} {pins:List (Vb×Obj)} {σ:St} {H:Hp} {s:Vc} {A:Vi} {E:Va->Vc->Prop} {Q:Va->Vc->Prop} {c:Va} {b:Bool}
inductive TyOf(K:Dd)(H:Hp):V->Va->Prop where
 | non:TyOf K H .non (.type "NoneType")
 | bl (x:Bool):TyOf K H (.bl x) (.type "bool")
 | int (i:Int):TyOf K H (.int i) (.type "int")
 | str (x:Vn):TyOf K H (.str x) (.type "str")
 | flt (x:UInt64):TyOf K H (.flt x) (.type "float")
 | lst {a:Vb} {xs:List V} (e:H a=Vo (.lst xs)):TyOf K H (.ref a) (.type "list")
 | frz {a:Vb} {o:Obj} {xs:List V} (e:H a=Vo (.frz o (.lst xs))):TyOf K H (.ref a) (.type "list")
 | tup {a:Vb} {xs:List V} (e:H a=Vo (.tup xs)):TyOf K H (.ref a) (.type "tuple")
 | dK {a:Vb} {kvs:List (Key×V)} (e:H a=Vo (.dK kvs)):TyOf K H (.ref a) (.type "dict")
 | dT {a:Vb} {kvs:List (List Key×V)} (e:H a=Vo (.dT kvs)):TyOf K H (.ref a) (.type "dict")
 | ins {a C dx:Vb} {fs:List (Vn×V)} (e:H a=Vo (.ins C dx fs)) (cl:Cls K C) (ha:PySem.W.findIn K (.ref C) "__class__" = Vo (Vo (.builtin "object.__class__")))
   (c:PySem.W.specialIn K (.builtin "object.__class__") "__get__" = Vo (Vo (.builtin "getset_descriptor.__get__"))) (b:PySem.W.takesIn K (.builtin "object.__class__")=Vo true)
   (d:PySem.W.mroIn K C (.type "object")=Vo true):TyOf K H (.ref a) (.ref C)
def xT{x:V}{t:Va}(I:Inv X pins σ H s)(d:RelV x u)(ty:TyOf X.K H x t)(e:PySem.W.kitOne X.K t c=Vo b)(h:∀tk,Q (.bool b) { s with toks:=tk }):
  Vf (Vg X.prog X.w) A (call (.builtin "isinstance") [u,c]) Q E s:=by
 cases ty with
 | non=>cases(show u=Value.none from d);exact PySem.W.kia_one PySem.W.kitx_none I.kIn True.intro e (λz=>nomatch z) h
 | bl y=>cases(show u=Value.bool y from d);exact PySem.W.kia_one PySem.W.kitx_bool I.kIn True.intro e (λz=>nomatch z) h
 | int i=>obtain⟨t,q⟩:=(show ∃t,u=Value.int i t from d);cases q;exact PySem.W.kia_one PySem.W.kitx_int I.kIn True.intro e (λz=>nomatch z) h
 | str y=>obtain⟨t,q⟩:=(show ∃t,u=Value.str y t from d);cases q;exact PySem.W.kia_one PySem.W.kitx_str I.kIn True.intro e (λz=>nomatch z) h
 | flt y=>obtain⟨t,q⟩:=(show ∃t,u=Value.float y t from d);cases q;exact PySem.W.kia_one PySem.W.kitx_float I.kIn True.intro e (λz=>nomatch z) h
 | @lst a xs f=>
  cases(show u=Value.ref a from d);obtain⟨_,_,n,_,h1⟩:=(show bV X.prog X.w H s.heap a (.lst xs)from I.hok a _ f);exact PySem.W.kia_one PySem.W.kitx_list I.kIn ⟨_,h1,rfl⟩ e (λz=>nomatch z) h
 | @frz a j xs f=>
  cases(show u=Value.ref a from d);obtain⟨_,_,_,n,_,h1⟩:=(show bV X.prog X.w H s.heap a (.frz j (.lst xs))from I.hok a _ f);exact PySem.W.kia_one PySem.W.kitx_list I.kIn ⟨_,h1,rfl⟩ e (λz=>nomatch z) h
 | @tup a xs f=>
  cases(show u=Value.ref a from d);obtain⟨_,_,_,p⟩:=(show bV X.prog X.w H s.heap a (.tup xs)from I.hok a _ f);obtain⟨o,h1,h2,_⟩:=p;exact PySem.W.kia_one PySem.W.kitx_tuple I.kIn ⟨o,h1,h2⟩ e (λz=>nomatch z) h
 | @dK a kvs f=>
  cases(show u=Value.ref a from d);obtain⟨_,_,vs,_,p⟩:=(show bV X.prog X.w H s.heap a (.dK kvs)from I.hok a _ f);obtain⟨o,es,ep,h1,h2,_⟩:=p;exact PySem.W.kia_one PySem.W.kitx_dict I.kIn ⟨o,h1,h2.1⟩ e (λz=>nomatch z) h
 | @dT a kvs f=>
  cases(show u=Value.ref a from d);obtain⟨_,_,xs,_,o,es,ep,h1,h2,_⟩:=(show bV X.prog X.w H s.heap a (.dT kvs)from I.hok a _ f);exact PySem.W.kia_one PySem.W.kitx_dict I.kIn ⟨o,h1,h2.1⟩ e (λz=>nomatch z) h
 | @ins a C dx fs f cl ha k g l=>
  cases(show u=Value.ref a from d);obtain⟨mA,O,_⟩:=xO I.hok f;obtain⟨od,J,_⟩:=O.look;exact PySem.W.kia_one (PySem.W.kitx_own (cl.get _) cl.hd ha k g l) I.kIn J e (λz=>nomatch z) h
end
structure Room(k:Nat)(A:Vi):Prop where
 hd:A.handled=Vp
 dp:A.depth+3*k+5<recursionLimit
 un:A.units+16*k+200<cLine
def Room.mono{j k:Nat}(r:Room k A)(h:j<=k):Room j A:=⟨r.hd,by have:=r.dp;omega,by have:=r.un;omega⟩
theorem Room.deeper{k:Nat}{A:Vi}(r:Room (k+1) A)(env:Env):Room k (A.deeper env):=
 ⟨r.hd,by have:=r.dp;show A.depth+1+3*k+5<_;omega,by have:=r.un;show A.units+3+16*k+200<_;omega⟩
theorem Room.depth{k:Nat}{A:Vi}(r:Room k A):A.depth<recursionLimit:=by have:=r.dp;omega
theorem Room.units{k:Nat}{A:Vi}(r:Room k A):A.units+64<cLine:=by have:=r.un;omega
def iD:TA:=λ_ H Q=>Q [] H
def j8(ta:TE)(a:TA):TA:=λσ H Q=>ta σ H λx H1=>a σ H1 λxs H2=>Q (x::xs) H2
section
variable {X:Cx} {e:Vk} {es:List Vk} {te:TE} {t:TA} {pos:Pos}
def af:PA X [] iD:=λ_ _ _ _ H Q I h=>Calls.spliced_nil ⟨[],H,I,.nil,h⟩
def ae(ha:PE X e te)(a:PA X es t)(hs:starEach (e::es) X.env=(false,eval e X.env)::starEach es X.env:=by rfl):PA X (e::es) (j8 te t):=by intro pos pins s σ H Q I h;rw[hs];show Vf _ _ (spliced ((false,eval e X.env)::backTo pos (starEach es X.env))) _ _ s;refine Calls.spliced_cons (aw (ha pins s σ H _ I h) λu s1 ⟨x,H1,b,r1,c⟩=>?_);exact aw (a pos pins s1 σ H1 _ b c) λus s2 ⟨xs,H2,d,f,g⟩=>⟨x::xs,H2,d,.cons r1 f,g⟩
def lN(t:TA):TE:=λσ H Q=>t σ H λxs H1=>xs.length<=sizeLine/\∀p,H1 p=Vp->Q (.ref p) (upd H1 p (.tup xs))
def lU(t:TA):TE:=λσ H Q=>t σ H λxs H1=>xs.length<=sizeLine/\∀p,H1 p=Vp->Q (.ref p) (upd H1 p (.lst xs))
def bA{x1}(h:PA X es t):PE X (.Tuple es x1 pos) (lN t):=by intro pins s σ H Q I c;refine wpAny_Tuple_spliced (aw (h pos pins s σ H _ I c) λus s1 ⟨xs,H1,a,r,z,q⟩=>⟨by rw[<-r.length];exact z,?_⟩);have d:H1 s1.heap.objs.size=none:=a.hok.fresh (DC _);refine⟨.ref s1.heap.objs.size,upd H1 s1.heap.objs.size (.tup xs),a.laid (t':=s1.toks) (λb u e=>De _ e) (DC _) ?_,rfl,q _ d⟩;exact⟨z,us,r,⟨_,Df _ rfl,rfl,_,rfl⟩⟩
def aU(h:PA X es t):PE X (.List es pos) (lU t):=by intro pins s σ H Q I c;refine wpAny_List_spliced (aw (h pos pins s σ H _ I c) λus s1 ⟨xs,H1,a,r,z,q⟩=>⟨by rw[<-r.length];exact z,?_⟩);have d:H1 s1.heap.objs.size=none:=a.hok.fresh (DC _);refine⟨.ref s1.heap.objs.size,upd H1 s1.heap.objs.size (.lst xs),a.laid (t':=s1.toks) (λb u e=>De _ e) (DC _) ?_,rfl,q _ d⟩;exact⟨z,us,0,r,Df _ rfl⟩
end
abbrev Sp:=List V->Hp->VK->XK->Prop
abbrev dA:=List Env->Hp->Vc->XK->Va->Vc->Prop
structure Env0(P:Vd)(w:Ve)(K:Dd)(mg:Vn->Option Va)(base:Vh)(A:Vi)(outer:List Env)(s:Vc)(H:Hp):Prop where
 frames:A.frames=Vo outer
 mod:Mod K mg base
 bs:∀b o,base.get? b=Vo o->s.heap.get? b=Vo o/\H b=Vp
 bsz:base.objs.size<=s.heap.objs.size
 funs:s.heap.FunFrames base outer
 frf:∀b∈aQ outer,H b=Vp
 hok:bC P w H s.heap
 bare:AllBare s.gens
def CE(outer:List Env)(P:Vd)(w:Ve)(H:Hp)(s:Vc)(Q:VK)(u:Va)(s':Vc):Prop:=
 ∃v H',s'.os=s.os/\AllBare s'.gens/\Un (aQ outer) [] H H' s.heap s'.heap/\bC P w H' s'.heap/\RelV v u/\Q v H'
def CR(CX:dA)(outer:List Env)(P:Vd)(w:Ve)(H:Hp)(s:Vc)(Q:VK)(E:XK)(r:Result)(s':Vc):Prop:=
 match r with
 | .ok (.ret u)=>CE outer P w H s Q u s'
 | .ok _=>False
 | .error e=>CX outer H s E e s'
structure FnOk(P:Vd)(w:Ve)(K:Dd)(mg:Vn->Option Va)(base:Vh)(CX:dA)(k:Nat)(f:Vb)(fd:Vm)(ps:List Vn)(sp:Sp):Prop where
 len:∀vs H Q E,sp vs H Q E->vs.length=ps.length
 run:∀(A:Vi) (outer:List Env) (s:Vc) (H:Hp) (args:Args) (us:List Va) (vs:List V) (Q:VK) (E:XK),Room k A->Env0 P w K mg base A outer s H->BindsTo s fd args (ps.zip us)->Vals vs us->sp vs H Q E ->
  codeAny (Vg P w) A (.call (.ref f) args) (CR CX outer P w H s Q E) s
section
variable {X:Cx} {pins:List (Vb×Obj)} {σ:St} {H:Hp} {s s':Vc}
def Inv.env0(I:Inv X pins σ H s):Env0 X.prog X.w X.K X.mg X.base X.A X.stack s H:=
 ⟨I.ok.frames,I.ok.mod,I.bs,DM I.ok.bsz I.sz,I.stack,I.stkFree,I.hok,I.bare⟩
def Inv.after{Q:VK}(I:Inv X pins σ H s)(h:CE X.stack X.prog X.w H s Q u s'):EP X pins σ Q u s':=by obtain⟨v,H',os,bare,un,hok,r,q⟩:=h;obtain⟨c,g,d,t,a⟩:=s';obtain rfl:a=s.os:=os;exact⟨v,H',I.call (h':=c) (g':=g) (d':=d) (t':=t) (ch:=[]) un hok bare (λb z=>absurd z (by simp)),r,q⟩
end
def fZ(sp:Sp)(dvs:List V)(E:XK)(t:TA):TE:=λσ H Q=>t σ H λvs H1=>sp (vs++dvs) H1 Q E
def Binds(K:Dd)(fd:Vm)(ps:List Vn)(ds:List Va):Prop:=
 ∀(s:Vc) (us:List Va),K.In s.heap->(us++ds).length=ps.length->BindsTo s fd ⟨us,[]⟩ (ps.zip (us++ds))
def Binds.all{K:Dd}{fd:Vm}{ps:List Vn}(h:∀us:List Va,us.length=ps.length->bindArgs fd ⟨us,[]⟩=pure (ps.zip us)):Binds K fd ps []:=λs us _ a=>by rw[List.append_nil]at a ⊢;exact .of_eq (h us a)
def Passes(CX:dA)(X:Cx)(E:XK):Prop:=∀(pins:List (Vb×Obj)) (σ:St) (H:Hp) (s:Vc) (e:Va) (s':Vc),Inv X pins σ H s->CX X.stack H s E e s'->X.xe e s'
section
variable {X:Cx} {CX:dA} {k:Nat} {f C:Vb} {fd:Vm} {ps:List Vn} {sp:Sp} {dvs:List V} {ds:List Va} {E:XK} {x m:Vn} {p pos apos:Pos} {e o:Vk} {es:List Vk} {ta:TE} {t:TA}
def pH{σ:St}{Q:VK}{vs:List V}(F:FnOk X.prog X.w X.K X.mg X.base CX k f fd ps sp)(c:Room k X.A)(hb:Binds X.K fd ps ds)(hd:Vals dvs ds)(d:Passes CX X E)
  (I:Inv X pins σ H s) (r:Vals vs us) (h:sp (vs++dvs) H Q E):Vf (Vg X.prog X.w) X.A (call (.ref f) us) (EP X pins σ Q) X.xe s:=by
 have b:Vals (vs++dvs) (us++ds):=r.append hd;have g:(us++ds).length=ps.length:=by rw[<-b.length];exact F.len _ _ _ _ h
 refine wpAny_call (codeAny_mono (F.run X.A X.stack s H ⟨us,[]⟩ (us++ds) (vs++dvs) Q E c I.env0 (hb s us I.kIn g) b h) λr s' a=>?_);cases r with
 | error e=>exact d pins σ H s e s' I a
 | ok i=>
  cases i with
  | ret u=>exact I.after a
  | next=>exact False.elim a
  | brk=>exact False.elim a
  | cont=>exact False.elim a
def kR(F:FnOk X.prog X.w X.K X.mg X.base CX k f fd ps sp)(d:Room k X.A)(g:Gl X x)(i:X.mg x=Vo (.ref f))(j:PySem.W.keepIn X.K (.ref f)=true)(hb:Binds X.K fd ps ds)(hd:Vals dvs ds)(l:Passes CX X E)
  (ha:PA X (e::es) t) (a:(x == ("__debug__":Vn))=false:=by decide) (m:starEach (e::es) X.env=(false,eval e X.env)::starEach es X.env:=by rfl) (b:(backTo pos (starEach es X.env)).any (·.1)=false:=by rfl) :
  PE X (.Call (.Name x p) (e::es) [] pos) (fZ sp dvs E t):=by
 intro pins s σ H Q I h;refine wpAny_Call_Name_kw (gp I g i ?_ a);refine PySem.W.callWith_K (h₀:=X.base) I.ok.mod.kin j (aw (ha pos pins s σ H _ I h) λus s1 ⟨vs,H1,c,r,q⟩=>⟨c.kIn,?_⟩) m b;exact pH F d hb hd l c r q
def CG(F:FnOk X.prog X.w X.K X.mg X.base CX k f fd ps sp)(b:Room k X.A)(c:Gl X x)(d:X.mg x=Vo (.ref f))(e:PySem.W.keepIn X.K (.ref f)=true)(hb:Binds X.K fd ps ds)(hd:Vals dvs ds)(g:Passes CX X E)
  (a:(x == ("__debug__":Vn))=false:=by decide):PE X (.Call (.Name x p) [] [] pos) (fZ sp dvs E iD):=by
 intro pins s σ H Q I h;refine wpAny_Call_Name_kw (gp I c d ?_ a);exact PySem.W.callWith_K0 I.kIn e (pH (us:=[]) F b hb hd g I .nil h)
end
structure FnScope(N P:List Vn)(sc:Scope):Prop where
 kind:sc.kind=.function
 co:sc.isCoroutine=false
 gen:sc.isGenerator=false
 nd:N.Nodup
 pre:N.take P.length=P
 par:∀x∈P,sc.names.lookup x=Vo .local\/sc.names.lookup x=Vo .cell
 nofree:∀y∈sc.names,y.2≠.free
theorem rj{kindOf:Vn->Option NameKind}{x:Vn}:∀{binds:List (Vn×Va)} {m:Vn->Option Va},(∀v,(x,v)∉binds)->bindL kindOf binds m x=m x
 | [],_,_=>rfl
 | (n,v)::r,m,h=>by
  unfold bindL;rw[rj λw a=>h w (Dk _ a)];split
  .have:x≠n:=by rintro rfl;exact h v Dn
   simp[this]
  .rfl
theorem qA{kindOf:Vn->Option NameKind}{x:Vn}:∀{binds:List (Vn×Va)} {m:Vn->Option Va},(∀v,(x,v)∉binds)->bindC kindOf binds m x=m x
 | [],_,_=>rfl
 | (n,v)::r,m,h=>by
  unfold bindC;rw[qA λw a=>h w (Dk _ a)];split
  .rfl
  .have:x≠n:=by rintro rfl;exact h v Dn
   simp[this]
theorem rn{kindOf:Vn->Option NameKind}{x:Vn}{v:Va}:∀{P:List Vn} {vs:List Va} {i:Nat} {m:Vn->Option Va},P.Nodup->P[i]?=Vo x->vs[i]?=Vo v->kindOf x=Vo .local ->
  bindL kindOf (P.zip vs) m x=Vo v
 | [],_,_,_,_,h,_,_=>by simp at h
 | _::_,[],_,_,_,_,h,_=>by simp at h
 | p::P,w::vs,0,m,nd,h1,h2,a=>by simp at h1 h2;subst h1;subst h2;show bindL kindOf ((p,w)::P.zip vs) m p=_;unfold bindL;rw[rj λv b=>(List.nodup_cons.mp nd).1 (List.of_mem_zip b).1,Eh a];simp
 | p::P,w::vs,i+1,m,nd,h1,h2,a=>by show bindL kindOf ((p,w)::P.zip vs) m x=_;unfold bindL;exact rn (i:=i) (List.nodup_cons.mp nd).2 (by simpa using h1) (by simpa using h2) a
theorem tm{kindOf:Vn->Option NameKind}{x:Vn}{v:Va}:∀{P:List Vn} {vs:List Va} {i:Nat} {m:Vn->Option Va},P.Nodup->P[i]?=Vo x->vs[i]?=Vo v->kindOf x≠Vo .local ->
  bindC kindOf (P.zip vs) m x=Vo v
 | [],_,_,_,_,h,_,_=>by simp at h
 | _::_,[],_,_,_,_,h,_=>by simp at h
 | p::P,w::vs,0,m,nd,h1,h2,a=>by simp at h1 h2;subst h1;subst h2;show bindC kindOf ((p,w)::P.zip vs) m p=_;unfold bindC;rw[qA λv b=>(List.nodup_cons.mp nd).1 (List.of_mem_zip b).1,Eg a];simp
 | p::P,w::vs,i+1,m,nd,h1,h2,a=>by show bindC kindOf ((p,w)::P.zip vs) m x=_;unfold bindC;exact tm (i:=i) (List.nodup_cons.mp nd).2 (by simpa using h1) (by simpa using h2) a
def start(N:List Vn)(vs:List V):St:=vs.map Vo++DV (N.length-vs.length) Vp
def aS(CX:dA)(P:Vd)(w:Ve)(K:Dd)(mg:Vn->Option Va)(base:Vh)(N:List Vn)(qual:Vn)(scope:Scope)(f:Vb)(cd:Va)(A:Vi)(outer:List Env)(s:Vc)(H:Hp)(E:XK):Cx where
 prog:=P
 w:=w
 K:=K
 mg:=mg
 base:=base
 A:=A.deeper (envOfC qual scope s.heap.objs.size f cd)
 N:=N
 s₀:=s
 H₀:=H
 env:=envOfC qual scope s.heap.objs.size f cd
 outer:=outer
 stack:=envOfC qual scope s.heap.objs.size f cd::outer
 ex:=[]
 calm:=true
 fn:=λ_=>true
 pn:=[]
 xe:=λe s'=>Vf (Vg P w) (A.deeper (envOfC qual scope s.heap.objs.size f cd)) (leaving (envOfC qual scope s.heap.objs.size f cd) e) (λ_ a=>CX outer H s E e a) (λb a=>CX outer H s E b a) s'
def tU{sc:Scope}{x:Vn}(h:sc.names.lookup x=Vo .cell):∃c,(cellsFrom n sc.names []).lookup x=Vo c:=by have q:=PySem.W.cellsFrom_some sc.names n [] (.inl h);exact Option.isSome_iff_exists.mp q
def wF{CX:dA}{K:Dd}{mg:Vn->Option Va}{base:Vh}{N ps:List Vn}{qual:Vn}{scope:Scope}{f:Vb}{cd:Va}{outer:List Env}{s1:Vc}{E:XK}{vs:List V}
  (S:FnScope N ps scope) (hd:A.handled=Vp) (d:Env0 P w K mg base A outer s H) (C:vs.length=ps.length) (r:Vals vs us)
  (x:InCallC s s.heap.objs.size (bindL (envOfC qual scope s.heap.objs.size f cd).kindOf (ps.zip us) λ_=>Vp) (cellsFrom (s.heap.objs.size+1) scope.names []) (bindC (envOfC qual scope s.heap.objs.size f cd).kindOf (ps.zip us) λ_=>Vp) s1) :
  Inv (aS CX P w K mg base N qual scope f cd A outer s H E) [] (start N vs) H s1:=by
 have t:ps.length<=N.length:=by have:=congrArg List.length S.pre;rw[Ea]at this;omega
 obtain⟨h1,tk,rfl,m⟩:=x.done;have noA:∀b:Vb,b∉(aS CX P w K mg base N qual scope f cd A outer s H E).ex:=λb z=>absurd (show b∈([]:List Vb)from z) (by simp);refine⟨⟨d.mod,S.kind,rfl,rfl,DC _,λy z c h1 h2=>?_,λy g=>?_,λy c _ h=>?_,λ_=>hd,Around.frames_deeper d.frames,.inr ⟨rfl,rfl⟩,λb z=>absurd z (noA b),d.bs,d.bsz,λb _ _=>noA b,λb z=>absurd z (noA b),d.funs,d.frf⟩,
  rfl,d.bare,Un.kept m,⟨_,x.toInCall.ns,λi y v h1 h2 F=>?_⟩,λy c h=>⟨_,x.cell y c h⟩,d.hok.fresh (DC _),λy c h=>?_,λp j=>absurd (show p∈([]:List (Vb×Obj))from j) (by simp),d.hok.kept m,?_⟩
 .exact name_of_addr x.apart (PySem.mem_of_lookup h1) (PySem.mem_of_lookup h2)
 .have g:scope.names.lookup y=Vo .cell\/scope.names.lookup y=Vo .free:=g;rcases g with g|g
  .exact tU g
  .exact absurd rfl (S.nofree _ (PySem.mem_of_lookup g))
 .exact Nat.le_of_lt (x.above y c (PySem.mem_of_lookup h))
 .have hi:i<vs.length:=by
   unfold start at h2;by_cases hi:i<vs.length
   .exact hi
   .rw[DG (by simpa using hi)]at h2;rw[List.getElem?_replicate]at h2;split at h2<;>cases h2
  have ha:vs[i]?=Vo v:=by
   unfold start at h2;rw[DH (by simpa using hi),Dj]at h2;cases e:vs[i]? with
   | none=>rw[e]at h2;cases h2
   | some a=>rw[e]at h2;cases h2;rfl
  obtain⟨u,o,B⟩:=r.get ha;have j:ps[i]?=some y:=by rw[<-S.pre,List.getElem?_take_of_lt (by omega)];exact h1
  have l:ps.Nodup:=by rw[<-S.pre];exact S.nd.sublist (List.take_sublist _ _)
  refine⟨u,B,?_⟩;rcases S.par y (Ds j)with k|k
  .exact .inl ⟨k,rn l j o k⟩
  .obtain⟨c,e⟩:=tU (n:=s.heap.objs.size+1) k;refine .inr ⟨.inl k,c,e,?_⟩;have q:=x.cell y c e;rw[tm l j o (by show scope.names.lookup y≠_;rw[k];decide)]at q;exact q
 .exact d.hok.fresh (Nat.le_of_lt (x.above y c (PySem.mem_of_lookup h)))
 .unfold start;show _=N.length;rw[DA,Dh,List.length_replicate];omega
def vd{CX:dA}{K:Dd}{mg:Vn->Option Va}{base:Vh}{k:Nat}{f:Vb}{name qual:Vn}{params:Arguments}{body:List Vl}{scope:Scope}{l kV doc pm cdv ct oc:Va}{an od:Option Vb}
  {osl:Array (Option Va)} {N ps:List Vn} {sp:Sp} (lk:K.lookup f=Vo ⟨oc,od,.func (PySem.W.fnOf name qual params body scope l kV doc pm an cdv ct),osl⟩) (h:PySem.W.codeIn K cdv qual=true) (S:FnScope N ps scope)
  (len:∀vs H Q E,sp vs H Q E->vs.length=ps.length)
  (c:∀(A:Vi) (outer:List Env) (s:Vc) (H:Hp) (vs:List V) (Q:VK) (E:XK),Room k (A.deeper (envOfC qual scope s.heap.objs.size f cdv))->sp vs H Q E ->
   ∃t,b9 (aS CX P w K mg base N qual scope f cdv A outer s H E) body t/\t { nx:=λ_ H'=>Q .non H',rt:=Q } (start N vs) H) :
  FnOk P w K mg base CX (k+1) f (PySem.W.fnOf name qual params body scope l kV doc pm an cdv ct) ps sp:=by
 refine⟨len,λA outer s H args us vs Q E i g hb r hsp=>?_⟩;have p:=len _ _ _ _ hsp;have m:K.In s.heap:=g.mod.kin.keeps λb o e=>(g.bs b o e).1;have lim:s.heap.NoLimit:=g.mod.nolimit.keeps λb o e=>(g.bs b o e).1;have d:∀y∈ps.zip us,scope.names.lookup y.1=Vo .local\/(scope.names.lookup y.1=Vo .cell/\((cellsFrom (s.heap.objs.size+1) scope.names []).lookup y.1).isSome=true):=λ⟨n,v⟩ z=>by
  rcases S.par n (List.of_mem_zip z).1 with q|q
  .exact .inl q
  .exact .inr ⟨q,PySem.W.cellsFrom_some _ _ _ (.inl q)⟩
 refine codeAny_call_function i.depth (m _ _ lk) rfl S.co S.gen rfl (PySem.W.codeRec_of m h) (hb _ _ _ _ ?_);refine wpAny_newFunctionEnv_cells S.kind d λenv B s1 x=>?_;subst B;refine⟨lim.keeps x.toInCall.keep,codeAny_func ?_⟩;obtain⟨t,C,F⟩:=c A outer s H vs Q E (i.deeper _) hsp;have I:Inv (aS CX P w K mg base N qual scope f cdv A outer s H E) [] (start N vs) H s1:=wF S i.hd g p r x;refine wpAny_mono (C [] s1 (start N vs) H _ I F) (λG s' hs=>?_) λe s' hs=>hs;have fin:∀{a:St} {H':Hp} {v:V} {u:Va},Inv (aS CX P w K mg base N qual scope f cdv A outer s H E) [] a H' s'->RelV v u->Q v H'->CE outer P w H s Q u s':=
  λ{a H' v u} J j q=>⟨v,H',J.os,J.bare,J.base,J.hok,j,q⟩
 cases G with
 | ret u=>
  obtain⟨v,a,H',J,j,q⟩:=hs;exact fin J j q
 | next=>
  obtain⟨a,H',J,q⟩:=hs;exact fin (v:=V.non) (u:=Value.none) J rfl q
 | brk=>
  obtain⟨_,_,_,q⟩:=hs;exact False.elim q
 | cont=>
  obtain⟨_,_,_,q⟩:=hs;exact False.elim q
section
variable {X:Cx} {x:Vn} {p pos:Pos} {e:Vk} {es:List Vk} {t:TA} {id T:String} {r:List V->Hp->VK->Prop}
def mH(r:List V->Hp->VK->Prop)(t:TA):TE:=λσ H Q=>t σ H λvs H1=>r vs H1 Q
def aF(c:bN X (.builtin id) r)(d:Gl X x)(f:X.mg x=Vp)(g:bootBuiltins x=Vo (.builtin id))(ha:PA X (e::es) t)(i:x≠"__name__":=by decide)(a:(x == ("__debug__":Vn))=false:=by decide)
  (j:starEach (e::es) X.env=(false,eval e X.env)::starEach es X.env:=by rfl) (b:(backTo pos (starEach es X.env)).any (·.1)=false:=by rfl):PE X (.Call (.Name x p) (e::es) [] pos) (mH r t):=by
 intro pins s σ H Q I h;refine wpAny_Call_Name_kw (iP I d f g ?_ i a);exact PyProof.Rows.callWith_builtin1 (aw (ha pos pins s σ H _ I h) λus s1 ⟨vs,H1,k,r1,l⟩=>c pins s1 σ H1 vs us Q k r1 l) j b
def bT(c:bN X (.type T) r)(d:Gl X x)(f:X.mg x=Vp)(g:bootBuiltins x=Vo (.type T))(ha:PA X (e::es) t)(i:x≠"__name__":=by decide)(a:(x == ("__debug__":Vn))=false:=by decide)
  (j:starEach (e::es) X.env=(false,eval e X.env)::starEach es X.env:=by rfl) (b:(backTo pos (starEach es X.env)).any (·.1)=false:=by rfl):PE X (.Call (.Name x p) (e::es) [] pos) (mH r t):=by
 intro pins s σ H Q I h;refine wpAny_Call_Name_kw (iP I d f g ?_ i a);exact PyProof.Rows.callWith_type1 (aw (ha pos pins s σ H _ I h) λus s1 ⟨vs,H1,k,r1,l⟩=>c pins s1 σ H1 vs us Q k r1 l) j b
end
end L2
variable {v:L2.V}{sl a c C i1 i2 L:Vb}{lo hi:Option Int}{n tk m N ep:Nat}{t:SetTable}{Q E:Va->Vc->Prop}{xs:List L2.V}{A:Vi}{s:Vc}{y qual:Vn}{u acc cls a0:Va}{pins:List (Vb×Obj)}{σ:L2.St}{H H':L2.Hp}{T:String}{h h1 h':Vh}{P prog:Vd}{w:Ve}{mg:Vn->Option Va}{fd:Vm}{sp:L2.Sp}{X Y:L2.Cx}{st:Vl}{ps own:List Vn}{B:Vb->List Key->Prop}{env ce:Env}{sc out:Scope}{R:L2.It->L2.Hp->Prop}{elt iter tg:Vk}{ifs:List Vk}{p:Vn×NameKind}{fp:List Vb}{o:Obj}{tn:Nat->Vh->Prop}{g:L2.TG}{tc:L2.TT}{l outer:List Env}{tl:L2.TE}{cpos:Pos}{tb:L2.TS}{ys:Array Va}{M:Model}{rest:List Vl}{order:Array Nat}{kk:List (List Key)}
namespace HT
open PySem PyProof.Rows
section
open PySem.SeqAt
open PySem.AutoSeq1 (wpAny_loadPart')
open PySem.MeetsSeq PySem.MeetsSeq2 PySem.MeetsSeq3
end
section
variable {prog:Vd} {w:Ve} {A:Vi} {E:Va->Vc->Prop} {s:Vc}
def aG(n d:Nat):Option Int->Nat
 | none=>d
 | some v=>if v<0 then(v+(n:Int)).toNat else min v.toNat n
def rN(n d:Nat):aG n d Vp=d:=rfl
def lS(n d k:Nat):aG n d (Vo (k:Int))=min k n:=by show(if(k:Int)<0 then((k:Int)+(n:Int)).toNat else min (k:Int).toNat n)=min k n;rw[Eg (by omega),Dv]
def yB(n d:Nat)(hd:d<=n)(o:Option Int):aG n d o<=n:=by
 cases o with
 | none=>exact hd
 | some v=>
  show(if v<0 then(v+(n:Int)).toNat else min v.toNat n)<=n;by_cases a:v<0
  .rw[Eh a];omega
  .rw[Eg a];exact Nat.min_le_right _ _
def qK(v:Int)(n d:Nat):(if v<0 then max (v+(n:Int)) 0 else min v (n:Int))=((aG n d (Vo v):Nat):Int):=by
 show(if v<0 then max (v+(n:Int)) 0 else min v (n:Int))=(((if v<0 then(v+(n:Int)).toNat else min v.toNat n):Nat):Int);by_cases a:v<0
 .simp only[Eh a];omega
 .simp only[Eg a];omega
def Bz(lo hi:Option Int)(n:Nat):Builtin.Slice.sliceAdjust lo hi 1 (n:Int)=(((aG n 0 lo:Nat):Int),((aG n n hi:Nat):Int)):=by
 have h1:¬((1:Int)<0):=by omega
 unfold Builtin.Slice.sliceAdjust;simp only[h1,if_false];refine Prod.ext ?_ ?_
 .cases lo with
  | none=>rfl
  | some v=>exact qK v n 0
 .cases hi with
  | none=>rfl
  | some v=>exact qK v n n
def Bt(i j:Nat):Builtin.Slice.slicePlaces (i:Int) (j:Int) 1=j-i:=by
 unfold Builtin.Slice.slicePlaces;have h1:(1:Int)>0:=by omega
 simp only[h1,if_true,Int.ediv_one];split<;>omega
def v9{v:Va}{o:Option Int}{Q:Option Int->Vc->Prop}(p:IsPart v o)(h:Q o s):Vf (Vg prog w) A (Builtin.Slice.slicePartIndex v) Q E s:=by
 cases p with
 | none=>exact slicePart_none h
 | int i t=>exact slicePart_int h
def sY{c d:Va}{Q:Int×Int×Nat->Vc->Prop}(hs:s.heap.IsSliceOf sl c d .none)(pl:IsPart c lo)(pu:IsPart d hi)
  (h:Q (((aG n 0 lo:Nat):Int),1,aG n n hi-aG n 0 lo) s):Vf (Vg prog w) A (Builtin.Slice.sliceApplied (.ref sl) (pure (n:Int))) Q E s:=by
 obtain⟨os,a,e,b⟩:=id hs;unfold Builtin.Slice.sliceApplied Builtin.Slice.sliceFields;refine CZ (CZ (wpAny_field a b (x:=c) rfl (CZ (wpAny_field a b (x:=d) rfl (CZ (wpAny_field a b (x:=.none) rfl (Dc ?_)))))));refine CZ (slicePart_none ?_);show Vf _ _ (if((1:Int) == 0)=true then _ else _) _ _ s;rw[Eg (by decide)];refine CZ (v9 pl (CZ (v9 pu (CZ (Dc ?_)))));show Vf _ _ (match Builtin.Slice.sliceAdjust lo hi 1 (n:Int)with|(lo,hi)=>pure (lo,(1:Int),Builtin.Slice.slicePlaces lo hi 1)) _ _ s;rw[Bz lo hi n];show Vf _ _ (pure (((aG n 0 lo:Nat):Int),(1:Int),Builtin.Slice.slicePlaces ((aG n 0 lo:Nat):Int) ((aG n n hi:Nat):Int) 1)) _ _ s;rw[Bt];exact Dc h
def CF(xs:Array Va)(i k:Nat):((Ed k).filterMap λ(m:Nat)=>xs[((i:Int)+(m:Int)*1).toNat]?).toArray=((xs.toList.drop i).take k).toArray:=by
 have e:(λ(m:Nat)=>xs[((i:Int)+(m:Int)*1).toNat]?)=λm=>xs[i+m]?:=by
  funext m;have:((i:Int)+(m:Int)*1).toNat=i+m:=by omega
  rw[this]
 rw[e];have:=pick_run xs i k;rw[List.filterMap_map]at this;have a:((λx=>xs[x]?)∘λx=>i+x)=λm=>xs[i+m]?:=rfl;rw[a]at this;rw[this]
def A6{t:Vb}{items:Array Va}{g i:Va}(b:IsTup s.heap t items)(hs:s.heap.IsSliceOf sl g i .none)(pl:IsPart g lo)(pu:IsPart i hi)
  (j:¬(aG items.size 0 lo=0/\aG items.size items.size hi=items.size))
  (h:Q (.ref s.heap.objs.size) { s with heap:=s.heap.push { cls:=.type "tuple",data:=.seq ((items.toList.drop (aG items.size 0 lo)).take (aG items.size items.size hi-aG items.size 0 lo)).toArray } })
  (k:items.size<=sizeLine):Vf (Vg prog w) A (getItem (.ref t) (.ref sl)) Q E s:=by
 have a:sizeOk (.seq ((items.toList.drop (aG items.size 0 lo)).take (aG items.size items.size hi-aG items.size 0 lo)).toArray):=by show((items.toList.drop (aG items.size 0 lo)).take (aG items.size items.size hi-aG items.size 0 lo)).toArray.size<=sizeLine;rw[Dm,Ea,List.length_drop,Dl];omega
 have n:aG items.size items.size hi<=items.size:=yB _ _ (DC _) hi;obtain⟨os,c,d,l⟩:=id hs;have e:s.TypeIs (.ref sl) "slice":=⟨os,c,d⟩;unfold getItem
 try with_reducible refine wpAny_holding ?_
 first|refine CZ (Dc ?_)|skip
 refine CZ (wpAny_sequenceKey b.typeIs (by decide) ?_);refine CZ (Ec (name:=DR "__getitem__") b.typeIs PyProof.Rows.slot_tuple_getitem
  (wpAny_call_entry PyProof.Rows.slot_tuple_getitem b.typeIs entry_tuple_getitem ?_ (args_tuple_getitem _ _)))
 show Vf _ _ (Builtin.Tuple.tupleItemsOf (.ref t) >>= _) _ _ s;refine CZ (tupleItemsOf_ b ?_);refine CZ (wpAny_typeOf e ?_);rw[Eh (by decide)];refine CZ (sY hs pl pu ?_);have f:¬((((aG items.size 0 lo:Nat):Int) == 0 && (1:Int) == 1 && (aG items.size items.size hi-aG items.size 0 lo) == items.size)=true):=by intro q;rw[DQ,DQ]at q;have o:((aG items.size 0 lo:Nat):Int)=0:=eq_of_beq q.1.1;have p:aG items.size items.size hi-aG items.size 0 lo=items.size:=eq_of_beq q.2;exact j ⟨by omega,by omega⟩
 show Vf _ _ (if(((aG items.size 0 lo:Nat):Int) == 0 && (1:Int) == 1 && (aG items.size items.size hi-aG items.size 0 lo) == items.size)=true then _ else _) _ _ s;rw[Eg f,CF]
 first
  | exact CZ (m:=Builtin.Tuple.tupleExact _) (wpAny_newObj_type (Dc ⟨_,rfl,Dc h⟩) a)
  | exact CZ (m:=Builtin.Tuple.tupleExact _) (wpAny_newObj_type (CZ (Dc (Dc ⟨_,rfl,Dc h⟩))) a)
  | exact CZ (CZ (m:=Builtin.Tuple.tupleExact _) (wpAny_newObj_type (Dc (Dc ⟨_,rfl,Dc h⟩)) a))
  | exact CZ (CZ (m:=Builtin.Tuple.tupleExact _) (wpAny_newObj_type (Dc ⟨_,rfl,Dc h⟩) a))
end
end HT
namespace L2
open PySem PySem.Spec PyProof.Rows
abbrev TO:=St->Hp->(Option Int->Hp->Prop)->Prop
def PO(X:Cx)(e:Option Vk)(t:TO):Prop:=
 ∀(pins:List (Vb×Obj)) (s:Vc) (σ:St) (H:Hp) (Q:Option Int->Hp->Prop),Inv X pins σ H s->t σ H Q ->
  Vf (Vg X.prog X.w) X.A (evalPart e X.env) (λu s'=>∃o H',Inv X pins σ H' s'/\IsPart u o/\Q o H') X.xe s
def uS:TO:=λ_ H Q=>Q Vp H
def rX(t:TE):TO:=λσ H Q=>t σ H λx H1=>∃i,x=.int i/\Q (Vo i) H1
def intsAre_of{ns:List Int}:∀{us:List Va},Vals (ns.map V.int) us->IntsAre us ns:=by
 induction ns with
 | nil=>intro us r;rw[List.map_nil]at r;cases r;exact .nil
 | cons n ns a=>
  intro us r;rw[List.map_cons]at r;cases r with
  | cons r1 b=>
   obtain⟨t,e⟩:=r1;subst e;exact .cons n t (a b)
section
variable {X:Cx} {e:Vk} {te:TE} {lo hi:Option Vk} {tl th:TO} {pos p2:Pos}
def cx:PO X Vp uS:=by intro pins s σ H Q I h;rw[evalPart_none];exact Dc ⟨Vp,H,I,.none,h⟩
def bw(h:PE X e te):PO X (Vo e) (rX te):=by intro pins s σ H Q I a;rw[evalPart_some];refine aw (h pins s σ H _ I a) λu s1 ⟨x,H1,b,r1,c⟩=>?_;obtain⟨i,rfl,q⟩:=c;obtain⟨t,rfl⟩:=r1;exact⟨Vo i,H1,b,.int i t,q⟩
def iC(X:Cx)(r:V->Option Int->Option Int->Hp->VK->Prop):Prop:=
 ∀(pins:List (Vb×Obj)) (s:Vc) (σ:St) (H:Hp) (x:V) (v a b:Va) (lo hi:Option Int) (sl:Vb) (Q:VK),Inv X pins σ H s->RelV x v->s.heap.IsSliceOf sl a b .none->IsPart a lo->IsPart b hi->r x lo hi H Q ->
  ∃T id,typeLookup (.type T) "__getitem__" = pure (Vo (.builtin id))/\s.TypeIs v T/\Vf (Vg X.prog X.w) X.A (getItem v (.ref sl)) (EP X pins σ Q) X.xe s
def qF(r:V->Option Int->Option Int->Hp->VK->Prop)(te:TE)(tl th:TO):TE:=λσ H Q=>te σ H λx H1=>tl σ H1 λl H2=>th σ H2 λu a=>r x l u a Q
def bU{r:V->Option Int->Option Int->Hp->VK->Prop}(g:iC X r)(i:PE X e te)(j:PO X lo tl)(k:PO X hi th):PE X (.Subscript e (.Slice lo hi Vp p2) pos) (qF r te tl th):=by intro pins s σ H Q I h;refine Subscript_ (aw (i pins s σ H _ I h) λv s1 ⟨x,H1,m,r1,n⟩=>?_);refine wpAny_Slice (aw (j pins s1 σ H1 _ m n) λc s2 ⟨l,H2,o,pl,p⟩=>aw (k pins s2 σ H2 _ o p) λd a ⟨u,f,t,pu,y⟩=>?_);rw[evalPart_none];refine Dc ?_;have z:Inv X pins σ f { a with heap:=a.heap.push { cls:=.type "slice",data:=.fields #[c,d,.none] } }:=t.kept (t':=a.toks) λb F q=>De _ q;obtain⟨T,id,B,C,E⟩:=g pins { a with heap:=a.heap.push { cls:=.type "slice",data:=.fields #[c,d,.none] } } σ f x v c d l u a.heap.objs.size Q z r1 (Heap.IsSliceOf.new ..) pl pu y;show Vf (Vg X.prog X.w) X.A (subscriptTail e (.Slice lo hi Vp p2) v (.ref a.heap.objs.size)) (EP X pins σ Q) X.xe { a with heap:=a.heap.push { cls:=.type "slice",data:=.fields #[c,d,.none] } };exact tail_any (ops:=[.ref a.heap.objs.size,v]) C B E (by with_unfolding_all rfl)
def bG(xs:List V)(lo hi:Option Int):List V:=(xs.drop (HT.aG xs.length 0 lo)).take (HT.aG xs.length xs.length hi-HT.aG xs.length 0 lo)
def sJ(xs:List V)(lo hi:Option Int):(bG xs lo hi).length<=xs.length:=by unfold bG;rw[Ea,List.length_drop];omega
def yi(K:Dd):V->Option Int->Option Int->Hp->VK->Prop:=λx lo hi H Q=>∃a xs,x=.ref a/\ar K H a xs ∧
 ¬(HT.aG xs.length 0 lo=0/\HT.aG xs.length xs.length hi=xs.length)/\∀p,H p=Vp->Q (.ref p) (upd H p (.tup (bG xs lo hi)))
def zw:iC X (yi X.K):=by
 intro pins s σ H x v j k lo hi sl Q I f hs pl pu h;obtain⟨a,xs,rfl,g,i,q⟩:=h;cases f;obtain⟨c,r,d,e⟩:=I.tuple g;have hlen:c.toArray.size=xs.length:=by rw[Dm];exact r.length.symm
 refine⟨"tuple",_,PyProof.Rows.slot_tuple_getitem.lookup,d.typeIs,?_⟩;refine HT.A6 d hs pl pu (by rw[hlen];exact i) ?_ (by rw[hlen];exact e);rw[hlen];refine⟨.ref s.heap.objs.size,_,I.laid (t':=s.toks) (o:=.tup (bG xs lo hi)) (λb l q=>De _ q) (DC _) ?_,rfl,q _ (I.hok.fresh (DC _))⟩;exact⟨DM (sJ xs lo hi) e,_,(r.drop (HT.aG xs.length 0 lo)).take (HT.aG xs.length xs.length hi-HT.aG xs.length 0 lo),IsTup.new _ _⟩
end
def iA(n:Nat)(i:Int):Option Nat:=if 0<=i then(if i<n then Vo i.toNat else Vp)else if -(n:Int)<=i then Vo (i+n).toNat else Vp
def bZ{α:Type}(xs:List α)(i:Int):Option α:=(iA xs.length i).bind λj=>xs[j]?
def AN{i:Int}{j:Nat}(h:iA n i=Vo j):seqIndex? i n=Vo j/\j<n/\-(n:Int)<=i/\i<n:=by
 unfold iA at h;by_cases a:0<=i
 .rw[Eh a]at h;by_cases h1:i<n
  .rw[Eh h1]at h;have e:i.toNat=j:=DS h;exact⟨by rw[seqIndex_of a h1,e],by omega,by omega,h1⟩
  .rw[Eg h1]at h;cases h
 .rw[Eg a]at h;by_cases h1:-(n:Int)<=i
  .rw[Eh h1]at h;have e:(i+n).toNat=j:=DS h;exact⟨by rw[seqIndex_neg (by omega) h1,e],by omega,h1,by omega⟩
  .rw[Eg h1]at h;cases h
def mO{α:Type}{xs:List α}{i:Int}{v:α}(h:bZ xs i=Vo v):∃j,seqIndex? i xs.length=Vo j/\xs[j]?=Vo v/\j<xs.length/\-(xs.length:Int)<=i/\i<xs.length:=by
 unfold bZ at h;cases e:iA xs.length i with
 | none=>rw[e]at h;cases h
 | some j=>
  rw[e]at h;obtain⟨h1,h2,a,b⟩:=AN e;exact⟨j,h1,h,h2,a,b⟩
def ck{α:Type}{xs:List α}{j:Nat}{v:α}(h:xs[j]?=Vo v):bZ xs (j:Int)=Vo v:=by
 have a:j<xs.length:=(Dr.mp h).1;have e:iA xs.length (j:Int)=Vo j:=by unfold iA;rw[Eh (by omega),Eh (by omega)];simp
 unfold bZ;rw[e];exact h
def Bj(b:Vk):Prop:=∀o i,subscripted b false o i=operate [o,i] (getItem o i)
def gR(X:Cx)(r:R2):Prop:=
 ∀(value slice:Vk) (pins:List (Vb×Obj)) (s:Vc) (σ:St) (H:Hp) (x y:V) (v u:Va) (Q:VK),Inv X pins σ H s->RelV x v->RelV y u->r x y H Q ->
  subscripted slice false v u=operate [v,u] (getItem v u)->Vf (Vg X.prog X.w) X.A (subscriptTail value slice v u) (EP X pins σ Q) X.xe s
def fF(X:Cx)(id:String)(r:V->List V->Hp->VK->Prop):Prop:=
 ∀(pins:List (Vb×Obj)) (s:Vc) (σ:St) (H:Hp) (x:V) (xs:List V) (v:Va) (us:List Va) (Q:VK),Inv X pins σ H s->RelV x v->Vals xs us->r x xs H Q ->
  Vf (Vg X.prog X.w) X.A (call (.builtin id) (v::us)) (EP X pins σ Q) X.xe s
section
variable {X:Cx} {a b:Vk} {ta tb:TE} {pos:Pos}
def aq{r:R2}(c:gR X r)(ha:PE X a ta)(hb:PE X b tb)(hs:Bj b):PE X (.Subscript a b pos) (gE r ta tb):=by intro pins s σ H Q I h;exact Subscript_ (nt ha hb I h λv u s2 x y H2 d e f q=>c a b pins s2 σ H2 x y v u Q d e f q (hs _ _))
def kz(K:Dd):R2:=λx y H Q=>∃p xs i v,x=.ref p/\y=.int i/\ah K H p xs/\bZ xs i=Vo v/\Q v H
def pd(K:Dd):R2:=λx y H Q=>∃p xs i v,x=.ref p/\y=.int i/\ar K H p xs/\bZ xs i=Vo v/\Q v H
def yL:R2:=λx y H Q=>∃z i c,x=.str z/\y=.int i/\z.length<=sizeLine/\bZ z.cps.toList i=Vo c/\Q (.str ⟨#[c]⟩) H
def A1:gR X (kz X.K):=by
 intro value slice pins s σ H x y v u Q I f g h hs;obtain⟨p,xs,i,z,rfl,rfl,k,l,q⟩:=h;cases f;obtain⟨t,rfl⟩:=g;obtain⟨a,r,pl,A⟩:=I.list k;obtain⟨j,h1,h2,B,m,n⟩:=mO l;obtain⟨w,d,b⟩:=r.get h2;have o:=r.length;have C:=iT;have fin:EP X pins σ Q w s:=⟨z,H,I,b,q⟩;by_cases e:0<=i
 .have c:i.toNat=j:=by rw[seqIndex_of e n]at h1;exact DS h1
  exact item_listR pl.isList e (by omega) (by rw[c];simpa using d) fin hs
 .have c:(i+(a.toArray.size:Int)).toNat=j:=by rw[seqIndex_neg (by omega) m]at h1;rw[Dm,<-o];exact DS h1
  exact subscriptTail_builtinR (x:=w) pl.isList.typeIs slot_list_getitem.lookup
   (wpAny_getItem_list_neg (Q:=λr s'=>r=w/\EP X pins σ Q r s') pl.isList (by omega) (by rw[Dm]<;>omega) (by omega) (by rw[c];simpa using d) ⟨rfl,fin⟩) hs
def xU:gR X (pd X.K):=by
 intro value slice pins s σ H x y v u Q I b c h hs;obtain⟨p,xs,i,z,rfl,rfl,d,e,q⟩:=h;cases b;obtain⟨t,rfl⟩:=c;obtain⟨f,r,pl,l⟩:=I.tuple d;obtain⟨j,h1,h2,m,n,o⟩:=mO e;obtain⟨w,g,a⟩:=r.get h2;have k:=r.length;have A:=iT;have fin:EP X pins σ Q w s:=⟨z,H,I,a,q⟩;exact subscriptTail_builtinR (x:=w) pl.typeIs slot_tuple_getitem.lookup
  (getItem_tuple (j:=j) (Q:=λr s'=>r=w/\EP X pins σ Q r s') pl (by omega) (by omega) (by rw[Dm,<-k];exact h1) (by simpa using g) ⟨rfl,fin⟩) hs
def jj:gR X yL:=by
 intro value slice pins s σ H x y v u Q I a b h hs;obtain⟨z,i,c,rfl,rfl,m,d,q⟩:=h;obtain⟨t,rfl⟩:=a;obtain⟨n,rfl⟩:=b;obtain⟨j,h1,h2,o,e,f⟩:=mO d;have g:z.cps.toList.length=z.length:=by simp[Str.length]
 rw[g]at h1 e f;have p:=iT;exact tail_any (typeIs_str s z t) slot_str_getitem.lookup (getItem_str (c:=c) (by have k:decide (i < -(2 ^ 63:Int))=false:=Ee (by omega);have l:decide (i ≥ 2 ^ 63)=false:=Ee (by omega);rw[k,l,Bool.or_false]) (by rw[h1];simpa using h2) ⟨.str ⟨#[c]⟩,H,I.tok _,⟨_,rfl⟩,q⟩) hs
theorem Inv.lst{pins:List (Vb×Obj)}{σ:St}{H:Hp}{s:Vc}{p:Vb}{xs:List V}(I:Inv X pins σ H s)(h:H p=Vo (.lst xs)):
  ∃(a:List Va) (n:Nat),Vals xs a/\s.heap.get? p=Vo { cls:=.type "list",data:=.seq a.toArray n }/\xs.length<=sizeLine:=by
 obtain⟨z,a,n,r,e⟩:=I.hok p _ h;exact⟨a,n,r,e,z⟩
def yG(lo hi:Option Int)(n:Nat):(sliceBounds lo hi Vp n).1=((HT.aG n 0 lo:Nat):Int)/\(sliceBounds lo hi Vp n).2.1=((HT.aG n n hi:Nat):Int)/\(sliceBounds lo hi Vp n).2.2=1:=by
 refine⟨?_,?_,rfl⟩
 .cases lo with
  | none=>simp[sliceBounds,HT.aG]
  | some i=>
   simp only[sliceBounds,HT.aG,Option.getD_none,show (1:Int)>0 by decide,if_true];by_cases h:i<0
   .simp only[h,if_true]<;>omega
   .simp only[h,if_false]<;>omega
 .cases hi with
  | none=>simp[sliceBounds,HT.aG]
  | some i=>
   simp only[sliceBounds,HT.aG,Option.getD_none,show (1:Int)>0 by decide,if_true];by_cases h:i<0
   .simp only[h,if_true]<;>omega
   .simp only[h,if_false]<;>omega
def yE(a:List Va)(lo hi:Option Int):slicePick a.toArray lo hi Vp=((a.drop (HT.aG a.length 0 lo)).take (HT.aG a.length a.length hi-HT.aG a.length 0 lo)).toArray:=by obtain⟨h1,h2,b⟩:=yG lo hi a.toArray.size;unfold slicePick;rw[h1,h2,b];simp only[sliceRange_one,pick_run,Dm]<;>rfl
def kQ(K:Dd):V->Option Int->Option Int->Hp->VK->Prop:=λx lo hi H Q=>∃a xs,x=.ref a/\ah K H a xs/\∀p,H p=Vp->Q (.ref p) (upd H p (.lst (bG xs lo hi)))
def As:iC X (kQ X.K):=by intro pins s σ H x v i j lo hi sl Q I d hs pl pu h;obtain⟨a,xs,rfl,e,q⟩:=h;cases d;obtain⟨f,r,c,g⟩:=I.list e;have hlen:=r.length;refine⟨"list",_,slot_list_getitem.lookup,c.isList.typeIs,?_⟩;refine wpAny_getItem_list_slice c.isList hs pl pu .none (by simp) ?_ (by rw[Dm]<;>omega);rw[yE,<-hlen];refine⟨.ref s.heap.objs.size,_,I.laid (t':=s.toks) (o:=.lst (bG xs lo hi)) (λb k q=>De _ q) (DC _) ?_,rfl,q _ (I.hok.fresh (DC _))⟩;exact⟨DM (sJ xs lo hi) g,_,0,(r.drop (HT.aG xs.length 0 lo)).take (HT.aG xs.length xs.length hi-HT.aG xs.length 0 lo),Df _ rfl⟩
def fE:V->Bool
 | .non=>true
 | .bl _=>true
 | .int _=>true
 | .str _=>true
 | _=>false
def eY:V->V->Bool
 | .non,.non=>true
 | .bl a,.bl b=>a == b
 | .bl a,.int b=>(if a then 1 else 0) == b
 | .int a,.bl b=>a == (if b then 1 else 0)
 | .int a,.int b=>a == b
 | .str a,.str b=>a == b
 | _,_=>false
def AH{y x:V}{v:Va}(e:RelV y u)(c:RelV x v)(g:fE y=true)(f:fE x=true):SeqAt.EqAt A s u v (eY y x):=by
 cases y with
 | non=>
  cases e;cases x with
  | non=>cases c;exact SeqAt.EqAt.same _
  | bl b=>cases c;exact SeqAt.EqAt.none_bool b
  | int b=>obtain⟨t,rfl⟩:=c;exact SeqAt.EqAt.none_int b t
  | str b=>obtain⟨t,rfl⟩:=c;exact SeqAt.EqAt.none_str b t
  | _=>exact absurd (show false=true from f) Dy
 | bl a=>
  cases e;cases x with
  | non=>cases c;exact SeqAt.EqAt.bool_none a
  | bl b=>cases c;exact SeqAt.EqAt.bool_bool a b
  | int b=>obtain⟨t,rfl⟩:=c;exact SeqAt.EqAt.bool_int a b t
  | str b=>obtain⟨t,rfl⟩:=c;exact SeqAt.EqAt.bool_str a b t
  | _=>exact absurd (show false=true from f) Dy
 | int a=>
  obtain⟨d,rfl⟩:=e;cases x with
  | non=>cases c;exact SeqAt.EqAt.int_none a d
  | bl b=>cases c;exact SeqAt.EqAt.int_bool a d b
  | int b=>obtain⟨t,rfl⟩:=c;exact SeqAt.EqAt.int_int a d b t
  | str b=>obtain⟨t,rfl⟩:=c;exact SeqAt.EqAt.int_str a d b t
  | _=>exact absurd (show false=true from f) Dy
 | str a=>
  obtain⟨d,rfl⟩:=e;cases x with
  | non=>cases c;exact SeqAt.EqAt.str_none a d
  | bl b=>cases c;exact SeqAt.EqAt.str_bool a d b
  | int b=>obtain⟨t,rfl⟩:=c;exact SeqAt.EqAt.str_int a d b t
  | str b=>obtain⟨t,rfl⟩:=c;exact SeqAt.EqAt.str_str a d b t
  | _=>exact absurd (show false=true from f) Dy
 | _=>exact absurd (show false=true from g) Dy
def fw(x:V)(u:Va):Bool:=match u with
 | .none=>eY .non x
 | .bool b=>eY (.bl b) x
 | .int i _=>eY (.int i) x
 | .str z _=>eY (.str z) x
 | _=>false
def uh{x y:V}(r:RelV y u)(f:fE y=true):fw x u=eY y x:=by
 cases y with
 | non=>cases r;rfl
 | bl b=>cases r;rfl
 | int i=>obtain⟨t,rfl⟩:=r;rfl
 | str z=>obtain⟨t,rfl⟩:=r;rfl
 | _=>exact absurd (show false=true from f) Dy
theorem nR{x:V}:∀{xs:List V} {us:List Va},Vals xs us->xs.all fE=true->us.any (fw x)=xs.any λy=>eY y x
 | _,_,.nil,_=>rfl
 | y::xs,u::us,.cons r t,f=>by rw[List.all_cons,DQ]at f;rw[List.any_cons,List.any_cons,uh r f.1,nR t f.2]
theorem o4{A:Vi}{s:Vc}{x:V}{v:Va}(b:RelV x v)(c:fE x=true):∀{xs:List V} {us:List Va},Vals xs us->xs.all fE=true->∀u∈us,SeqAt.EqAt A s u v (fw x u)
 | _,_,.nil,_=>λu a=>by cases a
 | y::xs,u::us,.cons r t,f=>λd a=>by
  rw[List.all_cons,DQ]at f;rcases Dw.mp a with rfl|a
  .rw[uh r f.1];exact AH r b f.1 c
  .exact o4 b c t f.2 d a
def jq(x:V)(xs:List V):Bool:=xs.any λy=>eY y x
def uE(K:Dd)(neg:Bool):R2:=λx y H Q=>∃p xs,y=.ref p/\(ah K H p xs\/ar K H p xs)/\fE x=true/\xs.all fE=true/\Q (.bl (if neg then !jq x xs else jq x xs)) H
def AE:bh X (compareOp .NotIn) (uE X.K true):=by
 intro pins s σ H x y v u Q I d f h;obtain⟨p,xs,rfl,b,e,fs,q⟩:=h;cases f;rcases b with b|b
 .obtain⟨a,r,pl,g⟩:=I.list b;refine SeqAt.notIn_listAt (fw x) pl.isList (λw c=>o4 d e r fs w (by simpa using c)) ⟨.bl _,H,I,rfl,?_⟩;rw[show a.toArray.any (fw x)=a.any (fw x) by simp,nR r fs];exact q
 .obtain⟨a,r,pl,g⟩:=I.tuple b;refine SeqAt.notIn_tupleAt (fw x) pl (λw c=>o4 d e r fs w (by simpa using c)) ⟨.bl _,H,I,rfl,?_⟩;rw[show a.toArray.any (fw x)=a.any (fw x) by simp,nR r fs];exact q
def zJ:bh X (compareOp .NotIn) (λx y H Q=>∃i j,x=.str i/\y=.str j/\Q (.bl (!(!(Builtin.Str.occurrences j i 0 j.length 1).isEmpty))) H):=by intro pins s σ H x y v u Q I a b h;obtain⟨i,j,rfl,rfl,q⟩:=h;obtain⟨t,rfl⟩:=a;obtain⟨c,rfl⟩:=b;exact notIn_str ⟨.bl _,H,I,rfl,q⟩
def wo:bN X (.builtin "len") (λxs H Q=>∃p ys,xs=[.ref p]/\(ah X.K H p ys\/ar X.K H p ys)/\Q (.int ys.length) H):=by
 intro pins s σ H xs us Q I r h;obtain⟨p,ys,rfl,a,q⟩:=h;obtain⟨u,rfl,d⟩:=vals1 r;cases d;have f:=iT;rcases a with a|a
 .obtain⟨b,c,pl,e⟩:=I.list a;have hlen:=c.length;exact Calls.call_len_list pl.isList (by simp only[Dm]<;>omega) ⟨.int ys.length,H,I.tok _,⟨s.toks+1,by rw[Dm,hlen]⟩,q⟩
 .obtain⟨b,c,pl,e⟩:=I.tuple a;have hlen:=c.length;exact len_tuple pl (by simp only[Dm]<;>omega) ⟨.int ys.length,H,I.tok _,⟨s.toks+1,by rw[Dm,hlen]⟩,q⟩
def fJ:bN X (.builtin "len") (λxs H Q=>∃z,xs=[.str z]/\z.length<=sizeLine/\Q (.int z.length) H):=by intro pins s σ H xs us Q I r h;obtain⟨z,rfl,a,q⟩:=h;obtain⟨u,rfl,t,rfl⟩:=vals1 r;have b:=iT;exact len_str (by omega) ⟨.int z.length,H,I.tok _,⟨_,rfl⟩,q⟩
def wz:bN X (.type "tuple") (λxs H Q=>∃p ys,xs=[.ref p]/\((ah X.K H p ys/\∀l,H l=Vp->Q (.ref l) (upd H l (.tup ys)))\/(ar X.K H p ys/\Q (.ref p) H))):=by
 intro pins s σ H xs us Q I r h;obtain⟨p,ys,rfl,h⟩:=h;obtain⟨u,rfl,i⟩:=vals1 r;cases i;rcases h with⟨c,q⟩|⟨c,q⟩
 .obtain⟨a,d,pl,f⟩:=I.list c;have hlen:=d.length;refine call_tuple_list pl.isList (λh' kp=>?_) (by simp only[Dm]<;>omega);have g:Inv X pins σ H { s with heap:=h' }:=I.kept (t':=s.toks) kp;have j:Inv X pins σ (upd H h'.objs.size (.tup ys)) { s with heap:=h'.push { cls:=.type "tuple",data:=.seq a.toArray } }:=
   g.laid (t':=s.toks) (λb o e=>De _ e) (DC _) (show bV X.prog X.w _ _ _ (.tup ys)from⟨f,a,d,IsTup.new _ _⟩)
  exact⟨.ref h'.objs.size,_,j,rfl,q _ (g.hok.fresh (DC _))⟩
 .obtain⟨a,d,pl,f⟩:=I.tuple c;exact call_tuple_same pl ⟨.ref p,H,I,rfl,q⟩
def i6(K:Dd)(T:String)(x:V)(H:Hp):Prop:=match x with
 | .str _=>T = "str"
 | .int _=>T = "int"
 | .ref p=>(T = "list"/\∃xs,ah K H p xs)\/(T = "tuple"/\∃o,K.lookup p=Vo o/\o.cls=.type "tuple"/\o.dict=Vp) ∨
   (T = "dict"/\((∃kvs,H p=Vo (.dK kvs))\/∃kvs,H p=Vo (.dT kvs)))\/(T = "set"/\∃S n,H p=Vo (.set S n))
 | _=>False
def wb{x:V}{v:Va}(I:Inv X pins σ H s)(r:RelV x v)(ty:i6 X.K T x H):
  s.TypeIs v T/\∀a,v=.ref a->∃f,s.heap.get? a=Vo f/\f.dict=Vp:=by
 cases x with
 | str z=>
  obtain⟨t,rfl⟩:=r;cases(show T = "str" from ty);exact⟨typeIs_str s z t,λ_ e=>nomatch e⟩
 | int i=>
  obtain⟨t,rfl⟩:=r;cases(show T = "int" from ty);exact⟨typeIs_int s i t,λ_ e=>nomatch e⟩
 | ref p=>
  cases r;rcases ty with⟨rfl,xs,g⟩|⟨rfl,o,b,h,hd⟩|⟨rfl,b⟩|⟨rfl,S,n,b⟩
  .obtain⟨j,_,pl,_⟩:=I.list g;refine⟨pl.isList.typeIs,λa e=>?_⟩;cases e;obtain⟨o,n,e,c,hd,_⟩:=pl;exact⟨o,e,hd⟩
  .refine⟨⟨o,I.kIn p o b,h⟩,λa e=>?_⟩;cases e;exact⟨o,I.kIn _ o b,hd⟩
  .have z:∃o,s.heap.get? p=Vo o/\o.ExactDict:=by
    rcases b with⟨kvs,b⟩|⟨kvs,b⟩
    .obtain⟨_,_,_,_,o,_,_,e,ex,_⟩:=I.hok p _ b;exact⟨o,e,ex⟩
    .obtain⟨_,_,_,_,o,_,_,e,ex,_⟩:=I.hok p _ b;exact⟨o,e,ex⟩
   obtain⟨o,e,ex⟩:=z;refine⟨⟨o,e,ex.1⟩,λa d=>?_⟩;cases d;exact⟨o,e,ex.2.1⟩
  .obtain⟨o,_,_,_,e,ex,_⟩:=I.hok p _ b;refine⟨⟨o,e,ex.1⟩,λa d=>?_⟩;cases d;exact⟨o,e,ex.2.1⟩
 | _=>exact False.elim ty
def mK(K:Dd)(T:String)(r:V->List V->Hp->VK->Prop)(to:TE)(t:TA):TE:=λσ H Q=>to σ H λx H1=>i6 K T x H1/\t σ H1 λxs H2=>r x xs H2 Q
variable {o e:Vk} {es:List Vk} {to:TE} {t:TA} {name:Vn} {apos cpos:Pos} {T id:String} {r:V->List V->Hp->VK->Prop}
def Bq(j:PlainAttrs T)(slot:Slot T name id)(f:typeOf (.builtin id)=pure (.type "method_descriptor"))(k:fF X id r)(ho:PE X o to)(ha:PA X (e::es) t)
  (b:attributeBase o name X.env (eval o X.env)=eval o X.env:=by rfl)
  (d:((backTo cpos (starEach (e::es) X.env)).all (λx=>!x.1) && (backToKw cpos (keywordEach [] X.env)).all (λx=>x.1.isSome)
   && decide ((e::es).length+([]:List Keyword).length+(if([]:List Keyword).isEmpty then 0 else 1)<30))=true:=by rfl)
  (c:(apos.endLine == cpos.line)=true:=by rfl) (hs:starEach (e::es) X.env=(false,eval e X.env)::starEach es X.env:=by rfl) (a:(backTo cpos (starEach es X.env)).any (·.1)=false:=by rfl) :
  PE X (.Call (.Attribute o name apos) (e::es) [] cpos) (mK X.K T r to t):=by
 intro pins s σ H Q I h;refine wpAny_Call_method_late b d c rfl (aw (ho pins s σ H _ I h) λv s1 ⟨x,H1,g,r1,ty,l⟩=>?_);obtain⟨h1,h2⟩:=wb g r1 ty;refine⟨T,id,j,slot,f,h1,h2,?_⟩;have i:=ha cpos pins s1 σ H1 _ g l;rw[hs]at i ⊢;refine Calls.callWith_builtin (by show(false || (backTo cpos (starEach es X.env)).any (·.1))=false;rw[a]<;>rfl) (Calls.evalArgs_plain ?_);exact aw i λus s2 ⟨vs,H2,m,n,p⟩=>k pins s2 σ H2 x vs v us Q m r1 n p
end
def tK(X:Cx)(id:String)(r:V->List V->Hp->VK->Prop):Prop:=
 ∀(pins:List (Vb×Obj)) (s:Vc) (σ:St) (H:Hp) (x:V) (xs:List V) (v:Va) (us:List Va) (Q:VK),Inv X pins σ H s->RelV x v->Vals xs us->r x xs H Q ->
  Vf (Vg X.prog X.w) X.A (call (.builtin id) (v::us)) (EP X pins σ Q) X.xe s
def Vals.one:∀{x:V} {us:List Va},Vals [x] us->∃u,us=[u]/\RelV x u:=vals1
theorem Vals.rep{xs:List V}{us:List Va}(h:Vals xs us):∀k:Nat,Vals (DV k xs).flatten (DV k us).flatten
 | 0=>.nil
 | k+1=>by rw[List.replicate_succ,List.replicate_succ,List.flatten_cons,List.flatten_cons];exact Vals.append h (Vals.rep h k)
theorem foldl_rep(a:List Va):∀(k:Nat) (acc:List Va),
  List.foldl (λb c=>b++c) acc.toArray (DV k a.toArray)=(acc++(DV k a).flatten).toArray
 | 0,acc=>by simp
 | k+1,acc=>by
  have e:acc.toArray++a.toArray=(acc++a).toArray:=by simp
  have d:(acc++a)++(DV k a).flatten=acc++(DV (k+1) a).flatten:=by rw[List.replicate_succ,List.flatten_cons,List.append_assoc]
  rw[<-d,<-foldl_rep a k (acc++a),<-e,List.replicate_succ,List.foldl_cons]
section
variable {X:Cx} {pins:List (Vb×Obj)} {σ:St} {H:Hp} {s:Vc} {l b:Vb} {xs ys zs:List V}
def Inv.lset{a its':List Va}{n:Nat}{f:Array Va->Array Va}{t':Nat}(I:Inv X pins σ H s)(b:H l=Vo (.lst xs))
  (e:s.heap.get? l=Vo { cls:=.type "list",data:=.seq a.toArray n }) (c:f a.toArray=its'.toArray) (d:Vals ys its') (g:ys.length<=sizeLine) :
  Inv X pins σ (upd H l (.lst ys)) { s with heap:=s.heap.update l (Obj.mapSeq f),toks:=t' }:=by
 have q:=PySem.IsL.update e f;rw[c]at q;refine I.write (x:=l) (e:=l) (by rw[b];exact trivial) (.inl rfl) (λi u hb h=>(Heap.get?_update_other s.heap (Obj.mapSeq f) (Ne.symm hb)).trans h) ⟨_,q⟩ ?_;exact⟨g,its',_,d,q⟩
def Inv.lnew{a:List Va}{t':Nat}(I:Inv X pins σ H s)(b:Vals ys a)(c:ys.length<=sizeLine):
  Inv X pins σ (upd H s.heap.objs.size (.lst ys)) { s with heap:=s.heap.push { cls:=.type "list",data:=.seq a.toArray },toks:=t' }:=
 I.laid (λ_ _ q=>De _ q) (DC _) ⟨c,a,0,b,Df _ rfl⟩
theorem Inv.fresh(I:Inv X pins σ H s):H s.heap.objs.size=Vp:=I.hok.fresh (DC _)
def Inv.lstM(I:Inv X pins σ H s)(b:H l=Vo (.lst xs)):xs.length<=sizeLine/\∃(a:List Va) (n:Nat),Vals xs a/\xs.length=a.length/\s.heap.get? l=Vo { cls:=.type "list",data:=.seq a.toArray n }:=by obtain⟨z,a,n,r,e⟩:=I.hok l _ b;exact⟨z,a,n,r,r.length,e⟩
def tE(h:n<=sizeLine):Builtin.List.listTooLong n=false:=by unfold Builtin.List.listTooLong;exact Ee (by omega)
end
section
variable {X:Cx}
def rJ:V->List V->Hp->VK->Prop:=λx vs H Q=>∃l xs y,x=.ref l/\vs=[y]/\H l=Vo (.lst xs)/\xs.length<sizeLine/\Q .non (upd H l (.lst (xs++[y])))
def cB:tK X "list.append" rJ:=by intro pins s σ H x vs v us Q I c d h;obtain⟨l,xs,y,rfl,rfl,b,g,q⟩:=h;cases c;obtain⟨u,rfl,f⟩:=d.one;obtain⟨z,a,n,r,i,e⟩:=I.lstM b;refine call_meets F.slot_list_append ⟨_,e,rfl⟩ F.entry_list_append (F.args_list_append_2 _ _) (PySem.list_append l a.toArray n u (by rw[Dm];omega)) ⟨e,?_⟩;refine⟨.non,_,I.lset (its':=a++[u]) b e (by simp) (r.append (.cons f .nil)) ?_,rfl,q⟩;rw[DA,List.length_singleton];omega
def xI:V->List V->Hp->VK->Prop:=λx vs H Q=>∃l b xs zs,x=.ref l/\vs=[.ref b]/\H l=Vo (.lst xs)/\H b=Vo (.lst zs)/\xs.length+zs.length<=sizeLine/\Q .non (upd H l (.lst (xs++zs)))
def CY:tK X "list.extend" xI:=by
 intro pins s σ H x vs v us Q I i j h;obtain⟨l,b,xs,zs,rfl,rfl,g,k,y,q⟩:=h;cases i;obtain⟨u,rfl,m⟩:=j.one;cases m;obtain⟨z,c,n,r,A,e⟩:=I.lstM g;obtain⟨z2,a,o,p,t,w⟩:=I.lstM k;have f:c.toArray.size+a.toArray.size<=sizeLine:=by rw[Dm,Dm];omega
 have d:¬(!c.toArray.isEmpty && Builtin.List.listTooLong (c.toArray.size+a.toArray.size))=true:=by rw[tE f,Bool.and_false];exact Dy
 refine call_meets F.slot_list_extend ⟨_,e,rfl⟩ F.entry_list_extend (F.args_list_extend_2 _ _)
  (AutoSeq1.list_extend_list_list_0 l c.toArray n b a.toArray o d (by rw[Dm];omega) (by omega)) ⟨e,w,?_⟩
 refine⟨.non,_,I.lset (its':=c++a) g e (by simp) (r.append p) ?_,rfl,q⟩;rw[DA];omega
def kX:R2:=λx y H Q=>∃l b xs zs,x=.ref l/\y=.ref b/\H l=Vo (.lst xs)/\H b=Vo (.lst zs)/\xs.length+zs.length<=sizeLine/\∀p,H p=Vp->Q (.ref p) (upd H p (.lst (xs++zs)))
def bI:bh X (binaryOp .Add) kX:=by
 intro pins s σ H x y v u Q I d f h;obtain⟨l,b,xs,zs,rfl,rfl,g,i,p,q⟩:=h;cases d;cases f;obtain⟨z,c,n,r,t,e⟩:=I.lstM g;obtain⟨z2,a,w,j,k,m⟩:=I.lstM i;refine PySem.P.add_list e m ?_ (by rw[Dm,Dm];omega);have o:c.toArray++a.toArray=(c++a).toArray:=by simp
 rw[o];exact⟨.ref _,_,I.lnew (t':=s.toks) (r.append j) (by rw[DA];omega),rfl,q _ I.fresh⟩
def qO:R2:=λx y H Q=>∃l k xs,x=.ref l/\y=.int k/\H l=Vo (.lst xs)/\-(2 ^ 63)<=k/\k<2 ^ 63/\xs.length*k.toNat<=sizeLine ∧
 ∀p,H p=Vp->Q (.ref p) (upd H p (.lst (DV k.toNat xs).flatten))
def len_rep{α:Type}(xs:List α)(k:Nat):(DV k xs).flatten.length=k*xs.length:=by
 induction k with
 | zero=>simp
 | succ k a=>rw[List.replicate_succ,List.flatten_cons,DA,a,Nat.succ_mul,Nat.add_comm]
def m6:bh X (binaryOp .Mult) qO:=by
 intro pins s σ H x y v u Q I p w h;obtain⟨l,k,xs,rfl,rfl,A,h1,h2,o,q⟩:=h;cases p;obtain⟨t,rfl⟩:=w;obtain⟨z,b,n,r,B,e⟩:=I.lstM A;have hlen:b.toArray.size*k.toNat<=sizeLine:=by rw[Dm,<-B];exact o
 have d:¬b.toArray.size*k.toNat>(2 ^ 63-1) / 8:=by
  have:(sizeLine:Nat)<=(2 ^ 63-1) / 8:=by decide
  omega
 have f:¬(!Builtin.List.listFitsIndex k)=true:=by rw[fitsIndex_both h1 h2];exact Dy
 have c:¬Builtin.List.listTooLong (b.toArray.size*k.toNat)=true:=by rw[tE hlen];exact Dy
 have g:List.foldl (λi j=>i++j) #[] (DV (if b.toArray.isEmpty=true then 0 else k.toNat) b.toArray)=(DV k.toNat b).flatten.toArray:=by
  have C:∀m:Nat,List.foldl (λi j=>i++j) #[] (DV m b.toArray)=(DV m b).flatten.toArray:=λm=>by have:=foldl_rep b m [];rw[List.nil_append]at this;exact this
  rw[C];cases b with
  | nil=>simp
  | cons a E=>rw[Eg (by simp)]
 refine wpAny_binaryOp_repeat_ref (T:="list") (U:="int") (by decide) ⟨_,e,rfl⟩ (λs'=>typeIs_int s' k t) noFill_list_mul F.fills_int_mul F.slot_int_rmul repeat_list F.slot_int_index.lookup
  (call_meets F.slot_int_rmul (typeIs_int s k t) F.entry_int_rmul (F.args_int_rmul_2 _ _) (int___rmul___int_list k t l b.toArray n)
   ⟨e,rfl,⟨_,e,rfl⟩,call_meets F.slot_list_mul ⟨_,e,rfl⟩ F.entry_list_mul (F.args_list_mul_2 _ _) (AutoListH.list___mul___list_int_3 l b.toArray n k t f d c) ⟨e,?_⟩⟩)
 rw[g];exact⟨.ref _,_,I.lnew (t':=s.toks) (r.rep k.toNat) (by rw[len_rep,Nat.mul_comm];exact o),rfl,q _ I.fresh⟩
end
end L2
namespace Att
open PySem PySem.W PySem.Calls PyProof.Rows
def yK{P:Params}:∀(ns:List Int) (vs:List Va),WellAll P h vs (ns.map WData.int)->IntsAre vs ns:=by
 intro ns;induction ns with
 | nil=>
  intro vs w;rw[List.map_nil]at w;cases w;exact .nil
 | cons n ns c=>
  intro vs w;rw[List.map_cons]at w;cases w with
  | cons a b=>
   cases a;exact .cons _ _ (c _ b)
def xV{l:OpenLaw}(j:l.most=Vo n){P:Params}{args:List WData}{vals:List Va}
  (b:l.row.toRowW.claim.pre args=true) (f:WellAll P h vals args) :
  ∃a vs ns,vals=[Value.ref a]/\args=[WData.list (ns.map WData.int)]/\h.get? a=Vo { cls:=.type "list",data:=.seq vs.toArray }/\IntsAre vs ns/\ns.length<=n:=by
 have g:WShape.hasAll [] args [.list .int]=true:=(pre_splitW b).1;have i:l.pre.holds [] { args:=args }=true:=(pre_splitW b).2;obtain⟨d,r,rfl,h1,h2⟩:=hasAllW_cons g;obtain rfl:=hasAllW_nil h2;obtain⟨xs,rfl,k⟩:=hasW_list h1;obtain⟨ns,rfl⟩:=items_int k;have hlen:ns.length<=n:=by
  unfold OpenLaw.pre at i;have c:(WTm.not (.lt (.lit (.int (n:Int))) (.len (.arg 0)))).holds [] { args:=[.list (ns.map .int)] }=true:=by have c:=(holds_andW i).1;rw[j]at c;exact c
  have e:=condW_of c (w_not (w_lt w_lit (w_len_list (w_arg rfl))));rw[Dh]at e;refine Nat.le_of_not_lt λq=>?_;have m:(n:Int)<((ns.length:Nat):Int):=by omega
  first
   | (rw[Ef m]at e;exact absurd e (by decide))
   | (simp at e;omega)
 cases f with
 | cons o p=>
  cases p;cases o with
  | list ho hall=>exact⟨_,_,ns,rfl,rfl,ho,yK ns _ hall,hlen⟩
def A9(l:OpenLaw)(args:List WData):l.row.toRowW.claim.post args (.bool true) args=true:=
 postW_of (r:=l.row.toRowW) (X:=(true == true))
  (show WShape.has [] (.bool true) .bool=true by first|rfl|decide|simp [WShape.has,WShape.arms,WShape.armsAll])
  (show(WTm.eq .res (.lit (.bool true))).value [] { args:=args,res:=Vo (.bool true),after:=args }=Vo (.bool (true == true))from w_eq_bool (w_res rfl) w_lit) rfl
def wO{l:OpenLaw}{q:Vd}{loose:List Vn}{m:(Vn->Option Va)->Vh->Prop}{p:Ve->Vh->Prop}{d:DefRec}
  (t:l.most=Vo n) (h:d.params.defaults=[])
  (call:∀(w:Ve) (s₀ b:Vc) (mg mb:Vn->Option Va) (c:Vb) (o:Obj) (pm cd doc:Va) (a:Vb) (vs:List Va) (ns:List Int),
   Ground q loose [] m w s₀ mg mb b.heap->p w b.heap ->
   b.heap.get? c=Vo o->o.data=.func (docDef d.name d.params d.body d.scope pm cd doc)->b.heap.CodeRec cd d.name->mg d.name=Vo (.ref c) ->
   b.heap.get? a=Vo { cls:=.type "list",data:=.seq vs.toArray }->IntsAre vs ns->ns.length<=n->b.gens = #[] ->
   codeAny (Vg l.prog w) callerA (.call (.ref c) ⟨[.ref a],[]⟩) (λr s'=>r=.ok (.ret (.bool true))/\OldK b.heap s'.heap/\s'.os=b.os/\AllBare s'.gens) b) :
  WalkO q loose m p l.row.toRowW d [] (λf vs=>PySem.call f vs):=by
 intro w s₀ b mg mb G Y c o pm cd doc u kV ho hd i hD j v args vals E e s x k y;obtain rfl:u=.none:=Dflts.none hD h;obtain rfl:kV=.none:=Dflts.noKw hD;obtain⟨a,vs,ns,rfl,rfl,g,hints,hlen⟩:=xV t e k;refine enter_call (codeAny_mono (call w s₀ b mg mb c o pm cd doc a vs ns G Y ho (fd_plain hd) i j g hints hlen v) λr s' z=>?_);obtain⟨rfl,h2,A,B⟩:=z;exact⟨.inl ⟨.bool true,.bool true,[],rfl,λ_=>rfl,.bool true,A9 l _,λ_=>⟨List.Pairwise.nil,λ_ C=>(nomatch C)⟩⟩,h2,A,B⟩
end Att
namespace L2
open PySem PySem.Spec PyProof.Rows
theorem pA:∀{vs:List Va} {ns:List Int},IntsAre vs ns->Vals (ns.map V.int) vs
 | _,_,.nil=>.nil
 | _,_,.cons n t h=>.cons ⟨t,rfl⟩ (pA h)
def oB(H:Hp):Prop:=∀b,H b=Vp\/∃o xs,H b=Vo (.frz o (.lst xs))
def law_call{P:Vd}{w:Ve}{K:Dd}{mb:Vn->Option Va}{CX:dA}{k:Nat}{y:Vb}{fd:Vm}{x:Vn}{sp:Sp}{c:Vc}{vs:List Va}{ns:List Int}
  (E:K.In c.heap) (g:c.heap.Ns Vj mg) (hb:c.heap.Ns builtinsNs mb) (A:∀x:Vn,x≠"__name__"->mb x=bootBuiltins x) (i:c.heap.NoLimit) (N:c.gens = #[])
  (ha:c.heap.get? a=Vo { cls:=.type "list",data:=.seq vs.toArray }) (hi:IntsAre vs ns) (G:ns.length<=sizeLine) (O:Room k callerA)
  (F:∀base:Vh,K.In base->base.Ns Vj mg->FnOk P w K mg base CX k y fd [x] sp) (hbind:∀(s:Vc) (u:Va),BindsTo s fd ⟨[u],[]⟩ [(x,u)])
  (hsp:∀H:Hp,oB H->ah K H a (ns.map V.int)->sp [.ref a] H (λv _=>v=.bl true) λ_ _ _=>False)
  (hCX:∀H e s',CX [] H c (λ_ _ _=>False) e s'->False) :
  codeAny (Vg P w) callerA (.call (.ref y) ⟨[.ref a],[]⟩) (λr s'=>r=.ok (.ret (.bool true))/\OldK c.heap s'.heap/\s'.os=c.os/\AllBare s'.gens) c:=by
 have I:=pA hi;have j:=hi.length;have core:∀H:Hp,oB H->ah K H a (ns.map V.int)->bC P w H c.heap->(∀b,H b≠Vp->b=a)->(H a≠Vp->K.lookup a=Vp) ->
   codeAny (Vg P w) callerA (.call (.ref y) ⟨[.ref a],[]⟩) (λr s'=>r=.ok (.ret (.bool true))/\OldK c.heap s'.heap/\s'.os=c.os/\AllBare s'.gens) c:=by
  intro H J Q hok L R;have f:∀{b:Vb} {o:Obj},c.heap.get? b=Vo o->H b=Vp->(eS c.heap H).get? b=Vo o:=λe n=>xq e n;have noA:∀{b:Vb} {o:Obj} {es:Array DictEntry} {ep:Nat},c.heap.get? b=Vo o->o.data=.dict es ep->H b=Vp:=λ{b o es ep} e d=>by
   cases q:H b with
   | none=>rfl
   | some u=>
    have B:b=a:=L b (by rw[q];simp);subst B;rw[ha]at e;cases e;have S:Data.seq vs.toArray _=Data.dict es ep:=d;cases S
  have nsK:∀{b:Vb} {m:Vn->Option Va},c.heap.Ns b m->(eS c.heap H).Ns b m:=λ{b m} ⟨o,es,ep,e,d,r⟩=>⟨o,es,ep,f e (noA e d),d,r⟩;have l:K.In (eS c.heap H):=λb o e=>f (E b o e) (by
   cases q:H b with
   | none=>rfl
   | some u=>
    have B:b=a:=L b (by rw[q];simp);subst B;rw[R (by rw[q];simp)]at e;cases e)
  have T:Mod K mg (eS c.heap H):=⟨l,nsK g,⟨mb,nsK hb,A⟩,let ⟨mc,h1,h2⟩:=i;⟨mc,nsK h1,h2⟩⟩;have U:Env0 P w K mg (eS c.heap H) callerA [] c H:=⟨rfl,T,λb o e=>zW e,Nat.le_of_eq (yV _ _),trivial,λb hb=>absurd (show b∈([]:List Vb)from hb) (by simp),hok,.of_eq N⟩;refine codeAny_mono ((F _ l (nsK g)).run callerA [] c H ⟨[.ref a],[]⟩ [.ref a] [.ref a] _ _ O U (hbind c (.ref a)) (.cons rfl .nil) (hsp H J Q)) λr s' h=>?_;cases r with
  | error e=>exact(hCX H e s' h).elim
  | ok W=>
   cases W with
   | next=>exact False.elim h
   | brk=>exact False.elim h
   | cont=>exact False.elim h
   | ret u=>
    obtain⟨v,H',os,bare,un,p,X,q⟩:=h;have Y:v=.bl true:=q;subst Y;obtain rfl:u=Value.bool true:=X;refine⟨rfl,OldK.of_keep λb o e=>?_,os,bare⟩;cases q:H b with
    | none=>exact un.keep b o e q (by intro z;exact absurd (show b∈([]:List Vb)from z) (by simp)) (by simp)
    | some u=>
     rcases J b with z|⟨Z,xs,z⟩
     .rw[q]at z;cases z
     .have z2:=un.frzs b Z _ z;obtain⟨M,_⟩:=hok b _ z;obtain⟨e2,_⟩:=p b _ z2;rw[e]at M;cases M;exact e2
 cases C:K.lookup a with
 | some o=>
  have e:=E a o C;rw[ha]at e;cases e;refine core (λ_=>Vp) (λ_=>.inl rfl) (.inr ⟨_,vs.toArray,_,C,rfl,rfl,rfl,by rw[Dm,j];exact G,by simpa using I⟩) (λb u z=>by have t:(Vp:Option HO)=Vo u:=z;cases t) (λb z=>absurd rfl z) λz=>absurd rfl z
 | none=>
  refine core (λb=>if b=a then Vo (.frz { cls:=.type "list",data:=.seq vs.toArray } (.lst (ns.map V.int)))else Vp) (λb=>?_) (.inl (.inr ⟨{ cls:=.type "list",data:=.seq vs.toArray },Eh rfl⟩)) (λb u z=>?_) (λb z=>?_) λ_=>C
  .by_cases hb:b=a
   .exact .inr ⟨_,_,Eh hb⟩
   .exact .inl (Eg hb)
  .by_cases hb:b=a
   .have t:=(Eh hb).symm.trans z;cases t;subst hb;exact⟨ha,by rw[Dh];exact G,vs,_,I,ha⟩
   .have t:=(Eg hb).symm.trans z;cases t
  .by_cases hb:b=a
   .exact hb
   .exact absurd (Eg hb) z
def CP{l:PySem.W.OpenLaw}{k:Nat}{q:Vd}{loose:List Vn}{z:(Vn->Option Va)->Vh->Prop}{t:Ve->Vh->Prop}{d:DefRec}{K:Params->Dd}{CX:Ve->dA}{sp:Ve->Sp}{x:Vn}
  (A:l.most=Vo n) (m:n<=sizeLine) (p:d.params.defaults=[]) (B:Room k callerA)
  (C:∀(w:Ve) (h:Vh),t w h->(K w.params).In h)
  (F:∀(w:Ve) (mg:Vn->Option Va) (j:Vb) (h:Vh),(K w.params).In h->h.Ns Vj mg->mg d.name=Vo (.ref j) ->
   ∃fd:Vm,(∀(s:Vc) (u:Va),BindsTo s fd ⟨[u],[]⟩ [(x,u)]) ∧
    ∀base:Vh,(K w.params).In base->base.Ns Vj mg->FnOk l.prog w (K w.params) mg base (CX w) k j fd [x] (sp w))
  (hsp:∀(w:Ve) (H:Hp) (a:Vb) (ns:List Int),ns.length<=n->oB H->ah (K w.params) H a (ns.map V.int)->sp w [.ref a] H (λv _=>v=.bl true) λ_ _ _=>False)
  (hCX:∀(w:Ve) (H:Hp) (s:Vc) (e:Va) (s':Vc),CX w [] H s (λ_ _ _=>False) e s'->False) :
  PySem.W.WalkO q loose z t l.row.toRowW d [] (λf vs=>PySem.call f vs):=by
 refine Att.wO A p λw s₀ c mg mb j o pm cd doc a vs ns G Y ho hd E r i hints hlen I=>?_;have y:=C w _ Y;obtain⟨fd,hb,J⟩:=F w mg j _ y G.T.g r;exact law_call y G.T.g G.T.b G.T.builtins G.T.nolimit I i hints (DM hlen m) B J hb (λH L M=>hsp w H a ns hlen L M) λH e s'=>hCX w H c e s'
def fD(s:Vl):Arguments:=match s with
 | .FunctionDef _ a _ _ _ _ _ _ _ _=>a
 | _=>{ posonlyargs:=[],args:=[],vararg:=Vp,kwonlyargs:=[],kw_defaults:=[],kwarg:=Vp,defaults:=[] }
def dU(s:Vl):List Vl:=match s with
 | .FunctionDef _ _ b _ _ _ _ _ _ _=>b
 | _=>[]
def aK(s:Vl):Scope:=match s with
 | .FunctionDef _ _ _ _ _ _ sc _ _ _=>sc
 | _=>{ kind:=.function,names:=[],isGenerator:=false,isCoroutine:=false }
abbrev eR:dA:=λ_ _ _ _ _ _=>False
abbrev E0:XK:=λ_ _ _=>False
def rq:Passes eR X E0:=λ_ _ _ _ _ _ _ h=>h.elim
structure Fun(K:Dd)(x qual:Vn)(st:Vl)(f:Vb)(fd:Vm):Prop where
 ex:∃(oc:Va) (od:Option Vb) (kV doc pm:Va) (an:Option Vb) (cdv ct:Va) (osl:Array (Option Va)),
  fd=PySem.W.fnOf x qual (fD st) (dU st) (aK st) .none kV doc pm an cdv ct/\K.lookup f=Vo ⟨oc,od,.func fd,osl⟩/\PySem.W.codeIn K cdv qual=true
 kp:PySem.W.keepIn K (.ref f)=true
section
variable {P:Vd} {w:Ve} {K:Dd} {mg:Vn->Option Va} {base:Vh}
def Fun.ok{x:Vn}{f:Vb}{N:List Vn}{k:Nat}(F:Fun K x qual st f fd)(S:FnScope N ps (aK st))(len:∀vs H Q E,sp vs H Q E->vs.length=ps.length)
  (a:∀(cdv:Va) (A:Vi) (outer:List Env) (s:Vc) (H:Hp) (vs:List V) (Q:VK) (E:XK),Room k (A.deeper (envOfC qual (aK st) s.heap.objs.size f cdv))->sp vs H Q E ->
   ∃t,b9 (aS eR P w K mg base N qual (aK st) f cdv A outer s H E).nox (dU st) t/\t { nx:=λ_ H'=>Q .non H',rt:=Q } (start N vs) H):FnOk P w K mg base eR (k+1) f fd ps sp:=by
 obtain⟨oc,od,kV,doc,pm,an,cdv,ct,osl,rfl,lk,b⟩:=F.ex;refine vd lk b S len λA outer s H vs Q E c hsp=>?_;obtain⟨t,h,q⟩:=a cdv A outer s H vs Q E c hsp;exact⟨t,h.nox,q⟩
def Fun.binds{x:Vn}{f:Vb}(F:Fun K x qual st f fd)
  (h:∀(kV doc pm:Va) (an:Option Vb) (cdv ct:Va) (us:List Va),us.length=ps.length->bindArgs (PySem.W.fnOf x qual (fD st) (dU st) (aK st) .none kV doc pm an cdv ct) ⟨us,[]⟩=pure (ps.zip us)):Binds K fd ps []:=by
 obtain⟨oc,od,kV,doc,pm,an,cdv,ct,osl,rfl,lk,a⟩:=F.ex;exact .all (h kV doc pm an cdv ct)
def pE{x:Vn}{f:Vb}{oc:Va}{od an:Option Vb}{osl:Array (Option Va)}{kV doc pm cdv ct:Va}(l:K.lookup f=Vo ⟨oc,od,.func (PySem.W.fnOf x qual (fD st) (dU st) (aK st) .none kV doc pm an cdv ct),osl⟩)
  (c:PySem.W.codeIn K cdv qual=true) (k:PySem.W.keepIn K (.ref f)=true):Fun K x qual st f (PySem.W.fnOf x qual (fD st) (dU st) (aK st) .none kV doc pm an cdv ct):=⟨⟨oc,od,kV,doc,pm,an,cdv,ct,osl,rfl,l,c⟩,k⟩
end
section
variable {X:Cx}
def pv(i:Nat){x:Vn}{pos:Pos}(b:X.N[i]?=Vo x:=by rfl)(c:ky X.env.scope x:=by first|exact Or.inl rfl|exact Or.inr (Or.inl rfl)|exact Or.inr (Or.inr rfl))(hd:(x == ("__debug__":Vn))=false:=by decide)
  (a:(x == ("__classdict__":Vn))=false:=by decide):PE X (.Name x pos) (kL i):=xN b c hd a
end
def av{A B:Prop}(h:B):if false=true then A else B:=by rw[Eg Dy];exact h
def ao{A B:Prop}(h:A):if true=true then A else B:=by rw[Eh rfl];exact h
def cJ{c A B:Prop}[Decidable c](h1:c->A)(h2:¬c->B):if c then A else B:=by
 by_cases h:c
 .rw[Eh h];exact h1 h
 .rw[Eg h];exact h2 h
structure Blk where
 s:Vc
 H:Hp
 fp:List Vb
 C:Vb
def cT(names:List (Vn×NameKind))(cells:List (Vn×Vb)):List (Vn×Vb):=
 names.foldl (λacc p=>if p.2 == .free then(p.1,(cells.lookup p.1).getD 0)::acc else acc) []
def cz(X:Cx)(sc:Scope)(own:List Vn)(a:List Nat)(z:Blk):Cx where
 prog:=X.prog
 w:=X.w
 K:=X.K
 mg:=X.mg
 base:=X.base
 A:=X.A
 N:=own++a.map λj=>X.N.getD j ""
 s₀:=z.s
 H₀:=z.H
 env:=compEnvC sc (cT sc.names X.env.cells) z.C X.env
 outer:=X.stack
 stack:=X.stack
 ex:=z.fp
 fn:=λ_=>false
 calm:=X.calm
 pn:=[]
 xe:=λ_ _=>False
def fU(sc out:Scope):Bool:=sc.names.all λp=>p.2 != .cell && (p.2 != .local || sc.names.lookup p.1 == Vo .local) && (p.2 != .free || out.names.lookup p.1 == Vo .cell || out.names.lookup p.1 == Vo .free)
def fX(sc:Scope)(N:List Vn)(a:List Nat):Bool:=a.all λj=>decide (j<N.length) && (sc.names.lookup (N.getD j "") == Vo .free)
def bO(n:Nat)(a:List Nat)(σ:St):St:=DV n Vp++a.map λj=>(σ[j]?).join
theorem j9(cells:List (Vn×Vb)):∀(names:List (Vn×NameKind)) (acc:List (Vn×Vb)) (x:Vn) (c:Vb),
  (names.foldl (λacc p=>if p.2 == .free then(p.1,(cells.lookup p.1).getD 0)::acc else acc) acc).lookup x=Vo c ->
  ((x,NameKind.free)∈names/\c=(cells.lookup x).getD 0)\/acc.lookup x=Vo c
 | [],acc,x,c,h=>.inr h
 | (n,k)::r,acc,x,c,h=>by
  rw[List.foldl_cons]at h;rcases j9 cells r _ x c h with⟨h1,h2⟩|h1
  .exact .inl ⟨Dk _ h1,h2⟩
  .cases a:(k == NameKind.free)with
   | false=>
    simp only[a]at h1;exact .inr h1
   | true=>
    simp only[a,if_true]at h1;rw[DZ]at h1;cases b:(x == n)with
    | false=>rw[b]at h1;exact .inr h1
    | true=>
     rw[b]at h1;have d:x=n:=by simpa using b
     have e:k=.free:=by simpa using a
     subst d e;exact .inl ⟨Dn,(DS h1).symm⟩
theorem uf(cells:List (Vn×Vb)):∀(names:List (Vn×NameKind)) (acc:List (Vn×Vb)) (x:Vn),
  ((x,NameKind.free)∈names\/(acc.lookup x).isSome=true)->((names.foldl (λacc p=>if p.2 == .free then(p.1,(cells.lookup p.1).getD 0)::acc else acc) acc).lookup x).isSome=true
 | [],acc,x,h=>by
  rcases h with h|h
  .simp at h
  .exact h
 | (n,k)::r,acc,x,h=>by
  rw[List.foldl_cons];apply uf cells r;rcases h with h|h
  .rcases Dw.mp h with e|h
   .right;cases e;simp[DZ]
   .exact .inl h
  .right;cases a:(k == NameKind.free)with
   | false=>simpa[a]using h
   | true=>
    simp only[a,if_true,DZ];cases b:(x == n)with
    | true=>rfl
    | false=>exact h
def oM(h:∀p∈sc.names,p.2=.free->∃c,env.cells.lookup p.1=Vo c):closureFor sc env=pure (cT sc.names env.cells):=by
 have go:∀(names:List (Vn×NameKind)) (acc:List (Vn×Vb)),(∀p∈names,p.2=NameKind.free->∃c,env.cells.lookup p.1=Vo c) ->
   (forIn names acc λ(p:Vn×NameKind) (r:List (Vn×Vb))=>(match p with|(name,kind)=>if(kind == NameKind.free)=true then do let c <-cellOf env name;pure (ForInStep.yield ((name,c)::r))else pure (ForInStep.yield r):Sem _)) =
   pure (names.foldl (λacc p=>if p.2 == .free then(p.1,(env.cells.lookup p.1).getD 0)::acc else acc) acc):=by
  intro names;induction names with
  | nil=>intro acc _;rfl
  | cons p r g=>
   intro acc a;obtain⟨n,k⟩:=p;rw[List.forIn_cons,List.foldl_cons];cases b:(k == NameKind.free)with
   | false=>
    simp only[b,DW,if_false];exact g acc λq d=>a q (Dk _ d)
   | true=>
    obtain⟨c,i⟩:=a (n,k) Dn (by simpa using b);have e:cellOf env n=pure c:=by unfold cellOf;rw[show env.cells.lookup n=Vo c from i]
    simp only[b,if_true,e];have f:env.cells.lookup n=Vo c:=i;rw[f];exact g _ λq d=>a q (Dk _ d)
 unfold closureFor cT;have:=go sc.names [] h;simp only[this];rfl
def fY(X:Cx)(ifs:List Vk)(t:TT):Prop:=
 ∀(pins:List (Vb×Obj)) (s:Vc) (σ:St) (H:Hp) (Q:Bool->Hp->Prop),Inv X pins σ H s->t σ H Q ->
  Vf (Vg X.prog X.w) X.A (forIn ifs true λc r=>if r=true then do let ok <-isTrue c X.env (eval c X.env);pure (ForInStep.yield ok)else pure (ForInStep.yield r)) (TP X pins σ Q) X.xe s
def p6:TT:=λ_ H Q=>Q true H
def cy:fY X [] p6:=λ_ _ _ H _ I h=>wpAny_tests_nil ⟨H,I,h⟩
def kP{c:Vk}{t:TT}(h:PT X c t):fY X [c] t:=λpins s σ H Q I a=>wpAny_tests_one (h pins s σ H Q I a)
def Al{R:Result->Vc->Prop}{j:Vc}{elt a iter:Vk}{ifs:List Vk}{sc:Scope}{ps:Pos}{b acc:Va}{ce:Env}(d:Nat->Vc->Prop)
  (step:∀k t,d k t->Vf (Vg prog w) A (pyNext b) (λgot g=>
   match got with
   | none=>R (.ok .next) g
   | some u=>Vf (Vg prog w) A (letOwnedTupleGo a b u) (λ_ l=>Vf (Vg prog w) A (assign a ce u) (λ_ n=>
     Vf (Vg prog w) A (forIn ifs true λc r=>if r=true then do let ok <-isTrue c ce (eval c ce);pure (ForInStep.yield ok)else pure (ForInStep.yield r)) (λyes i=>
      if yes=true then Vf (Vg prog w) A (eval elt ce) (λval o=>Vf (Vg prog w) A (call (.builtin "list.append") [acc,val]) (λ_ p=>∃m,m<k/\d m p) (λ_ _=>False) o) (λ_ _=>False) i
      else ∃m,m<k/\d m i) (λ_ _=>False) n) (λ_ _=>False) l) (λ_ _=>False) g) (λ_ _=>False) t)
  (k0:Nat) (start:d k0 j):codeAny (Vg prog w) A (.compLoop (.ListComp elt [⟨a,iter,ifs,0⟩] sc ps) 0 b acc ce) R j:=by
 refine codeAny_loop rfl d (λk t s=>?turn) k0 start
 case turn=>
  have nox:∀{α:Type} {m:Sem α} {Q:α->Vc->Prop} {E:Va->Vc->Prop} {z:Vc},Vf (Vg prog w) A m Q (λ_ _=>False) z->Vf (Vg prog w) A m Q E z:=λh=>wpAny_mono h (λ_ _ q=>q) λ_ _ f=>f.elim;show Vf _ A ((compTurn (.ListComp elt [⟨a,iter,ifs,0⟩] sc ps) 0 b acc ce).onRaise (λx=>do noteFrame x ce;theTreesLotGoes x)) _ _ t;apply wpAny_noted;rw[compTurn_list];refine CZ (wpAny_standAt (CZ (nox (wpAny_mono (step k t s) (λgot g h1=>?_) λ_ _ f=>f))));cases got with
  | none=>exact Dc h1
  | some u=>
   refine CZ (nox (wpAny_mono h1 (λ_ l h2=>?_) λ_ _ f=>f));refine CZ (nox (wpAny_mono h2 (λ_ n v=>?_) λ_ _ f=>f));refine CZ (nox (wpAny_mono v (λyes i e=>?_) λ_ _ f=>f));cases yes with
   | false=>
    rw[Eg Dy]at e;exact Dc ⟨rfl,e⟩
   | true=>
    rw[Eh rfl]at e;refine CZ (CZ (nox (wpAny_mono e (λval o y=>?_) λ_ _ f=>f)));exact CZ (nox (wpAny_mono y (λ_ p B=>Dc (Dc ⟨rfl,B⟩)) λ_ _ f=>f))
section
variable {X:Cx} {pins:List (Vb×Obj)} {σ:St} {H:Hp} {s:Vc}
def bP(a:List Va)(n:Nat):Obj:={ cls:=.type "list",data:=.seq a.toArray n }
def oD(h:fU sc out=true)(a:p∈sc.names)(b:p.2=.free):out.names.lookup p.1=Vo .cell\/out.names.lookup p.1=Vo .free:=by have:=DO.mp h p a;simp only[b,DQ,Bool.or_eq_true,beq_iff_eq,bne_iff_ne,ne_eq,not_true,false_or]at this;exact this.2
def ve(h:fU sc out=true)(a:p∈sc.names):p.2≠.cell:=by have:=DO.mp h p a;simp only[DQ,bne_iff_ne,ne_eq]at this;exact this.1.1
def xl(h:fU sc out=true)(a:p∈sc.names)(b:p.2=.local):sc.names.lookup p.1=Vo .local:=by have:=DO.mp h p a;simp only[b,DQ,Bool.or_eq_true,beq_iff_eq,bne_iff_ne,ne_eq,not_true,false_or]at this;exact this.1.2
theorem gD{sc:Scope}{env:Env}{x:Vn}:∀{names:List (Vn×NameKind)} {k:NameKind},(names.map λ(p:Vn×NameKind)=>match p with|(n,k)=>if(k == NameKind.free && env.scope.kind == .function && env.kindOf n == Vo .cell)then(n,NameKind.cell)else(n,k)).lookup x=Vo k ->
  ∃c,names.lookup x=Vo c/\(c=k\/(c=.free/\k=.cell))
 | [],_,h=>by simp at h
 | (n,q)::r,k,h=>by
  rw[List.map_cons]at h;rw[DZ];cases b:(x == n)with
  | true=>
   refine⟨q,rfl,?_⟩;by_cases a:(q == NameKind.free && env.scope.kind == .function && env.kindOf n == Vo .cell)=true
   .simp only[a,if_true,DZ,b]at h;right;simp only[DQ,beq_iff_eq]at a;exact⟨a.1.1,(DS h).symm⟩
   .left;have h2:List.lookup x ((n,q)::(r.map λ(p:Vn×NameKind)=>match p with|(n,k)=>if(k == NameKind.free && env.scope.kind == .function && env.kindOf n == Vo .cell)then(n,NameKind.cell)else(n,k)))=Vo k:=by have d:=h;dsimp only at d;rw[Eg a]at d;exact d
    rw[DZ,b]at h2;exact DS h2
  | false=>
   have:List.lookup x (r.map λ(p:Vn×NameKind)=>match p with|(n,k)=>if(k == NameKind.free && env.scope.kind == .function && env.kindOf n == Vo .cell)then(n,NameKind.cell)else(n,k))=Vo k:=by
    by_cases a:(q == NameKind.free && env.scope.kind == .function && env.kindOf n == Vo .cell)=true
    .simpa only[a,if_true,DZ,b]using h
    .dsimp only at h;rw[Eg a,DZ,b]at h;exact h
   exact gD (sc:=sc) this
def jZ{names:List (Vn×NameKind)}{x:Vn}{k:NameKind}(h:names.lookup x=Vo k):(x,k)∈names:=PySem.mem_of_lookup h
def fb(ok:X.Ok)(hb:fU sc X.env.scope=true){x:Vn}(h:(cT sc.names X.env.cells).lookup x=Vo c):X.env.cells.lookup x=Vo c:=by
 rcases j9 X.env.cells sc.names [] x c h with⟨h1,h2⟩|h1
 .obtain⟨d,hd⟩:=ok.has x (oD hb h1 rfl);rw[hd]at h2 ⊢;rw[h2];rfl
 .simp at h1
def jr{x:Vn}{cells:List (Vn×Vb)}(h:(x,NameKind.free)∈sc.names):∃c,(cT sc.names cells).lookup x=Vo c:=
 Option.isSome_iff_exists.mp (uf cells sc.names [] x (.inl h))
def Inv.stk_lt(I:Inv X pins σ H s){b:Vb}(hb:b∈aQ X.stack):b<s.heap.objs.size:=by
 rcases Dw.mp (I.stkSub b hb)with e|h
 .rw[e];exact I.lt
 .obtain⟨_,o,ho,_⟩:=I.ok.funs.mem h;exact DL (Dg ho) I.sz
def Inv.cell_lt(I:Inv X pins σ H s){x:Vn}(h:X.env.cells.lookup x=Vo c):c<s.heap.objs.size:=by obtain⟨v,q⟩:=I.cell x c h;exact q.lt
def Inv.pin_lt(I:Inv X pins σ H s){p:Vb×Obj}(h:p∈X.pn++pins):p.1<s.heap.objs.size:=Dg (I.pin p h).1
def xM(I:Inv X pins σ H s){i:List Nat}{C:Nat}(j:sc.kind=.function)(hb:fU sc X.env.scope=true)
  (hfp:∀b∈fp,bL X pins H b) (g:s.heap.objs.size<=C) (hlt:∀b∈fp,b<s.heap.objs.size):(cz X sc own i ⟨s,H,fp,C⟩).Ok where
 mod:=I.ok.mod
 kind:=j
 glob:=I.ok.glob
 blt:=I.ok.blt
 above:=g
 inj:=λx y c h1 h2=>I.ok.inj x y c (fb I.ok hb h1) (fb I.ok hb h2)
 has:=λx l=>by
  have d:(relabel sc X.env).names.lookup x=Vo .cell\/(relabel sc X.env).names.lookup x=Vo .free:=l;have go:∀k,(relabel sc X.env).names.lookup x=Vo k->(k=.cell\/k=.free)->∃c,(cT sc.names X.env.cells).lookup x=Vo c:=λk h f=>by
   obtain⟨p,h1,h2⟩:=gD (sc:=sc) (env:=X.env) h;have m:=jZ h1;rcases h2 with h2|⟨h2,_⟩
   .subst h2;rcases f with e|e
    .exact absurd e (ve hb m)
    .rw[e]at m;exact jr m
   .rw[h2]at m;exact jr m
  rcases d with h|h
  .exact go _ h (.inl rfl)
  .exact go _ h (.inr rfl)
 cab:=λx c h _=>by cases h
 hd:=I.ok.hd
 frames:=I.ok.frames
 stk:=.inl rfl
 exf:=λb a=>⟨DB (DL (hlt b a) g),λx c e=>(hfp b a).2.2.2.2.1 x c (fb I.ok hb e)⟩
 bs:=I.bs
 bsz:=DM I.ok.bsz I.sz
 noex:=λb o e a=>by
  rcases(hfp b a).2.2.2.1 with z|z
  .exact I.ok.noex b o e z
  .exact absurd (DL (Dg e) (DM I.ok.bsz z)) (Nat.lt_irrefl _)
 exfs:=λb a n=>by
  rcases Dw.mp (I.stkSub b n)with e|h
  .exact(hfp b a).2.1 e
  .exact(hfp b a).2.2.1 h
 funs:=I.stack
 frf:=I.stkFree
def jD{a:List Nat}{i:Nat}(h:(bO n a σ)[i]?=Vo (Vo v)):∃k j,i=n+k/\a[k]?=Vo j/\σ[j]?=Vo (Vo v):=by
 unfold bO at h;by_cases hi:i<n
 .rw[DH (by simpa using hi),List.getElem?_replicate]at h;split at h<;>cases h
 .rw[DG (by simpa using Nat.le_of_not_lt hi),List.length_replicate,Dj]at h;cases e:a[i-n]? with
  | none=>rw[e]at h;cases h
  | some j=>
   rw[e]at h;refine⟨i-n,j,by omega,e,?_⟩;have h':(σ[j]?).join=Vo v:=by simpa using h
   cases q:σ[j]? with
   | none=>rw[q]at h';cases h'
   | some o=>
    rw[q]at h';have:o=Vo v:=h';rw[this]
def A2(I:Inv X pins σ H s){n:List Nat}{C D:Nat}{tk:Nat}{m:Vn->Option Va}(M:sc.kind=.function)(hb:fU sc X.env.scope=true)(O:fX sc X.N n=true)
  (hfp:∀b∈fp,bL X pins H b) (hlt:∀b∈fp,b<s.heap.objs.size) (hD:D=s.heap.objs.size) (Y:C=s.heap.objs.size+1) (old:∀b o,s.heap.get? b=Vo o->h1.get? b=Vo o)
  (y:h1.get? D=Vo o) (A:∀v,o.data≠.cell v) (P:h1.Ns C m) :
  Inv (cz X sc own n ⟨s,H,fp,C⟩) [(D,o)] (bO own.length n σ) H { s with heap:=h1,toks:=tk } where
 ok:=xM I M hb hfp (show @LE.le Nat _ s.heap.objs.size C by omega) hlt
 os:=rfl
 bare:=I.bare
 base:=Un.kept old
 loc:=by
  refine⟨m,P,λi x v Q R S=>?_⟩;obtain⟨k,j,rfl,J,es⟩:=jD R;have t:(own++n.map λj=>X.N.getD j "")[own.length+k]?=Vo x:=Q;rw[DG (by omega),Nat.add_sub_cancel_left,Dj,J]at t;have ex:X.N.getD j "" = x:=by simpa using t
  have g:=DO.mp O j (Ds J);simp only[DQ,decide_eq_true_eq,beq_iff_eq]at g;have B:X.N[j]?=some x:=by rw[<-ex,List.getD_eq_getElem?_getD,Di g.1];rfl
  have a:sc.names.lookup x=some .free:=by rw[<-ex];exact g.2
  have hmem:=jZ a;have f:=oD hb hmem rfl;obtain⟨Z,T,E⟩:=I.loc;obtain⟨u,r,l⟩:=E j x v B es (by rcases f with z|z;exact .inr (.inl z);exact .inr (.inr z));refine⟨u,r,?_⟩;obtain⟨c,K⟩:=jr (cells:=X.env.cells) hmem;have F:=fb I.ok hb K;have h:s.heap.IsCell c (Vo u):=by
   rcases l with⟨z,_⟩|⟨_,c',L,q⟩
   .have U:X.env.scope.names.lookup x=Vo .local:=z;rcases f with w|w<;>(rw[U]at w;cases w)
   .rw[F]at L;cases L;exact q
  have d:h1.IsCell c (Vo u):=by obtain⟨oc,ho,hd⟩:=h;exact⟨oc,old c oc ho,hd⟩
  right;refine⟨?_,c,K,d⟩;have G:(relabel sc X.env).names.lookup x=Vo .local\/(relabel sc X.env).names.lookup x=Vo .cell\/(relabel sc X.env).names.lookup x=Vo .free:=S;rcases G with z|z
  .obtain⟨k',z1,z2⟩:=gD (sc:=sc) (env:=X.env) z;rw[a]at z1;rcases z2 with z2|⟨_,z2⟩
   .rw[z2]at z1;cases z1
   .cases z2
  .exact z
 cell:=λx c e=>by obtain⟨v,oc,ho,hd⟩:=I.cell x c (fb I.ok hb e);exact⟨v,oc,old c oc ho,hd⟩
 free:=I.hok.fresh (show @LE.le Nat _ s.heap.objs.size C by omega)
 freeC:=λx c e=>I.freeC x c (fb I.ok hb e)
 pin:=λp W=>by
  have e:p=(D,o):=by simpa[cz]using W
  subst e;refine⟨y,I.hok.fresh (show @LE.le Nat _ s.heap.objs.size D by omega),?_,λz=>?_,A⟩
  .exact DB (show @LT.lt Nat _ D C by omega)
  .have h9:@LT.lt Nat _ D s.heap.objs.size:=I.stk_lt (b:=D) z;omega
 hok:=I.hok.kept old
 len:=by show(bO own.length n σ).length=(own++n.map λj=>X.N.getD j "").length;simp[bO]
def gG(J:It)(n:Nat)(f:List Nat)(g:TG)(tc:TT)(te:TE)(σ:St)(H:Hp)(Q:VK):Prop:=
 ∃W:Nat->Nat->List V->Hp->Prop,(∃m,W 0 m [] H)/\∀i m ys H',W i m ys H' ->
  (J.stop i H'/\∀p,H' p=Vp->Q (.ref p) (upd H' p (.lst ys))) ∨
  (J.go i H'/\ys.length<sizeLine/\∃N:List V->Hp->Prop,(∀a H2,N a H2->∃d,d<m/\W (i+1) d a H2)/\∀x H2,J.yld i H' x H2->g x (bO n f σ) H2 λc h=>tc c h λb e=>
   if b=true then te c e λv j=>N (ys++[v]) j else N ys e)
def kE(n:Nat)(a:List Nat)(b:TI)(g:TG)(tc:TT)(te:TE):TE:=λσ H Q=>b σ H λJ H1=>gG J n a g tc te σ H1 Q
structure TurnAt(X:Cx)(tg:Vk)(J:It)(fp:List Vb)(it:Vb)(tn:Nat->Vh->Prop):Prop where
 obj:∀i h,tn i h->∀b∈fp,∃o,h.get? b=Vo o/\∀v,o.data≠.cell v
 keep:∀i h h',tn i h->(∀b∈fp,∀o,h.get? b=Vo o->h'.get? b=Vo o)->tn i h'
 item:∀(i:Nat) (pins:List (Vb×Obj)) (s:Vc) (σ:St) (H:Hp) (E:Va->Vc->Prop),Inv X pins σ H s->(∀b∈fp,bL X pins H b)->tn i s.heap->J.go i H ->
  Vf (Vg X.prog X.w) X.A (pyNext (.ref it)) (λr s1=>∃u,r=Vo u ∧
   Vf (Vg X.prog X.w) X.A (letOwnedTupleGo tg (.ref it) u) (λ_ s2=>∃x H',Inv X pins σ H' s2/\RelV x u/\J.yld i H x H'/\tn (i+1) s2.heap/\∀b∈fp,H' b=Vp) E s1) E s
 done:∀(i:Nat) (pins:List (Vb×Obj)) (s:Vc) (σ:St) (H:Hp) (E:Va->Vc->Prop),Inv X pins σ H s->(∀b∈fp,bL X pins H b)->tn i s.heap->J.stop i H ->
  Vf (Vg X.prog X.w) X.A (pyNext (.ref it)) (λr s1=>r=Vp/\Inv X pins σ H s1) E s
 self:∀(A:Vi) (i:Nat) (s:Vc) (Q:Va->Vc->Prop) (E:Va->Vc->Prop),tn i s.heap->Q (.ref it) s->Vf (Vg X.prog X.w) A (pyIter (.ref it)) Q E s
def Turn.at_{J:It}{it:Vb}(T:Turn Y.prog Y.w Y.K tg J fp it tn)(a:Y.calm=true):TurnAt Y tg J fp it tn:=⟨T.obj,T.keep,T.item Y rfl rfl rfl a,T.done Y rfl rfl rfl a,T.self⟩
end
def fM{K:Dd}{f:List Nat}{te:TE}{Q:VK}(Pv:Nat->List V->Hp->Prop)(t:xs.length<=sizeLine)(j:Pv 0 [] H)(k:∀i ys H,i<=xs.length->Pv i ys H->ah K H a xs/\ys.length<=i)
  (hs:∀i x ys H,xs[i]?=Vo x->Pv i ys H->g x (bO n f σ) H λc l=>tc c l λb h=>if b=true then te c h λv o=>Pv (i+1) (ys++[v]) o else Pv (i+1) ys h)
  (hd:∀ys H p,Pv xs.length ys H->H p=Vp->Q (.ref p) (upd H p (.lst ys))):gG (dw K a) n f g tc te σ H Q:=by
 refine⟨λi m ys H=>m=xs.length-i/\i<=xs.length/\Pv i ys H,⟨xs.length,by simp,Nat.zero_le _,j⟩,?_⟩;rintro i m ys H ⟨rfl,hi,p⟩;have q:=k i ys H hi p;by_cases hlt:i<xs.length
 .refine .inr ⟨⟨xs,xs[i],q.1,by simp[hlt]⟩,by have:=q.2;omega,Pv (i+1),λr H' d=>⟨xs.length-(i+1),by omega,rfl,hlt,d⟩,λx H' y=>?_⟩;obtain⟨e,y⟩:=y;subst e;exact hs i x ys _ (y xs q.1) p
 .have e:i=xs.length:=by omega
  subst e;exact .inl ⟨⟨xs,q.1,DC _⟩,λd s=>hd ys H d p s⟩
def iH{K:Dd}{f:List Nat}{te:TE}{Q:VK}(Pv:Nat->List V->Hp->Prop)(t:xs.length<=sizeLine)(j:Pv 0 [] H)(k:∀i ys H,i<=xs.length->Pv i ys H->ar K H a xs/\ys.length<=i)
  (hs:∀i x ys H,xs[i]?=Vo x->Pv i ys H->g x (bO n f σ) H λc l=>tc c l λb h=>if b=true then te c h λv o=>Pv (i+1) (ys++[v]) o else Pv (i+1) ys h)
  (hd:∀ys H p,Pv xs.length ys H->H p=Vp->Q (.ref p) (upd H p (.lst ys))):gG (cH K a) n f g tc te σ H Q:=by
 refine⟨λi m ys H=>m=xs.length-i/\i<=xs.length/\Pv i ys H,⟨xs.length,by simp,Nat.zero_le _,j⟩,?_⟩;rintro i m ys H ⟨rfl,hi,p⟩;have q:=k i ys H hi p;by_cases hlt:i<xs.length
 .refine .inr ⟨⟨xs,xs[i],q.1,by simp[hlt]⟩,by have:=q.2;omega,Pv (i+1),λr H' d=>⟨xs.length-(i+1),by omega,rfl,hlt,d⟩,λx H' y=>?_⟩;obtain⟨e,y⟩:=y;subst e;exact hs i x ys _ (y xs q.1) p
 .have e:i=xs.length:=by omega
  subst e;exact .inl ⟨⟨xs,q.1,DC _⟩,λd s=>hd ys H d p s⟩
def nE{lo:Int}{d:List Nat}{te:TE}{Q:VK}(Pv:Nat->List V->Hp->Prop)(s:N<=sizeLine)(h:Pv 0 [] H)(j:∀i ys H,i<=N->Pv i ys H->ys.length<=i)
  (hs:∀i ys H,i<N->Pv i ys H->g (.int (lo+i)) (bO n d σ) H λa k=>tc a k λb f=>if b=true then te a f λv l=>Pv (i+1) (ys++[v]) l else Pv (i+1) ys f)
  (hd:∀ys H p,Pv N ys H->H p=Vp->Q (.ref p) (upd H p (.lst ys))):gG (eJ lo N) n d g tc te σ H Q:=by
 refine⟨λi m ys H=>m=N-i/\i<=N/\Pv i ys H,⟨N,by simp,Nat.zero_le _,h⟩,?_⟩;rintro i m ys H ⟨rfl,hi,p⟩;have q:=j i ys H hi p;by_cases hlt:i<N
 .refine .inr ⟨hlt,by omega,Pv (i+1),λo H' c=>⟨N-(i+1),by omega,rfl,hlt,c⟩,λx H' y=>?_⟩;obtain⟨e,y⟩:=y;subst e y;exact hs i ys _ hlt p
 .have e:i=N:=by omega
  subst e;exact .inl ⟨DC _,λc r=>hd ys H c p r⟩
structure Cal(P:Vd)(w:Ve)(K:Dd)(mg:Vn->Option Va)(base:Vh)(x:Vn)(k:Nat)(ps:List Vn)(sp:Sp):Prop where
 ex:∃(f:Vb) (fd:Vm),mg x=Vo (.ref f)/\PySem.W.keepIn K (.ref f)=true/\Binds K fd ps []/\FnOk P w K mg base eR k f fd ps sp
structure Dfn(K:Dd)(mg:Vn->Option Va)(x:Vn)(st:Vl)(ps:List Vn):Prop where
 ex:∃(f:Vb) (fd:Vm),mg x=Vo (.ref f)/\Fun K x x st f fd/\Binds K fd ps []
section
variable {P:Vd} {w:Ve} {K:Dd} {mg:Vn->Option Va} {base:Vh}
theorem Dfn.ok{x:Vn}{st:Vl}{N ps:List Vn}{k:Nat}{sp:Sp}(D:Dfn K mg x st ps)(S:FnScope N ps (aK st))(len:∀vs H Q E,sp vs H Q E->vs.length=ps.length)
  (a:∀(X:Cx) (d:∃f cdv A outer s H E,X=(aS eR P w K mg base N x (aK st) f cdv A outer s H E).nox/\Room k X.A) (H:Hp) (vs:List V) (Q:VK) (E:XK),sp vs H Q E ->
   ∃t,b9 X (dU st) t/\t { nx:=λ_ H'=>Q .non H',rt:=Q } (start N vs) H):Cal P w K mg base x (k+1) ps sp:=by
 obtain⟨f,fd,b,F,hb⟩:=D.ex;exact⟨f,fd,b,F.kp,hb,F.ok S len λcdv A outer s H vs Q E c h=>a _ ⟨f,cdv,A,outer,s,H,E,rfl,c⟩ H vs Q E h⟩
end
section
variable {X:Cx}
def aC{x:Vn}{k j:Nat}{e:Vk}{es:List Vk}{t:TA}{p pos:Pos}(C:Cal X.prog X.w X.K X.mg X.base x j ps sp)(d:Room k X.A)(ha:PA X (e::es) t)(a:j<=k:=by decide)(g:Gl X x:=by rfl)(b:(x == ("__debug__":Vn))=false:=by decide)
  (h:starEach (e::es) X.env=(false,eval e X.env)::starEach es X.env:=by rfl) (c:(backTo pos (starEach es X.env)).any (·.1)=false:=by rfl) :
  PE X (.Call (.Name x p) (e::es) [] pos) (fZ sp [] E0 t):=by
 obtain⟨f,fd,i,l,hb,F⟩:=C.ex;exact kR F (d.mono a) g i l hb .nil rq ha b h c
def rH:bh X (binaryOp .FloorDiv) (rI (λ_ j=>0<j/\j<2 ^ 64) λi j=>.int (i / j)):=jF λi j _ _ _ _ _ b q=>by
 have h1:(0:Int)<j:=b.1;have h2:j<2 ^ 64:=b.2;refine floordiv_int (by omega) (by rw[Int.fdiv_eq_ediv_of_nonneg i (by omega)];exact q) (.inl (PyProof.noPylong_of_log2 ?_));have c:j.natAbs≠0:=by omega
 have a:j.natAbs<2 ^ 64:=by omega
 have:=(Nat.log2_lt c).mpr a;omega
def cp(H:Hp):V->String->Prop
 | .non,n=>n = "NoneType"
 | .bl _,n=>n = "bool"
 | .int _,n=>n = "int"
 | .str _,n=>n = "str"
 | .ref a,n=>(n = "list"/\∃xs,H a=Vo (.lst xs))\/(n = "tuple"/\∃xs,H a=Vo (.tup xs))
 | _,_=>False
def cp.ty{K:Dd}{x:V}{n:String}(h:cp H x n):TyOf K H x (.type n):=by
 cases x with
 | non=>cases(show n = "NoneType" from h);exact .non
 | bl b=>cases(show n = "bool" from h);exact .bl b
 | int i=>cases(show n = "int" from h);exact .int i
 | str z=>cases(show n = "str" from h);exact .str z
 | ref a=>
  rcases h with⟨rfl,xs,e⟩|⟨rfl,xs,e⟩
  .exact .lst e
  .exact .tup e
 | _=>exact False.elim h
def gN(a b c d e:Bool):String->Option Bool
 | "tuple"=>Vo a|"int"=>Vo b|"bool"=>Vo c|"list"=>Vo d|"str"=>Vo e|_=>Vp
def ft:String->String->Option Bool
 | "NoneType"=>gN false false false false false
 | "bool"=>gN false true true false false
 | "int"=>gN false true false false false
 | "str"=>gN false false false false true
 | "list"=>gN false false false true false
 | "tuple"=>gN true false false false false
 | _=>λ_=>Vp
def wC{K:Dd}{n:String}{b:Bool}(h:ft n T=Vo b):PySem.W.kitOne K (.type n) (.type T)=Vo b:=by
 unfold ft at h;split at h<;>first
  | (unfold gN at h;split at h<;>first|(cases h;kernel_rfl)|cases h)
  | cases h
def sO:List V->Hp->VK->Prop:=λxs H Q=>∃x n T b,xs=[x,.ty T]/\cp H x n/\ft n T=Vo b/\Q (.bl b) H
def cw:bN X (.builtin "isinstance") sO:=by intro pins s σ H xs us Q I r h;obtain⟨x,n,T,b,rfl,a,hb,q⟩:=h;obtain⟨u,c,rfl,r1,d⟩:=vals2 r;cases(show c=Value.type T from d);exact xT I r1 a.ty (wC hb) λtk=>⟨.bl b,H,I.tok tk,rfl,q⟩
def Bo:bh X (compareOp .IsNot) (λx y H Q=>∃a b,x=.bl a/\y=.bl b/\Q (.bl (!(a == b))) H):=by intro pins s σ H x y v u Q I c d h;obtain⟨a,b,rfl,rfl,q⟩:=h;cases c;cases d;exact wpAny_isNot_plain rfl (bq I q (by cases a<;>cases b<;>rfl))
def kJ(K:Dd):List V->Hp->VK->Prop:=λxs H Q=>∃p ys,xs=[.ref p]/\(ah K H p ys\/ar K H p ys)/\Q (.int ys.length) H
def Ar:bN X (.builtin "len") (kJ X.K):=wo
def mS(K:Dd):List V->Hp->VK->Prop:=λxs H Q=>∃p ys,xs=[.ref p]/\((ah K H p ys/\∀l,H l=Vp->Q (.ref l) (upd H l (.tup ys)))\/(ar K H p ys/\Q (.ref p) H))
def xD:bN X (.type "tuple") (mS X.K):=wz
def qr:List V->Hp->VK->Prop:=λxs H Q=>(∃i,xs=[.int i]/\Q (.int i) H)\/∃k,xs=[.bl k]/\Q (.int (if k then 1 else 0)) H
def qR:bN X (.type "int") qr:=BR
def vo:List V->Hp->VK->Prop:=λxs H Q=>∃i j,xs=[.int i,.int j]/\Q (.int (if j>i then j else i)) H
def qC(a:X.calm=true):bN X (.builtin "max") vo:=wG a
def sG:List V->Hp->VK->Prop:=λxs H Q=>∃i j,xs=[.int i,.int j]/\Q (.int (if j<i then j else i)) H
def lY(a:X.calm=true):bN X (.builtin "min") sG:=wJ a
end
def Ext(H H':Hp):Prop:=∀b o,H b=Vo o->H' b=Vo o
def Ext.rfl'(H:Hp):Ext H H:=λ_ _ h=>h
def Ext.trans{H1 H2:Hp}(a:Ext H H1)(b:Ext H1 H2):Ext H H2:=λx o h=>b x o (a x o h)
theorem Ext.none{H H':Hp}(e:Ext H H'){l:Vb}(h:H' l=Option.none):H l=Option.none:=by
 cases q:H l with
 | none=>rfl
 | some o=>rw[e l o q]at h;cases h
section
variable {X:Cx} (K:Dd)
def aB(h:X.K=K:=by rfl):gR X (kz K):=by subst h;exact A1
def aW(h:X.K=K:=by rfl):gR X (pd K):=by subst h;exact xU
def eQ(h:X.K=K:=by rfl):iC X (kQ K):=by subst h;exact As
def wu(h:X.K=K:=by rfl):bh X (compareOp .NotIn) (uE K true):=by subst h;exact AE
def cc(h:X.K=K:=by rfl):bN X (.builtin "len") (kJ K):=by subst h;exact Ar
def eX(h:X.K=K:=by rfl):bN X (.type "tuple") (mS K):=by subst h;exact xD
def eZ{l:Vk}(a:PE X l tl)(h:X.K=K:=by rfl):PI X tg l (nZ K tl):=by subst h;exact Bv a
def fK{l:Vk}(a:PE X l tl)(h:X.K=K:=by rfl):PI X tg l (nh K tl):=by subst h;exact wN a
def jE{es:List Vk}{k:Nat}{t:dj}{pos:Pos}(b:X.calm=true)(c:iz X es t)(h:X.K=K:=by rfl)
  (d:(assignEach es X.env).length=n:=by rfl) (a:(assignEach es X.env).findIdx? (·.1)=Vp:=by rfl):PG X (.Tuple es k pos) (lH K n t):=by subst h;exact zx b c d a
def bo{o e:Vk}{es:List Vk}{to:TE}{t:TA}{name:Vn}{apos cpos:Pos}{id:String}{r:V->List V->Hp->VK->Prop}(g:PlainAttrs T)(slot:Slot T name id)(f:typeOf (.builtin id)=pure (.type "method_descriptor"))(i:fF X id r)(ho:PE X o to)(ha:PA X (e::es) t)(h:X.K=K:=by rfl)
  (b:attributeBase o name X.env (eval o X.env)=eval o X.env:=by rfl)
  (d:((backTo cpos (starEach (e::es) X.env)).all (λx=>!x.1) && (backToKw cpos (keywordEach [] X.env)).all (λx=>x.1.isSome)
   && decide ((e::es).length+([]:List Keyword).length+(if([]:List Keyword).isEmpty then 0 else 1)<30))=true:=by rfl)
  (c:(apos.endLine == cpos.line)=true:=by rfl) (hs:starEach (e::es) X.env=(false,eval e X.env)::starEach es X.env:=by rfl) (a:(backTo cpos (starEach es X.env)).any (·.1)=false:=by rfl) :
  PE X (.Call (.Attribute o name apos) (e::es) [] cpos) (mK K T r to t):=by subst h;exact Bq g slot f i ho ha b d c hs a
end
def uR(ns:List Int):TA:=λ_ H Q=>Q (ns.map V.int) H
inductive IntsE:List Vk->List Int->Prop
 | n:IntsE [] []
 | c {i j pos es ns}:IntsE es ns->IntsE (.Constant (.int i) j pos::es) (i::ns)
def gJ{es:List Vk}{ns:List Int}(h:IntsE es ns):PA X es (uR ns):=by
 induction h with
 | n=>exact af
 | @c i j pos es ns _ a=>
  intro p pins s σ H Q I b;exact ae (e:=.Constant (.int i) j pos) ag a rfl p pins s σ H Q I b
def rd_ints{ns:List Int}{R:List V->Hp->Prop}(h:R (ns.map V.int) H):uR ns σ H R:=h
def oH(c:TT)(t u:TS):TS:=λD σ H=>∃R:St->Hp->Prop,(c σ H λb H1=>if b=true then t { D with nx:=R } σ H1 else u { D with nx:=R } σ H1)/\∀a H',R a H'->D.nx a H'
def dX{c:Vk}{a b:List Vl}{t u:TS}{pos:Pos}(e:PT X c tc)(ha:b9 X a t)(hb:b9 X b u):PS X (.If c a b pos) (oH tc t u):=by
 intro pins s σ H D I h;obtain⟨R,h,g⟩:=h;refine aw (aT e ha hb pins s σ H { D with nx:=R } I h) λf s1 q=>?_;cases f with
 | next=>
  obtain⟨d,H',i,q⟩:=q;exact⟨d,H',i,g d H' q⟩
 | ret v=>exact q
 | brk=>exact q
 | cont=>exact q
def pO(K:Dd):V->Hp->(It->Hp->Prop)->Prop:=λx H R=>∃a,x=.ref a/\(∃xs,ah K H a xs)/\R (dw K a) H
def rM(K:Dd):V->Hp->(It->Hp->Prop)->Prop:=λx H R=>∃a,x=.ref a/\(∃xs,ar K H a xs)/\R (cH K a) H
def qU:List V->Hp->(It->Hp->Prop)->Prop:=λvs H R=>∃j:Int,vs=[.int j]/\-(2 ^ 62)<=j/\j<2 ^ 62/\R (eJ 0 j.toNat) H
def i7(J:It)(g:TG)(tb:TS)(D:Ends)(σ:St)(H:Hp):Prop:=∃W:Nat->Nat->St->Hp->Prop,(∃m,W 0 m σ H)/\∀i m σ H,W i m σ H ->
 (J.stop i H/\D.nx σ H)\/(J.go i H/\∃N:St->Hp->Prop,(∀a H',N a H'->∃c,c<m/\W (i+1) c a H')/\∀x H',J.yld i H x H'->g x σ H' λb H2=>tb { D with nx:=N,ct:=N,bk:=D.nx } b H2)
def forL{K:Dd}{D:Ends}(Pv:Nat->St->Hp->Prop)(c:Pv 0 σ H)(d:∀i σ H,i<=xs.length->Pv i σ H->ah K H a xs)
  (hs:∀i x σ H,xs[i]?=Vo x->Pv i σ H->g x σ H λb H2=>tb ⟨Pv (i+1),D.rt,D.nx,Pv (i+1)⟩ b H2) (hd:∀σ H,Pv xs.length σ H->D.nx σ H):i7 (dw K a) g tb D σ H:=zg Pv c d hs hd
def qo{K:Dd}{D:Ends}(Pv:Nat->St->Hp->Prop)(c:Pv 0 σ H)(d:∀i σ H,i<=xs.length->Pv i σ H->ar K H a xs)
  (hs:∀i x σ H,xs[i]?=Vo x->Pv i σ H->g x σ H λb H2=>tb ⟨Pv (i+1),D.rt,D.nx,Pv (i+1)⟩ b H2) (hd:∀σ H,Pv xs.length σ H->D.nx σ H):i7 (cH K a) g tb D σ H:=BQ Pv c d hs hd
def forR{lo:Int}{D:Ends}(Pv:Nat->St->Hp->Prop)(b:Pv 0 σ H)
  (hs:∀i σ H,i<n->Pv i σ H->g (.int (lo+i)) σ H λa H2=>tb ⟨Pv (i+1),D.rt,D.nx,Pv (i+1)⟩ a H2) (hd:∀σ H,Pv n σ H->D.nx σ H):i7 (eJ lo n) g tb D σ H:=yC Pv b hs hd
def df(H:Hp)(o:HO)(R:VK):Prop:=∀p,H p=Vp->R (.ref p) (upd H p o)
section
variable {K:Dd} {D:Ends} {σ:St} {H:Hp} {Q:VK} {ta tb tc te:TE} {t u:TS} {c c':TT}
def rd_seq(h:t ⟨u D,D.rt,D.bk,D.ct⟩ σ H):iX t u D σ H:=h
def rd_next(h:D.nx σ H):lM D σ H:=h
def rd_ret(h:te σ H D.rt):ug te D σ H:=h
def rd_asg(h:te σ H λx H1=>g x σ H1 D.nx):gX te g D σ H:=h
def rd_drop(h:te σ H λ_ H1=>D.nx σ H1):vL te D σ H:=h
def rd_ifS(h:c σ H λb H1=>if b=true then t D σ H1 else u D σ H1):tP c t u D σ H:=h
def fo(R:St->Hp->Prop)(h:c σ H λb H1=>if b=true then t ⟨R,D.rt,D.bk,D.ct⟩ σ H1 else u ⟨R,D.rt,D.bk,D.ct⟩ σ H1)(k:∀a H',R a H'->D.nx a H'):oH c t u D σ H:=⟨R,h,k⟩
def vy(h:c σ H λb H1=>if b=true then t D σ H1 else u D σ H1):oH c t u D σ H:=⟨D.nx,h,λ_ _ h=>h⟩
def rd_name{i:Nat}{R:St->Hp->Prop}(h:R (σ.set i (Vo v)) H):gL i v σ H R:=h
def rd_var{i:Nat}(e:σ[i]?=Vo (Vo v))(h:Q v H):kL i σ H Q:=⟨v,e,h⟩
def rd_c(h:Q v H):tC v σ H Q:=h
def rd_op{r:R2}(h:ta σ H λx H1=>tb σ H1 λy H2=>r x y H2 Q):gE r ta tb σ H Q:=h
def rd_un{r:V->Hp->VK->Prop}(h:ta σ H λx H1=>r x H1 Q):rR r ta σ H Q:=h
def rd_CB{r:List V->Hp->VK->Prop}{a:TA}(h:a σ H λvs H1=>r vs H1 Q):mH r a σ H Q:=h
def rd_cons{a:TA}{R:List V->Hp->Prop}(h:ta σ H λx H1=>a σ H1 λxs H2=>R (x::xs) H2):j8 ta a σ H R:=h
def rd_nil{R:List V->Hp->Prop}(h:R [] H):iD σ H R:=h
def rd_test{R:Bool->Hp->Prop}(h:te σ H λx H'=>∃k,x=.bl k/\R k H'):tW te σ H R:=h
def rd_B{R:Bool->Hp->Prop}(h:te σ H λx H'=>∃k,x=.bl k/\R k H'):tB te σ H R:=h
def rd_exb{b:Bool}{R:Bool->Prop}(h:R b):∃k,V.bl b=V.bl k/\R k:=⟨b,rfl,h⟩
def rd_not{R:Bool->Hp->Prop}(h:c σ H λb H1=>R (!b) H1):rV c σ H R:=h
def rd_and{R:Bool->Hp->Prop}(h:c σ H λb H1=>if b=true then c' σ H1 R else R false H1):rZ c c' σ H R:=h
def rd_or{R:Bool->Hp->Prop}(h:c σ H λb H1=>if b=true then R true H1 else c' σ H1 R):pW c c' σ H R:=h
def rd_andV(h:ta σ H λx H1=>∃k,x=.bl k/\if k=true then tb σ H1 Q else Q (.bl false) H1):sA ta tb σ H Q:=h
def rd_orV(h:ta σ H λx H1=>∃k,x=.bl k/\if k=true then Q (.bl true) H1 else tb σ H1 Q):uF ta tb σ H Q:=h
def rd_notV(h:ta σ H λx H1=>∃k,x=.bl k/\Q (.bl (!k)) H1):we ta σ H Q:=h
def rd_yes{R:Bool->Hp->Prop}(h:R true H):p6 σ H R:=h
def rd_I0{g:Int->Int->V}{i j:Int}(h:Q (g i j) H):eU g (.int i) (.int j) H Q:=⟨i,j,rfl,rfl,h⟩
def rd_I{C:Int->Int->Prop}{g:Int->Int->V}{i j:Int}(a:C i j)(h:Q (g i j) H):rI C g (.int i) (.int j) H Q:=⟨i,j,rfl,rfl,a,h⟩
def rd_U{g:Int->V}{i:Int}(h:Q (g i) H):rU g (.int i) H Q:=⟨i,rfl,h⟩
def rd_EqI{i j:Int}(h:Q (.bl (decide (i=j))) H):lI (.int i) (.int j) H Q:=⟨rfl,by
 have e:decide (V.int i=V.int j)=decide (i=j):=by rw[DP];simp
 rw[e];exact h⟩
def rd_NeI{i j:Int}(h:Q (.bl (!decide (i=j))) H):me (.int i) (.int j) H Q:=⟨rfl,by
 have e:decide (V.int i=V.int j)=decide (i=j):=by rw[DP];simp
 rw[e];exact h⟩
def az{p:Vb}{i:Int}(e:ah K H p xs)(a:bZ xs i=Vo v)(h:Q v H):kz K (.ref p) (.int i) H Q:=⟨p,xs,i,v,rfl,rfl,e,a,h⟩
def aX{p:Vb}{i:Int}(e:ar K H p xs)(a:bZ xs i=Vo v)(h:Q v H):pd K (.ref p) (.int i) H Q:=⟨p,xs,i,v,rfl,rfl,e,a,h⟩
def eh{p:Vb}(e:ah K H p xs)(h:Q (.int xs.length) H):kJ K [.ref p] H Q:=⟨p,xs,rfl,.inl e,h⟩
def eM{p:Vb}(e:ar K H p xs)(h:Q (.int xs.length) H):kJ K [.ref p] H Q:=⟨p,xs,rfl,.inr e,h⟩
def eP{p:Vb}(e:ah K H p xs)(h:df H (.tup xs) Q):mS K [.ref p] H Q:=⟨p,xs,rfl,.inl ⟨e,h⟩⟩
def bY{x:V}{n:String}{b:Bool}(a:cp H x n)(hb:ft n T=Vo b)(h:Q (.bl b) H):sO [x,.ty T] H Q:=⟨x,n,T,b,rfl,a,hb,h⟩
def rd_intB{k:Bool}(h:Q (.int (if k then 1 else 0)) H):qr [.bl k] H Q:=.inr ⟨k,rfl,h⟩
def rd_max2{i j:Int}(h:Q (.int (if j>i then j else i)) H):vo [.int i,.int j] H Q:=⟨i,j,rfl,h⟩
def rd_min2{i j:Int}(h:Q (.int (if j<i then j else i)) H):sG [.int i,.int j] H Q:=⟨i,j,rfl,h⟩
def rd_call{a:TA}{E:XK}(h:a σ H λvs H1=>sp (vs++[]) H1 Q E):fZ sp [] E a σ H Q:=h
def rd_BM{r:V->List V->Hp->VK->Prop}{a:TA}(h:te σ H λx H1=>i6 K T x H1/\a σ H1 λxs H2=>r x xs H2 Q):mK K T r te a σ H Q:=h
def rd_tup{a:TA}(h:a σ H λxs H1=>xs.length<=sizeLine/\df H1 (.tup xs) Q):lN a σ H Q:=h
def rd_lst{a:TA}(h:a σ H λxs H1=>xs.length<=sizeLine/\df H1 (.lst xs) Q):lU a σ H Q:=h
def rd_sl{r:V->Option Int->Option Int->Hp->VK->Prop}{tl th:TO}(h:te σ H λx H1=>tl σ H1 λl H2=>th σ H2 λv a=>r x l v a Q):qF r te tl th σ H Q:=h
def rd_noPart{R:Option Int->Hp->Prop}(h:R Vp H):uS σ H R:=h
def rd_part{R:Option Int->Hp->Prop}(h:te σ H λx H1=>∃i,x=.int i/\R (Vo i) H1):rX te σ H R:=h
def rd_exi{i:Int}{R:Int->Prop}(h:R i):∃k,V.int i=V.int k/\R k:=⟨i,rfl,h⟩
def rd_chain{r a:R2}(h:ta σ H λx H1=>tb σ H1 λy H2=>r x y H2 λz b=>∃k,z=.bl k/\(if k=true then tc σ b λc d=>a y c d Q else Q (.bl false) b)):uw r a ta tb tc σ H Q:=h
def rd_comp{a:List Nat}{b:TI}(h:b σ H λJ H1=>gG J n a g c te σ H1 Q):kE n a b g c te σ H Q:=h
def rd_iL(h:te σ H λx H1=>pO K x H1 R):nZ K te σ H R:=h
def rd_iT(h:te σ H λx H1=>rM K x H1 R):nh K te σ H R:=h
def ff{p:Vb}(e:ah K H p xs)(h:R (dw K p) H):pO K (.ref p) H R:=⟨p,rfl,⟨xs,e⟩,h⟩
def fV{p:Vb}(e:ar K H p xs)(h:R (cH K p) H):rM K (.ref p) H R:=⟨p,rfl,⟨xs,e⟩,h⟩
def rd_i1{a:TA}(h:a σ H λvs H1=>qU vs H1 R):qG a σ H R:=h
def er{j:Int}(h1:-(2 ^ 62)<=j/\j<2 ^ 62)(h:R (eJ 0 j.toNat) H):qU [.int j] H R:=⟨j,rfl,h1.1,h1.2,h⟩
def rd_for{a:TI}(h:a σ H λJ H1=>i7 J g t D σ H1):qS a g t D σ H:=h
def cG{l:Vb}{y:V}(e:H l=Vo (.lst xs))(a:xs.length<sizeLine)(h:Q .non (upd H l (.lst (xs++[y])))):rJ (.ref l) [y] H Q:=⟨l,xs,y,rfl,rfl,e,a,h⟩
def iB{p:Vb}(e:ah K H p xs):i6 K "list" (.ref p) H:=.inl ⟨rfl,xs,e⟩
def kr{g:dj}{R:St->Hp->Prop}(e:ar K H a xs)(b:xs.length=n)(h:g xs σ H R):lH K n g (.ref a) σ H R:=⟨a,xs,rfl,e,b,h⟩
def rd_gcons{b:dj}{r:List V}{R:St->Hp->Prop}(h:g v σ H λa H'=>b r a H' R):pG g b (v::r) σ H R:=⟨v,r,rfl,h⟩
def rd_gnil{R:St->Hp->Prop}(h:R σ H):uU [] σ H R:=⟨rfl,h⟩
def cK{l b:Vb}{zs:List V}(a:H l=Vo (.lst xs))(c:H b=Vo (.lst zs))(d:xs.length+zs.length<=sizeLine)(h:df H (.lst (xs++zs)) Q):kX (.ref l) (.ref b) H Q:=⟨l,b,xs,zs,rfl,rfl,a,c,d,h⟩
def mw{l:Vb}{k:Int}(e:H l=Vo (.lst xs))(b:0<=k/\k<10 ^ 6)(a:xs.length*k.toNat<=sizeLine)(h:df H (.lst (DV k.toNat xs).flatten) Q):qO (.ref l) (.int k) H Q:=
 ⟨l,k,xs,rfl,rfl,e,by omega,by omega,a,h⟩
def fu(e:ah K H a xs)(h:df H (.lst (bG xs lo hi)) Q):kQ K (.ref a) lo hi H Q:=⟨a,xs,rfl,e,h⟩
def aP{o:HO}{R:VK}(h:∀p H',Ext H H'->H' p=Vo o->H p=Vp->R (.ref p) H'):df H o R:=λp a=>
 h p _ (λb u e=>by rw[aY (du e a)];exact e) bg a
def bu{p:Vb}{o:HO}(a:H p=Vp):Ext H (upd H p o):=λb u e=>by rw[aY (du e a)];exact e
def ah.ext{p:Vb}(e:Ext H H')(h:ah K H p xs):ah K H' p xs:=by
 rcases h with(h|⟨o,h⟩)|h
 .exact .inl (.inl (e _ _ h))
 .exact .inl (.inr ⟨o,e _ _ h⟩)
 .exact .inr h
end
def zO{α:Type}{xs:List α}{i:Int}{v:α}(a:0<=i)(h:xs[i.toNat]?=Vo v):bZ xs i=Vo v:=by
 have:=ck h
 rwa [Int.toNat_of_nonneg a]at this
def dM:V->PyData->Prop
 | .non,.none=>True
 | .bl b,.bool c=>b=c
 | .int i,.int j=>i=j
 | .str x,.str y=>x=y/\(PyData.str y).canLay0=true
 | _,_=>False
def bf(H:Hp):Nat->V->PyData->Prop
 | 0,x,d=>dM x d
 | n+1,x,d=>dM x d\/∃a xs ds,x=.ref a/\((H a=Vo (.tup xs)/\d=.tuple ds)\/(H a=Vo (.lst xs)/\d=.list ds))/\Paired (bf H n) xs ds
section
variable {X:Cx} {pins:List (Vb×Obj)} {σ:St} {H:Hp} {s:Vc}
def dM.reads{x:V}{d:PyData}(h:dM x d)(r:RelV x u):∃a,Reads s.heap u d a:=by
 cases x with
 | non=>cases d<;>first|exact False.elim h|(cases r;exact⟨_,.none⟩)
 | bl b=>cases d<;>first|exact False.elim h|(cases(show b=_ from h);cases r;exact⟨_,.bool _⟩)
 | int i=>cases d<;>first|exact False.elim h|(cases(show i=_ from h);obtain⟨t,rfl⟩:=r;exact⟨_,.int _ t⟩)
 | str z=>cases d<;>first|exact False.elim h|(cases(show z=_/\_ from h).1;obtain⟨t,rfl⟩:=r;exact⟨_,.str _ t⟩)
 | _=>cases d<;>exact False.elim h
def dM.lay{x:V}{d:PyData}(h:dM x d):d.canLay0=true/\d.depth=0:=by cases x<;>cases d<;>first|exact False.elim h|exact ⟨rfl,rfl⟩|exact ⟨h.2,rfl⟩
theorem kS{R:V->PyData->Prop}(b:∀{x:V} {d:PyData} {u:Va},R x d->RelV x u->∃a,Reads s.heap u d a):∀{xs:List V} {ds:List PyData} {us:List Va},Paired R xs ds->Vals xs us->∃a,ReadsAll s.heap us ds a
 | _,_,_,.nil,.nil=>⟨_,.nil⟩
 | _,_,_,.cons h t,.cons r rt=>by obtain⟨a,ha⟩:=b h r;obtain⟨bs,hb⟩:=kS b t rt;exact⟨_,.cons ha hb⟩
theorem bf.reads(I:Inv X pins σ H s):∀(n:Nat) {x:V} {d:PyData} {u:Va},bf H n x d->RelV x u->∃b,Reads s.heap u d b
 | 0,_,_,_,h,r=>dM.reads h r
 | n+1,x,d,u,h,r=>by
  rcases h with h|⟨a,xs,ds,rfl,i,g⟩
  .exact dM.reads h r
  .cases r;rcases i with⟨e,rfl⟩|⟨e,rfl⟩
   .obtain⟨c,f,⟨o,ho,j,k,hd⟩,_⟩:=I.tuple (ar.of e);obtain⟨b,ha⟩:=kS (λ{x d u}=>bf.reads I n) g f;exact⟨_,.tuple ho j hd (by simpa using ha)⟩
   .obtain⟨c,k,f,ho,_⟩:=I.lst e;obtain⟨b,ha⟩:=kS (λ{x d u}=>bf.reads I n) g f;exact⟨_,.list ho rfl rfl (by simpa using ha)⟩
theorem j7{R:V->PyData->Prop}{m:Nat}(a:∀{x:V} {d:PyData},R x d->d.canLay0=true/\d.depth<=m):∀{xs:List V} {ds:List PyData},Paired R xs ds->PyData.canLayAll0 ds=true/\PyData.depthAll ds<=m
 | _,_,.nil=>⟨rfl,Nat.zero_le _⟩
 | _,_,.cons h t=>by
  obtain⟨h1,h2⟩:=a h;obtain⟨b,c⟩:=j7 a t;refine⟨?_,?_⟩
  .simp only[PyData.canLayAll0,h1,b,Bool.and_self]
  .simp only[PyData.depthAll];exact Nat.max_le.mpr ⟨h2,c⟩
theorem bf.lay:∀(n:Nat) {x:V} {d:PyData},bf H n x d->d.canLay0=true/\d.depth<=n
 | 0,_,_,h=>⟨(dM.lay h).1,Nat.le_of_eq (dM.lay h).2⟩
 | n+1,x,d,h=>by
  rcases h with h|⟨a,xs,ds,rfl,b,c⟩
  .exact⟨(dM.lay h).1,by rw[(dM.lay h).2];exact Nat.zero_le _⟩
  .obtain⟨h1,h2⟩:=j7 (λ{x d}=>bf.lay n) c;rcases b with⟨e,rfl⟩|⟨e,rfl⟩
   .exact⟨h1,Nat.succ_le_succ h2⟩
   .exact⟨h1,Nat.succ_le_succ h2⟩
def pe(neg:Bool):R2:=λx y H Q=>∃n m d e,bf H n x d/\bf H m y e/\n<=50/\Q (.bl (if neg then !PyData.eqv d e else PyData.eqv d e)) H
def CU{k:Nat}(a:Room k X.A):bh X (compareOp .Eq) (pe false):=by intro pins s σ H x y v u Q I b c h;obtain⟨n,m,d,e,h1,h2,f,q⟩:=h;obtain⟨i,ra⟩:=bf.reads I n h1 b;obtain⟨bs,g⟩:=bf.reads I m h2 c;have l1:=bf.lay n h1;have l2:=bf.lay m h2;have j:=a.units;have l:min d.depth e.depth<=50:=DM (Nat.min_le_left _ _) (DM l1.2 f);exact SeqAt.compareEq_reads ra g l1.1 l2.1 (by omega) ⟨.bl _,H,I,rfl,q⟩
def BN{k:Nat}(a:Room k X.A):bh X (compareOp .NotEq) (pe true):=by intro pins s σ H x y v u Q I b c h;obtain⟨n,m,d,e,h1,h2,f,q⟩:=h;obtain⟨i,ra⟩:=bf.reads I n h1 b;obtain⟨bs,g⟩:=bf.reads I m h2 c;have l1:=bf.lay n h1;have l2:=bf.lay m h2;have j:=a.units;have l:min d.depth e.depth<=50:=DM (Nat.min_le_left _ _) (DM l1.2 f);exact SeqAt.compareNe_reads ra g l1.1 l2.1 (by omega) ⟨.bl _,H,I,rfl,q⟩
end
def wV(K:Dd):List V->Hp->VK->Prop:=λxs H Q=>∃(p:Vb) (bs:List Bool),xs=[.ref p]/\ah K H p (bs.map V.bl)/\Q (.bl (bs.all id)) H
theorem pN:∀{bs:List Bool} {us:List Va},Vals (bs.map V.bl) us->us=bs.map Value.bool
 | [],_,r=>by cases r;rfl
 | b::bs,_,r=>by
  cases r with
  | cons r t=>cases r;rw[pN t];rfl
def all_range(bs:List Bool):((Ed bs.length).all λi=>bs.getD i false)=bs.all id:=by
 rw[DP,DO,DO];constructor
 .intro h b hb;obtain⟨i,hi,e⟩:=List.mem_iff_getElem.mp hb;have:=h i (List.mem_range.mpr hi);rw[List.getD_eq_getElem?_getD,Di hi]at this;rw[<-e];exact this
 .intro h i hi;have a:=List.mem_range.mp hi;rw[List.getD_eq_getElem?_getD,Di a];exact h _ (DI a)
def gr(K:Dd)(t:X.calm=true)(w:X.K=K:=by rfl):bN X (.builtin "all") (wV K):=by
 subst w;intro pins s σ H xs us Q I r h;obtain⟨p,bs,rfl,x,q⟩:=h;obtain⟨u,rfl,y⟩:=vals1 r;cases y;obtain⟨d,k,pl,P⟩:=I.list x;have z:=pN k;have f:p≠s.heap.objs.size:=DB (by obtain⟨o,n,e,_⟩:=pl;exact Dg e);refine call_all_walk (wpAny_pyIter_list pl.isList ?_);have B:Inv X pins σ H { s with heap:=s.heap.push { cls:=.type "list_iterator",data:=.fields #[.ref p,.int 0 0] } }:=I.kept (t':=s.toks) λb o e=>De _ e;have C:=I.fpOk (H':=H) (DC s.heap.objs.size) I.fresh;refine⟨s.heap.objs.size,_,_,_,_,_,(λi=>bs.getD i false),rfl,Walks.list (A:=X.A.in1) (I.ok.hd t) _ p f d.toArray,⟨⟨_,Df _ rfl,rfl,rfl⟩,?_⟩,?_,λh' tk E=>?_⟩
 .exact pl.isList.push _
 .intro i v s' F R l G;rw[z]at l;have a:(bs.map Value.bool)[i]?=Vo v:=by simpa using l
  rw[Dj]at a;cases g:bs[i]? with
  | none=>rw[g]at a;cases a
  | some b=>
   rw[g]at a;cases a;have j:bs.getD i false=b:=by rw[List.getD_eq_getElem?_getD,g];rfl
   have c:F (bs.getD i false) s':=G;rw[j]at c;exact wpAny_truthy_bool c
 .obtain⟨J,L,S,M,N,O⟩:=C;have m:=k.length;rw[Dh]at m;refine⟨.bl (bs.all id),H,B.turned (it:=s.heap.objs.size) (λb o hb e=>E b o (by simpa using hb) e) J L M N O,?_,q⟩;show Value.bool _=Value.bool _;rw[Dm,<-m,all_range]
section
variable {prog:Vd} {w:Ve} {A:Vi} {E:Va->Vc->Prop} {s:Vc}
def Az{it t:Vb}{i:Nat}{x:Va}(c:s.heap.IsTupleIter it t i)(gt:s.heap.IsTuple t ys)(d:ys[i]?=Vo x)
  (q:∀h',h'.IsTupleIter it t (i+1)->Heap.SameBut it s.heap h'->Q x { s with heap:=h' }):Vf (Vg prog w) A (Builtin.SmallTypes.nextOf (.ref it)) Q E s:=by
 obtain⟨u,b,e,a⟩:=id c;obtain⟨v,f,_,k,g⟩:=gt;unfold Builtin.SmallTypes.nextOf;refine CZ (Ec (name:=DR "__next__") c.typeIs F.slot_tuple_iterator_next (wpAny_call_entry F.slot_tuple_iterator_next c.typeIs F.entry_tuple_iterator_next ?_ (F.args_tuple_iterator_next_1 _)));show Vf _ _ (field (Value.ref it) 0 >>= _) _ _ s;refine CZ (wpAny_field b a (x:=Value.ref t) rfl ?_);show Vf _ _ (if(Value.ref t == Value.none)=true then _ else _) _ _ s;rw[Eg (show ¬(Value.ref t == Value.none)=true from Dy)];show Vf _ _ (field (Value.ref it) 1 >>= _) _ _ s;refine CZ (wpAny_field b a (x:=Value.int i 0) rfl ?_);show Vf _ _ (seqItems? (Value.ref t) >>= _) _ _ s;refine CZ (wpAny_seqItems f g ?_);simp only[Dv,d];refine CZ (wpAny_setField b a (by simp) (Dc ⟨x,rfl,Dc (q _ ?_ (Heap.SameBut.update ..))⟩));exact⟨_,Heap.get?_update_self _ b (Obj.isFreed_of_fields (Obj.data_mapFields a _)),(Obj.cls_mapFields ..).trans e,by rw[Obj.data_mapFields a];simp[rawInt]⟩
def zK{it t:Vb}{i:Nat}{Q:Va->Vc->Prop}(f:A.handled=Vp)(b:s.heap.IsTupleIter it t i)(gt:s.heap.IsTuple t ys)(g:ys[i]?=Vp)
  (q:∀h' e,Heap.ExtBut it s.heap h'->(∃o,h'.get? e=Vo o/\o.cls=.type "StopIteration")->E (.ref e) { s with heap:=h' }):Vf (Vg prog w) A (Builtin.SmallTypes.nextOf (.ref it)) Q E s:=by
 obtain⟨u,c,l,d⟩:=id b;obtain⟨v,h,_,k,j⟩:=gt;unfold Builtin.SmallTypes.nextOf;refine CZ (Ec (name:=DR "__next__") b.typeIs F.slot_tuple_iterator_next (wpAny_call_entry F.slot_tuple_iterator_next b.typeIs F.entry_tuple_iterator_next ?_ (F.args_tuple_iterator_next_1 _)));show Vf _ _ (field (Value.ref it) 0 >>= _) _ _ s;refine CZ (wpAny_field c d (x:=Value.ref t) rfl ?_);show Vf _ _ (if(Value.ref t == Value.none)=true then _ else _) _ _ s;rw[Eg (show ¬(Value.ref t == Value.none)=true from Dy)];show Vf _ _ (field (Value.ref it) 1 >>= _) _ _ s;refine CZ (wpAny_field c d (x:=Value.int i 0) rfl ?_);show Vf _ _ (seqItems? (Value.ref t) >>= _) _ _ s;refine CZ (wpAny_seqItems h j ?_);simp only[Dv,g];refine CZ (wpAny_rule (CZ (wpAny_setField c d (by simp) ?_)));show Vf _ _ (newExc (Value.type "StopIteration") [] >>= _) _ _ _;refine CZ ?_;simp only[newExc,newTuple];refine CZ (wpAny_newObj_type (hd:=by size_fits) ?_);refine CZ (m:=firstArgMember _ _) (wpAny_of_eq (a:=Value.none) (by first|rfl|(unfold firstArgMember;rfl)) ?_);refine wpAny_newObj_type (hd:=by size_fits) ?_;simp only[raiseNew];refine CZ (wpAny_handled ?_)
 first|rw [show Around.handled A.in1=Vp from f]|rw [f]
 refine CZ (Dc (wpAny_throw ?_));exact q _ _ (((Heap.SameBut.update ..).extBut.push _).push _) ⟨_,Df _ rfl,rfl⟩
end
structure Sub(P:Vd)(w:Ve)(K:Dd)(J:It)(it:Vb)(tn:Nat->Vh->Prop):Prop where
 obj:∀i h,tn i h->∃o,h.get? it=Vo o/\∀v,o.data≠.cell v
 keep:∀i h h',tn i h->(∀o,h.get? it=Vo o->h'.get? it=Vo o)->tn i h'
 item:∀(X:Cx),X.prog=P->X.w=w->X.K=K->∀(A:Vi) (i:Nat) (pins:List (Vb×Obj)) (s:Vc) (σ:St) (H:Hp) (Q:Va->Vc->Prop) (E:Va->Vc->Prop),Inv X pins σ H s->bL X pins H it->tn i s.heap->J.go i H ->
  (∀x u h',Inv X pins σ H { s with heap:=h' }->RelV x u->J.yld i H x H->tn (i+1) h'->Heap.SameBut it s.heap h'->Q u { s with heap:=h' })->Vf (Vg P w) A (Builtin.SmallTypes.nextOf (.ref it)) Q E s
 done:∀(X:Cx),X.prog=P->X.w=w->X.K=K->∀(A:Vi),A.handled=Vp->∀(i:Nat) (pins:List (Vb×Obj)) (s:Vc) (σ:St) (H:Hp) (Q:Va->Vc->Prop) (E:Va->Vc->Prop),Inv X pins σ H s->bL X pins H it->tn i s.heap->J.stop i H ->
  (∀h' e,Heap.ExtBut it s.heap h'->(∃o,h'.get? e=Vo o/\o.cls=.type "StopIteration")->E (.ref e) { s with heap:=h' })->Vf (Vg P w) A (Builtin.SmallTypes.nextOf (.ref it)) Q E s
def rO{K:Dd}(a it:Vb):Sub P w K (dw K a) it (λi h=>h.IsListIter it a i) where
 obj:=λi h st=>by obtain⟨o,e,c,d⟩:=st;exact⟨o,e,λv z=>by rw[d]at z;cases z⟩
 keep:=λi h h' st k=>st.at k
 item:=by intro X g j l A i pins s σ H Q E I B st m C;subst g j l;obtain⟨xs,x,f,n⟩:=m;obtain⟨r,t,p,F⟩:=I.list f;obtain⟨u,G,J⟩:=t.get n;obtain⟨L,M,W,N,O,R⟩:=B;exact wpAny_nextOf_list_item st p.isList (x:=u) (by simpa using G) λh' y sb=>C x u h' (I.turned (t':=s.toks) (it:=it) (λb o hb e=>(sb.2 b hb).trans e) L M N O R) J ⟨rfl,λys S=>by rw[I.list_inj S f];exact n⟩ y sb
 done:=by intro X g j l A T i pins s σ H Q E I B st m U;subst g j l;obtain⟨xs,f,n⟩:=m;obtain⟨r,t,p,F⟩:=I.list f;have Y:=t.length;exact wpAny_nextOf_list_end T st p.isList (by simp;omega) U
def vn{K:Dd}(a it:Vb):Sub P w K (cH K a) it (λi h=>h.IsTupleIter it a i) where
 obj:=λi h st=>by obtain⟨o,e,c,d⟩:=st;exact⟨o,e,λv z=>by rw[d]at z;cases z⟩
 keep:=λi h h' st k=>st.at k
 item:=by intro X j l m A i pins s σ H Q E I B st n C;subst j l m;obtain⟨xs,x,g,r⟩:=n;obtain⟨f,t,p,F⟩:=I.tuple g;obtain⟨u,G,J⟩:=t.get r;obtain⟨L,M,W,N,O,R⟩:=B;exact Az st (show s.heap.IsTuple a f.toArray from p) (x:=u) (by simpa using G) λh' y sb=>C x u h' (I.turned (t':=s.toks) (it:=it) (λb o hb e=>(sb.2 b hb).trans e) L M N O R) J ⟨rfl,λys S=>by rw[I.tuple_inj S g];exact r⟩ y sb
 done:=by intro X j l m A T i pins s σ H Q E I B st n U;subst j l m;obtain⟨xs,g,r⟩:=n;obtain⟨f,t,p,F⟩:=I.tuple g;have Y:=t.length;exact zK T st (show s.heap.IsTuple a f.toArray from p) (by simp;omega) U
def gQ(a b:It):It:=⟨λi H=>a.go i H/\b.go i H,λi H x H'=>∃p u v,x=.ref p/\H p=Vp/\H'=upd H p (.tup [u,v])/\a.yld i H u H/\b.yld i H v H,λi H=>a.stop i H\/(a.go i H/\b.stop i H)⟩
structure Apart(z TI TO i1 i2:Vb):Prop where
 a:TI≠z
 b:TO≠z
 c:i1≠z
 d:i2≠z
 e:TI≠TO
 f:TI≠i1
 g:TI≠i2
 h:TO≠i1
 i:TO≠i2
 j:i1≠i2
section
variable {X:Cx} {pins:List (Vb×Obj)} {σ:St} {H:Hp} {s:Vc}
def Inv.same{it:Vb}{k:Vh}(I:Inv X pins σ H { s with heap:=k })(f:bL X pins H it)(b:Heap.ExtBut it k h'):Inv X pins σ H { s with heap:=h' }:=by obtain⟨a,d,j,g,h,i⟩:=f;exact Inv.turned (s:={ s with heap:=k }) (t':=s.toks) (it:=it) I (λc o hb e=>b c o hb e) a d g h i
def Cw{Y Z:It}{z TI TO:Vb}{O P:Nat->Vh->Prop}{A:Vi}{E:Va->Vc->Prop}{a b:Va}{i:Nat}{Q:Va->Vc->Prop}(B:Sub X.prog X.w X.K Y i1 O)(R:Sub X.prog X.w X.K Z i2 P)(N:Apart z TI TO i1 i2)
  (I:Inv X pins σ H s) (S:∀b∈[z,TI,TO,i1,i2],bL X pins H b) (F:IsZip s.heap z TI TO .none) (gI:IsPair s.heap TI (.ref i1) (.ref i2)) (gO:IsPair s.heap TO a b) (g1:O i s.heap) (g2:P i s.heap) (a0:Y.go i H) (go2:Z.go i H)
  (q:∀x y h',Inv X pins σ (upd H s.heap.objs.size (.tup [x,y])) { s with heap:=h' }->Y.yld i H x H->Z.yld i H y H->IsZip h' z TI TO (rawInt s.heap.objs.size)->IsPair h' TI (.ref i1) (.ref i2)->(∃a b,IsPair h' TO a b)->O (i+1) h'->P (i+1) h'->Q (.ref s.heap.objs.size) { s with heap:=h' }) :
  Vf (Vg X.prog X.w) A (Builtin.«zip.__next__» ⟨[.ref z],[]⟩) (λfin s'=>∃v,fin=.done (.ret v)/\Q v s') E s:=by
 have fz:=S z (by simp);have fO:=S TO (by simp);have f1:=S i1 (by simp);have f2:=S i2 (by simp);show Vf _ _ (field (Value.ref z) 2 >>= _) _ _ _;refine CZ (wpAny_field F rfl (x:=Value.bool false) rfl ?_);show Vf _ _ (field (Value.ref z) 3 >>= _) _ _ _;refine CZ (wpAny_field F rfl (x:=Value.ref TI) rfl ?_);refine CZ (wpAny_seqItems gI rfl ?_);show Vf _ _ (Builtin.SmallTypes.ownedTupleIsFree (Value.ref z) >>= _) _ _ _;refine CZ ?_;unfold Builtin.SmallTypes.ownedTupleIsFree;refine CZ (wpAny_field F rfl (x:=Value.none) rfl (Dc ?_));simp only[if_true];refine CZ (wpAny_rule ?_);refine CZ (wpAny_field F rfl (x:=Value.ref TO) rfl ?_);refine CZ (wpAny_setField_rec F (by simp) λk1 n b1=>?_)
 replace n:IsZip k1 z TI TO .ellipsis:=n
 have s1:=b1.1
 replace b1:=b1.extBut
 have I1:Inv X pins σ H { s with heap:=k1 }:=Inv.same (show Inv X pins σ H { s with heap:=s.heap }from I) fz b1;refine CZ ?_;simp only[List.zipIdx_cons,List.zipIdx_nil,List.forIn_cons,List.forIn_nil];refine CZ (CZ (wpAny_onRaise ?_));show Vf _ _ (Builtin.SmallTypes.nextOf (Value.ref i1) >>= _) _ _ _;refine CZ (B.item X rfl rfl rfl _ i pins _ σ H _ _ I1 f1 (B.keep i _ _ g1 λo e=>b1 _ _ N.c e) a0 λx C k2 I2 rx yx a1 p=>Dc ?_)
 replace I2:Inv X pins σ H { s with heap:=k2 }:=I2
 have s2:=p.1
 replace p:=p.extBut
 have G:IsPair k2 TO a b:=p _ _ N.h (b1 _ _ N.b gO);refine CZ (wpAny_seqItems G rfl ?_);refine CZ (wpAny_updateSeq_pair G λk3 r b3=>?_)
 replace r:IsPair k3 TO C b:=r
 have s3:=b3.1
 replace b3:=b3.extBut
 have I3:Inv X pins σ H { s with heap:=k3 }:=Inv.same I2 fO b3;refine CZ (wpAny_letGo (Dc ?_));refine CZ (CZ (wpAny_onRaise ?_));show Vf _ _ (Builtin.SmallTypes.nextOf (Value.ref i2) >>= _) _ _ _;refine CZ (R.item X rfl rfl rfl _ i pins _ σ H _ _ I3 f2 (R.keep i _ _ g2 λo e=>b3 _ _ (Ne.symm N.i) (p _ _ (Ne.symm N.j) (b1 _ _ N.d e))) go2 λy T k4 I4 ry yy a2 t=>Dc ?_)
 replace I4:Inv X pins σ H { s with heap:=k4 }:=I4
 have s4:=t.1
 replace t:=t.extBut
 have J:IsPair k4 TO C b:=t _ _ N.i r;refine CZ (wpAny_seqItems J rfl ?_);refine CZ (wpAny_updateSeq_pair J λk5 k m=>?_)
 replace k:IsPair k5 TO C T:=k
 have s5:=m.1
 replace m:=m.extBut
 have I5:Inv X pins σ H { s with heap:=k5 }:=Inv.same I4 fO m;refine CZ (wpAny_letGo (Dc (Dc ?_)));refine CZ (wpAny_seqItems k rfl ?_);refine CZ (wpAny_newTuple ?_);have sz:k5.objs.size=s.heap.objs.size:=by rw[s5,s4,s3,s2,s1]
 have L:IsZip k5 z TI TO .ellipsis:=m _ _ (Ne.symm N.b) (t _ _ (Ne.symm N.d) (b3 _ _ (Ne.symm N.b) (p _ _ (Ne.symm N.c) n)));have a3:IsPair k5 TI (.ref i1) (.ref i2):=m _ _ N.e (t _ _ N.g (b3 _ _ N.e (p _ _ N.f (b1 _ _ N.a gI))));have a4:O (i+1) k5:=B.keep _ _ _ (B.keep _ _ _ (B.keep _ _ _ a1 λo e=>b3 _ _ (Ne.symm N.h) e) λo e=>t _ _ N.j e) λo e=>m _ _ (Ne.symm N.h) e;have a5:P (i+1) k5:=R.keep _ _ _ a2 λo e=>m _ _ (Ne.symm N.i) e;have lz:z<k5.objs.size:=Dg L;have I6:Inv X pins σ (upd H k5.objs.size (.tup [x,y])) { s with heap:=k5.push { cls:=.type "tuple",data:=.seq #[C,T] } }:=
  I5.laid (t':=s.toks) (o:=.tup [x,y]) (λb ob e=>De _ e) (DC _) ⟨by show 2<=sizeLine;decide,[C,T],.cons rx (.cons ry .nil),IsTup.new _ _⟩
 have M:bL X pins (upd H k5.objs.size (.tup [x,y])) z:=by obtain⟨c0,c1,c2,c3,c4,c5⟩:=fz;exact⟨by rw[aY (DB lz)];exact c0,c1,c2,c3,c4,c5⟩
 show Vf _ _ (Builtin.SmallTypes.ownedTupleHandOut (Value.ref z) (Value.ref k5.objs.size) >>= _) _ _ _;refine CZ ?_;unfold Builtin.SmallTypes.ownedTupleHandOut;have a6:IsZip (k5.push { cls:=.type "tuple",data:=.seq #[C,T] }) z TI TO .ellipsis:=De _ L;refine CZ (wpAny_setField_rec a6 (by simp) λk7 u U=>?_)
 replace u:IsZip k7 z TI TO (rawInt k5.objs.size):=u
 replace U:=U.extBut
 have I7:Inv X pins σ (upd H k5.objs.size (.tup [x,y])) { s with heap:=k7 }:=Inv.same I6 M U;refine wpAny_setField_rec u (by simp) λk8 l W=>?_
 replace l:IsZip k8 z TI TO (rawInt k5.objs.size):=l
 replace W:=W.extBut
 have I8:Inv X pins σ (upd H k5.objs.size (.tup [x,y])) { s with heap:=k8 }:=Inv.same I7 M W;have up:∀b o,b≠z->k5.get? b=Vo o->k8.get? b=Vo o:=λb o ne e=>W _ _ ne (U _ _ ne (De _ e));rw[sz]at I8 l;refine Dc ⟨_,rfl,?_⟩;show Q (.ref k5.objs.size) _;rw[sz];exact q x y k8 I8 yx yy l (up _ _ N.a a3) ⟨_,_,up _ _ N.b k⟩ (B.keep _ _ _ a4 λo e=>up _ o N.c e) (R.keep _ _ _ a5 λo e=>up _ o N.d e)
def yX{y M:It}{z TI TO:Vb}{B O:Nat->Vh->Prop}{E:Va->Vc->Prop}{a b:Va}{i:Nat}{Q:Fin->Vc->Prop}(P:A.handled=Vp)(C:Sub X.prog X.w X.K y i1 B)(R:Sub X.prog X.w X.K M i2 O)(N:Apart z TI TO i1 i2)
  (I:Inv X pins σ H s) (v:∀b∈[z,TI,TO,i1,i2],bL X pins H b) (m:IsZip s.heap z TI TO .none) (Y:IsPair s.heap TI (.ref i1) (.ref i2)) (Z:IsPair s.heap TO a b) (g1:B i s.heap) (g2:O i s.heap) (st:y.stop i H\/(y.go i H/\M.stop i H))
  (q:∀h' e,Inv X pins σ H { s with heap:=h' }->(∃o,h'.get? e=Vo o/\o.cls=.type "StopIteration")->E (.ref e) { s with heap:=h' }) :
  Vf (Vg X.prog X.w) A (Builtin.«zip.__next__» ⟨[.ref z],[]⟩) Q E s:=by
 have F:=v z (by simp);have fO:=v TO (by simp);have G:=v i1 (by simp);have S:=v i2 (by simp);show Vf _ _ (field (Value.ref z) 2 >>= _) _ _ _;refine CZ (wpAny_field m rfl (x:=Value.bool false) rfl ?_);show Vf _ _ (field (Value.ref z) 3 >>= _) _ _ _;refine CZ (wpAny_field m rfl (x:=Value.ref TI) rfl ?_);refine CZ (wpAny_seqItems Y rfl ?_);show Vf _ _ (Builtin.SmallTypes.ownedTupleIsFree (Value.ref z) >>= _) _ _ _;refine CZ ?_;unfold Builtin.SmallTypes.ownedTupleIsFree;refine CZ (wpAny_field m rfl (x:=Value.none) rfl (Dc ?_));simp only[if_true];refine CZ (wpAny_rule ?_);refine CZ (wpAny_field m rfl (x:=Value.ref TO) rfl ?_);refine CZ (wpAny_setField_rec m (by simp) λk1 k b1=>?_)
 replace k:IsZip k1 z TI TO .ellipsis:=k
 replace b1:=b1.extBut
 have J:Inv X pins σ H { s with heap:=k1 }:=Inv.same (show Inv X pins σ H { s with heap:=s.heap }from I) F b1;refine CZ ?_;simp only[List.zipIdx_cons,List.zipIdx_nil,List.forIn_cons,List.forIn_nil];refine CZ (CZ (wpAny_onRaise ?_));show Vf _ _ (Builtin.SmallTypes.nextOf (Value.ref i1) >>= _) _ _ _;have n:B i k1:=C.keep i _ _ g1 λo e=>b1 _ _ N.c e;rcases st with st|⟨go,st⟩
 .refine CZ (C.done X rfl rfl rfl _ P i pins _ σ H _ _ J G n st λk2 e l L=>?_);obtain⟨oe,f,g⟩:=L;have p:IsZip k2 z TI TO .ellipsis:=l _ _ (Ne.symm N.c) k;have r:Inv X pins σ H { s with heap:=k2 }:=Inv.same J G l;have ne:e≠z:=λx=>by subst x;rw[p]at f;cases f;simp at g
  exact wpAny_setField_rec p (by simp) λk3 _ b3=>q k3 e (Inv.same r F b3.extBut) ⟨oe,b3.extBut _ _ ne f,g⟩
 .refine CZ (C.item X rfl rfl rfl _ i pins _ σ H _ _ J G n go λx ux k2 r rx yx a0 l=>Dc ?_)
  replace r:Inv X pins σ H { s with heap:=k2 }:=r
  replace l:=l.extBut
  have t:IsPair k2 TO a b:=l _ _ N.h (b1 _ _ N.b Z);refine CZ (wpAny_seqItems t rfl ?_);refine CZ (wpAny_updateSeq_pair t λk3 a1 b3=>?_)
  replace b3:=b3.extBut
  have T:Inv X pins σ H { s with heap:=k3 }:=Inv.same r fO b3;refine CZ (wpAny_letGo (Dc ?_));refine CZ (CZ (wpAny_onRaise ?_));show Vf _ _ (Builtin.SmallTypes.nextOf (Value.ref i2) >>= _) _ _ _;refine CZ (R.done X rfl rfl rfl _ P i pins _ σ H _ _ T S (R.keep i _ _ g2 λo e=>b3 _ _ (Ne.symm N.i) (l _ _ (Ne.symm N.j) (b1 _ _ N.d e))) st λk4 e U L=>?_);obtain⟨oe,f,g⟩:=L;have u:IsZip k4 z TI TO .ellipsis:=U _ _ (Ne.symm N.d) (b3 _ _ (Ne.symm N.b) (l _ _ (Ne.symm N.c) k));have I4:Inv X pins σ H { s with heap:=k4 }:=Inv.same T S U;have ne:e≠z:=λx=>by subst x;rw[u]at f;cases f;simp at g
  exact wpAny_setField_rec u (by simp) λk5 _ W=>q k5 e (Inv.same I4 F W.extBut) ⟨oe,W.extBut _ _ ne f,g⟩
end
def BV{K:Dd}{elts:List Vk}{kk:Nat}{ps:Pos}{S U:It}{z TI TO:Vb}{W Y:Nat->Vh->Prop}(p:Sub P w K S i1 W)(r:Sub P w K U i2 Y)(N:Apart z TI TO i1 i2):
  Turn P w K (.Tuple elts kk ps) (gQ S U) [z,TI,TO,i1,i2] z (λi h=>IsZip h z TI TO .none/\IsPair h TI (.ref i1) (.ref i2)/\(∃a b,IsPair h TO a b)/\W i h/\Y i h) where
 mem:=by simp
 obj:=λi h st b hb=>by
  obtain⟨f,g,⟨a,c,j⟩,l,m⟩:=st;simp only[Dw,DN,or_false]at hb;rcases hb with rfl|rfl|rfl|rfl|rfl
  .exact⟨_,f,λv e=>by cases(show Data.fields _=Data.cell v from e)⟩
  .exact⟨_,g,λv e=>by cases(show Data.seq _ _=Data.cell v from e)⟩
  .exact⟨_,j,λv e=>by cases(show Data.seq _ _=Data.cell v from e)⟩
  .exact p.obj _ _ l
  .exact r.obj _ _ m
 keep:=λi h h' st k=>by obtain⟨f,g,⟨a,c,j⟩,l,m⟩:=st;exact⟨k z (by simp) _ f,k TI (by simp) _ g,⟨a,c,k TO (by simp) _ j⟩,p.keep _ _ _ l λo e=>k i1 (by simp) o e,r.keep _ _ _ m λo e=>k i2 (by simp) o e⟩
 item:=by
  intro X B C G Z i pins s σ H E I t st A;subst B C G;obtain⟨f,g,⟨a,c,j⟩,l,m⟩:=st;have u:s.TypeIs (.ref z) "zip":=⟨_,f,rfl⟩;unfold pyNext;refine CZ (wpAny_attempt (Ec (name:=DR "__next__") u F.slot_zip_next (wpAny_call_entry F.slot_zip_next u F.entry_zip_next
   (Cw p r N I t f g j l m A.1 A.2 λx y h' J yx yy L M n O Q=>Dc ⟨_,rfl,?_⟩) (F.args_zip_next_1 _))))
  have lt:∀b∈[z,TI,TO,i1,i2],b≠s.heap.objs.size:=λb hb=>by
   obtain⟨f0,f1,f2,f3,f4,f5⟩:=t b hb;simp only[Dw,DN,or_false]at hb;rcases hb with rfl|rfl|rfl|rfl|rfl
   .exact DB (Dg f)
   .exact DB (Dg g)
   .exact DB (Dg j)
   .obtain⟨o,e,_⟩:=p.obj _ _ l;exact DB (Dg e)
   .obtain⟨o,e,_⟩:=r.obj _ _ m;exact DB (Dg e)
  have fz:bL X pins (upd H s.heap.objs.size (.tup [x,y])) z:=by obtain⟨c0,c1,c2,c3,c4,c5⟩:=t z (by simp);exact⟨by rw[aY (lt z (by simp))];exact c0,c1,c2,c3,c4,c5⟩
  obtain⟨a',c',n⟩:=n;refine wpAny_letOwnedTupleGo_zip (s:={ s with heap:=h' }) L λk gk bk=>?_;refine⟨.ref s.heap.objs.size,upd H s.heap.objs.size (.tup [x,y]),Inv.same J fz bk.extBut,rfl,⟨_,x,y,rfl,I.hok.fresh (DC _),rfl,yx,yy⟩,
   ⟨gk,bk.extBut _ _ N.a M,⟨_,_,bk.extBut _ _ N.b n⟩,p.keep _ _ _ O λo e=>bk.extBut _ _ N.c e,r.keep _ _ _ Q λo e=>bk.extBut _ _ N.d e⟩,λb hb=>?_⟩
  rw[aY (lt b hb)];exact(t b hb).1
 done:=by
  intro X B C G Z i pins s σ H E I t st A;subst B C G;obtain⟨f,g,⟨a,c,j⟩,l,m⟩:=st;have u:s.TypeIs (.ref z) "zip":=⟨_,f,rfl⟩;unfold pyNext;refine CZ (wpAny_attempt (Ec (name:=DR "__next__") u F.slot_zip_next (wpAny_call_entry F.slot_zip_next u F.entry_zip_next
   (yX (I.ok.hd Z) p r N I t f g j l m A λh' e J he=>?_) (F.args_zip_next_1 _))))
  obtain⟨o,ho,R⟩:=he;refine CZ (wpAny_isInstance (s:={ s with heap:=h' }) (T:="StopIteration") (b:=true) ⟨o,ho,R⟩ isSubtype_stop ?_);exact Dc ⟨rfl,J⟩
 self:=λ_ _ _ _ _ st h=>wpAny_pyIter_zip st.1 h
abbrev j4(h:Vh)(a:Vb):Vh:=h.push { cls:=.type "tuple_iterator",data:=.fields #[.ref a,.int 0 0] }
abbrev kH(h:Vh)(a b:Vb):Vh:=(j4 h a).push { cls:=.type "tuple_iterator",data:=.fields #[.ref b,.int 0 0] }
abbrev j6(h:Vh)(a b:Vb):Vh:=(kH h a b).push { cls:=.type "tuple",data:=.seq #[.ref h.objs.size,.ref (j4 h a).objs.size] }
abbrev jn(h:Vh)(a b:Vb):Vh:=(j6 h a b).push { cls:=.type "tuple",data:=.seq #[.none,.none] }
abbrev iG(h:Vh)(a b:Vb):Vh:=(jn h a b).push { cls:=.type "zip",data:=.fields #[.none,.bool false,.bool false,.ref (kH h a b).objs.size,.ref (j6 h a b).objs.size] }
def BU(a b:Vb)(xs ys:Array Va):Meets (Builtin.«zip.__new__» ⟨[.type "zip",.ref a,.ref b],[]⟩) (λ_ R s=>s.heap.IsTuple a xs/\s.heap.IsTuple b ys/\R (.ok (.ret (.ref (jn s.heap a b).objs.size))) { s with heap:=iG s.heap a b }):=
 .of_wp λprog w A R s q=>by
  obtain⟨c,g,d,tk,os⟩:=s;obtain⟨ga,f,q⟩:=q;have e:=sub_zip;have h:Heap.IsTuple (Shared.heap ⟨c,g,d,tk,os⟩) a xs:=ga;have i:Heap.IsTuple (Shared.heap ⟨c.push { cls:=.type "tuple_iterator",data:=.fields #[.ref a,.int 0 0] },g,d,tk,os⟩) b ys:=Heap.IsTuple.push f _
  wp_walk using wpAny_pyIter_tuple h,wpAny_pyIter_tuple i
  exact⟨_,rfl,q⟩
def Aa{prog:Vd}{w:Ve}{A:Vi}{E:Va->Vc->Prop}{b:Vb}{xs:Array Va}(ga:s.heap.IsTuple a xs)(h:s.heap.IsTuple b ys)
  (q:∀h',IsZip h' (s.heap.objs.size+4) (s.heap.objs.size+2) (s.heap.objs.size+3) .none->IsPair h' (s.heap.objs.size+2) (.ref s.heap.objs.size) (.ref (s.heap.objs.size+1))->IsPair h' (s.heap.objs.size+3) .none .none ->
   h'.IsTupleIter s.heap.objs.size a 0->h'.IsTupleIter (s.heap.objs.size+1) b 0->(∀c o,s.heap.get? c=Vo o->h'.get? c=Vo o)->Q (.ref (s.heap.objs.size+4)) { s with heap:=h' }) :
  Vf (Vg prog w) A (call (.type "zip") [.ref a,.ref b]) Q E s:=by
 refine callType_new F.called_zip (by decide) (F.typeCall_zip_2 _ _) (F.newCall_zip_2 _ _) (λi=>F.args_object_init_3 i _ _) F.entry_zip_new (BU a b xs ys) ⟨ga,h,?_⟩;have d:(j4 s.heap a).objs.size=s.heap.objs.size+1:=Heap.size_push ..;have e:(kH s.heap a b).objs.size=s.heap.objs.size+2:=by rw[Heap.size_push,d]
 have f:(j6 s.heap a b).objs.size=s.heap.objs.size+3:=by rw[Heap.size_push,e]
 have g:(jn s.heap a b).objs.size=s.heap.objs.size+4:=by rw[Heap.size_push,f]
 have k5:(iG s.heap a b).get? (jn s.heap a b).objs.size=Vo _:=Df _ rfl;have k4:(iG s.heap a b).get? (j6 s.heap a b).objs.size=Vo _:=De _ (Df _ rfl);have k3:(iG s.heap a b).get? (kH s.heap a b).objs.size=Vo _:=De _ (De _ (Df _ rfl));have k2:(iG s.heap a b).get? (j4 s.heap a).objs.size=Vo _:=De _ (De _ (De _ (Df _ rfl)));have k1:(iG s.heap a b).get? s.heap.objs.size=Vo _:=De _ (De _ (De _ (De _ (Df _ rfl))));show _/\_;rw[e,f,g]at k5;rw[d,e]at k3;rw[f]at k4;rw[d]at k2;rw[g];exact⟨⟨_,k5,rfl⟩,q _ k5 k3 k4 ⟨_,k1,rfl,rfl⟩ ⟨_,k2,rfl,rfl⟩ λc o x=>De _ (De _ (De _ (De _ (De _ x))))⟩
section
variable {K:Dd} {σ:St} {H:Hp} {Q:VK}
def lg(K:Dd):List V->Hp->(It->Hp->Prop)->Prop:=λvs H R=>∃a b xs ys,vs=[.ref a,.ref b]/\((ar K H a xs/\ar K H b ys/\R (gQ (cH K a) (cH K b)) H)\/(ah K H a xs/\ah K H b ys/\R (gQ (dw K a) (dw K b)) H))
def pT(K:Dd)(ta:TA):TI:=λσ H R=>ta σ H λvs H1=>lg K vs H1 R
def xh{elts:List Vk}{kk:Nat}{ps:Pos}(K:Dd){a b:Vk}{ta:TA}{p pos:Pos}(J:Gl X "zip")(L:X.mg "zip" = Vp)(ha:PA X [a,b] ta)(M:X.K=K:=by rfl)(hs:starEach [a,b] X.env=[(false,eval a X.env),(false,eval b X.env)]:=by rfl)(i:starEach [b] X.env=[(false,eval b X.env)]:=by rfl):
  PI X (.Tuple elts kk ps) (.Call (.Name "zip" p) [a,b] [] pos) (pT K ta):=by
 subst M;intro pins s σ H R I h;refine Call_ (iP I J L PyProof.Rows.boot_zip (PyProof.Rows.callWith_type1 (aw (ha pos pins s σ H _ I h) λus s1 ⟨vs,H1,f,r1,x⟩=>?_) (by rw[hs,i]) (by rw[i];rfl)));obtain⟨l,m,xs,ys,e,x⟩:=x;subst e;cases r1 with
 | cons r y=>
  cases y with
  | cons O y=>
   cases y;cases r;cases O;have mk:∀{z B:It} {C E:Nat->Vh->Prop},Sub X.prog X.w X.K z s1.heap.objs.size C->Sub X.prog X.w X.K B (s1.heap.objs.size+1) E->∀h',IsZip h' (s1.heap.objs.size+4) (s1.heap.objs.size+2) (s1.heap.objs.size+3) .none->IsPair h' (s1.heap.objs.size+2) (.ref s1.heap.objs.size) (.ref (s1.heap.objs.size+1)) ->
     IsPair h' (s1.heap.objs.size+3) .none .none->C 0 h'->E 0 h'->(∀c o,s1.heap.get? c=Vo o->h'.get? c=Vo o)->R (gQ z B) H1->Vf (Vg X.prog X.w) X.A (pyIter (.ref (s1.heap.objs.size+4))) (lZ X pins σ (.Tuple elts kk ps) R) X.xe { s1 with heap:=h' }:=by
    intro z B C E P Q h' g j n t u k q;refine wpAny_pyIter_zip (s:={ s1 with heap:=h' }) g ?_;have N:Apart (s1.heap.objs.size+4) (s1.heap.objs.size+2) (s1.heap.objs.size+3) s1.heap.objs.size (s1.heap.objs.size+1):=by constructor<;>(intro h;have h':@Eq Nat _ _:=h;omega)
    refine⟨s1.heap.objs.size+4,[s1.heap.objs.size+4,s1.heap.objs.size+2,s1.heap.objs.size+3,s1.heap.objs.size,s1.heap.objs.size+1],_,_,H1,rfl,f.kept (t':=s1.toks) k,BV P Q N,⟨g,j,⟨_,_,n⟩,t,u⟩,λb hb=>?_,q⟩;have le:@LE.le Nat _ s1.heap.objs.size b:=by
     simp only[Dw,DN,or_false]at hb;rcases hb with rfl|rfl|rfl|rfl|rfl
     .exact Nat.le_add_right _ _
     .exact Nat.le_add_right _ _
     .exact Nat.le_add_right _ _
     .exact DC _
     .exact Nat.le_add_right _ _
    exact f.fpOk le (f.hok.fresh le)
   rcases x with⟨ga,F,q⟩|⟨ga,F,q⟩
   .obtain⟨v,_,G,_⟩:=f.tuple ga;obtain⟨d,_,p2,_⟩:=f.tuple F;exact Aa (show s1.heap.IsTuple l v.toArray from G) (show s1.heap.IsTuple m d.toArray from p2) λh' g j n t u k=>mk (vn l _) (vn m _) h' g j n t u k q
   .obtain⟨v,_,G,_⟩:=f.list ga;obtain⟨d,_,p2,_⟩:=f.list F;exact call_zip_2 G.isList p2.isList λh' g j n t u _ k=>mk (rO l _) (rO m _) h' g j n t u k q
def rd_zip{a:TA}(h:a σ H λvs H1=>lg K vs H1 R):pT K a σ H R:=h
def Ab{b:Vb}{ys:List V}(ha:ar K H a xs)(hb:ar K H b ys)(h:R (gQ (cH K a) (cH K b)) H):lg K [.ref a,.ref b] H R:=⟨a,b,xs,ys,rfl,.inl ⟨ha,hb,h⟩⟩
def AF{b:Vb}{ys:List V}{k:List Nat}{te:TE}(Pv:Nat->List V->Hp->Prop)(G:xs.length<=sizeLine)(r:Pv 0 [] H)(s:∀i zs H,Pv i zs H->ar K H a xs/\ar K H b ys/\zs.length<=i)
  (hs:∀i u v zs H p H',xs[i]?=Vo u->ys[i]?=Vo v->Pv i zs H->Ext H H'->H' p=Vo (.tup [u,v])->H p=Vp->g (.ref p) (bO n k σ) H' λc t=>tc c t λb l=>if b=true then te c l λv w=>Pv (i+1) (zs++[v]) w else Pv (i+1) zs l)
  (hd:∀zs H p,Pv (min xs.length ys.length) zs H->H p=Vp->Q (.ref p) (upd H p (.lst zs))):gG (gQ (cH K a) (cH K b)) n k g tc te σ H Q:=by
 refine⟨λi m zs H=>m=min xs.length ys.length-i/\i<=min xs.length ys.length/\Pv i zs H,⟨min xs.length ys.length,by simp,Nat.zero_le _,r⟩,?_⟩;rintro i m zs H ⟨rfl,hi,p⟩;obtain⟨d,f,I⟩:=s i zs H p;by_cases hlt:i<min xs.length ys.length
 .have z:i<xs.length:=by omega
  have A:i<ys.length:=by omega
  refine .inr ⟨⟨⟨xs,xs[i],d,by simp[z]⟩,⟨ys,ys[i],f,by simp[A]⟩⟩,by omega,Pv (i+1),λB H' j=>⟨min xs.length ys.length-(i+1),by omega,rfl,hlt,j⟩,λx H' y=>?_⟩;obtain⟨pp,u,v,rfl,o,rfl,C,E⟩:=y;exact hs i u v zs H pp _ (C.2 xs d) (E.2 ys f) p (bu o) bg o
 .have e:i=min xs.length ys.length:=by omega
  refine .inl ⟨?_,λj F=>hd zs H j (e ▸ p) F⟩;by_cases h:xs.length<=i
  .exact .inl ⟨xs,d,h⟩
  .exact .inr ⟨⟨xs,xs[i]'(by omega),d,Di (by omega)⟩,⟨ys,f,by omega⟩⟩
end
def zZ{t:Vb}{a b:Va}(gt:IsTup s.heap t ys)(c:s.heap.IsSliceOf sl a b .none)(pl:IsPart a lo)(pu:IsPart b hi)
  (d:HT.aG ys.size 0 lo=0/\HT.aG ys.size ys.size hi=ys.size) (q:Q (.ref t) s):Vf (Vg prog w) A (getItem (.ref t) (.ref sl)) Q E s:=by
 obtain⟨u,e,f,h⟩:=id c;have g:s.TypeIs (.ref sl) "slice":=⟨u,e,f⟩;unfold getItem
 try with_reducible refine wpAny_holding ?_
 first|refine CZ (Dc ?_)|skip
 refine CZ (wpAny_sequenceKey gt.typeIs (by decide) ?_);refine CZ (Ec (name:=DR "__getitem__") gt.typeIs PyProof.Rows.slot_tuple_getitem (wpAny_call_entry PyProof.Rows.slot_tuple_getitem gt.typeIs entry_tuple_getitem ?_ (args_tuple_getitem _ _)));show Vf _ _ (Builtin.Tuple.tupleItemsOf (Value.ref t) >>= _) _ _ s;refine CZ (tupleItemsOf_ gt ?_);refine CZ (wpAny_typeOf g ?_);rw[Eh (by decide)];refine CZ (HT.sY c pl pu ?_);show Vf _ _ (if(((HT.aG ys.size 0 lo:Nat):Int) == 0 && (1:Int) == 1 && (HT.aG ys.size ys.size hi-HT.aG ys.size 0 lo) == ys.size)=true then _ else _) _ _ s;rw[Eh (by rw[d.1,d.2];simp)];show Vf _ _ (Builtin.Tuple.tupleIsExact (Value.ref t) >>= _) _ _ s;unfold Builtin.Tuple.tupleIsExact;refine CZ (CZ (wpAny_typeOf gt.typeIs (Dc ?_)));rw[Eh (by decide)];refine CZ (wpAny_rule ?_);exact Dc ⟨_,rfl,Dc q⟩
def vE:V->Option Int->Option Int->Hp->VK->Prop:=λx lo hi H Q=>∃a xs,x=.ref a/\H a=Vo (.tup xs)/\∀p H',Ext H H'->H' p=Vo (.tup (bG xs lo hi))->Q (.ref p) H'
def By:iC X vE:=by
 intro pins s σ H x v g i lo hi sl Q I e hs pl pu h;obtain⟨a,xs,rfl,c,q⟩:=h;by_cases b:HT.aG xs.length 0 lo=0/\HT.aG xs.length xs.length hi=xs.length
 .cases e;obtain⟨d,r,f,k⟩:=I.tuple (ar.of c);have hlen:d.toArray.size=xs.length:=by rw[Dm];exact r.length.symm
  refine⟨"tuple",_,PyProof.Rows.slot_tuple_getitem.lookup,f.typeIs,?_⟩;refine zZ f hs pl pu (by rw[hlen];exact b) ⟨.ref a,H,I,rfl,q a H (Ext.rfl' H) ?_⟩;have:bG xs lo hi=xs:=by unfold bG;rw[b.1,b.2,List.drop_zero,Nat.sub_zero,DK]
  rw[this];exact c
 .exact zw pins s σ H (.ref a) v g i lo hi sl Q I e hs pl pu ⟨a,xs,rfl,ar.of c,b,λp j=>q p _ (bu j) bg⟩
def yD{Q:VK}(e:H a=Vo (.tup xs))(h:∀p H',Ext H H'->H' p=Vo (.tup (bG xs lo hi))->Q (.ref p) H'):vE (.ref a) lo hi H Q:=⟨a,xs,rfl,e,h⟩
mutual
inductive LitE:Vk->TE->Prop
 | non {j pos}:LitE (.Constant .none j pos) (tC .non)
 | bl {b j pos}:LitE (.Constant (.bool b) j pos) (tC (.bl b))
 | int {i j pos}:LitE (.Constant (.int i) j pos) (tC (.int i))
 | str {x j pos}:LitE (.Constant (.str x) j pos) (tC (.str x))
 | tup {es ta k pos}:LitsE es ta->LitE (.Tuple es k pos) (lN ta)
inductive LitsE:List Vk->TA->Prop
 | nil:LitsE [] iD
 | cons {e te es ta}:LitE e te->LitsE es ta->LitsE (e::es) (j8 te ta)
end
section
variable {prog:Vd} {w:Ve} {A:Vi} {E:Va->Vc->Prop}
theorem tq{it l:Vb}{ys:Array Va}(ne:l≠it):∀(n i:Nat) (s:Vc) (Q:List Va->Vc->Prop),s.heap.IsListIter it l i->s.heap.IsList l ys->i+n<=ys.size ->
  (∀h',h'.IsListIter it l (i+n)->Heap.SameBut it s.heap h'->Q ((ys.toList.drop i).take n) { s with heap:=h' })->Vf (Vg prog w) A (draw (.ref it) n) Q E s
 | 0,i,s,Q,a,_,_,q=>by show Vf _ _ (pure []) Q E s;exact Dc (by simpa using q s.heap a (Heap.SameBut.refl ..))
 | n+1,i,s,Q,a,gl,le,q=>by
  have lt:i<ys.size:=by omega
  show Vf _ _ (pyNext (Value.ref it) >>= _) Q E s;refine CZ (wpAny_pyNext_list_item a gl (x:=ys[i]) (by simp[lt]) λk1 b b1=>?_);refine CZ (wpAny_holding (tq ne n (i+1) _ _ b (gl.extBut b1.extBut ne) (by omega) λk2 c d=>Dc ?_));have e:ys.toList.drop i=ys[i]::ys.toList.drop (i+1):=by simp[List.drop_eq_getElem_cons,lt]
  have:=q k2 (by rw[show i+(n+1)=i+1+n by omega];exact c) (b1.trans d);rw[e,List.take_succ_cons]at this;exact this
def zy{l:Vb}{Q:List Va->Vc->Prop}(a:A.handled=Vp)(gl:s.heap.IsList l ys)
  (q:∀h',Heap.ExtBut s.heap.objs.size s.heap h'->Q ys.toList { s with heap:=h' }):Vf (Vg prog w) A (unpackItems (.ref l) ys.size Vp) Q E s:=by
 have lt:l≠s.heap.objs.size:=by obtain⟨o,e,_⟩:=gl;exact DB (Dg e)
 unfold unpackItems;refine CZ ?_;unfold notIterableAtAll;refine CZ (wpAny_specialOf gl.typeIs slot_list_iter.lookup ?_);refine Dc ?_;simp only[DW,if_false];refine CZ (wpAny_holding (wpAny_pyIter_list gl ?_));refine CZ (wpAny_holding (tq lt ys.size 0 _ _ ⟨_,Df _ rfl,rfl,rfl⟩ (gl.push _) (by omega) λk1 c b1=>?_));rw[show List.take ys.size (List.drop 0 ys.toList)=ys.toList by rw[List.drop_zero];exact List.take_of_length_le (by simp),Eg (by simp)];refine CZ (wpAny_holding (wpAny_pyNext_list_end a c ((gl.push _).extBut b1.extBut lt) (by simp) λk2 d=>?_));simp only[Option.isSome_none,DW,if_false];exact Dc (q k2 λb o nb e=>d b o nb (b1.extBut b o nb (De _ e)))
def B2{es:List Vk}{k:Nat}{pos:Pos}{l:Vb}{Q:Unit->Vc->Prop}(b:A.handled=Vp)(gl:s.heap.IsList l ys)(c:(assignEach es env).length=ys.size)(a:(assignEach es env).findIdx? (·.1)=Vp)
  (h:∀h',Heap.ExtBut s.heap.objs.size s.heap h'->Vf (Vg prog w) A (assignInOrder ((assignEach es env).map (·.2)) ys.toList) Q E { s with heap:=h' }):Vf (Vg prog w) A (assign (.Tuple es k pos) env (.ref l)) Q E s:=by
 rw[arm_assign_Tuple];refine CZ (wpAny_standAt ?_);unfold unpack;rw[c,a];exact CZ (wpAny_holding (zy b gl h))
end
section
variable {X:Cx} {pos:Pos}
def vT(K:Dd)(n:Nat)(t:dj):TG:=λv σ H Q=>∃a xs,v=.ref a/\ah K H a xs/\xs.length=n/\t xs σ H Q
def AG{es:List Vk}{k:Nat}{t:dj}(K:Dd)(g:X.calm=true)(h:iz X es t)(i:X.K=K:=by rfl)
  (j:(assignEach es X.env).length=n:=by rfl) (c:(assignEach es X.env).findIdx? (·.1)=Vp:=by rfl):PG X (.Tuple es k pos) (vT K n t):=by
 subst i;intro pins s σ H v u Q I r d;obtain⟨a,xs,l,m,p,d⟩:=d;subst l;cases r;obtain⟨w,f,x,A⟩:=I.list m;refine B2 (I.ok.hd g) x.isList (by simp[j,<-p,f.length]) c λh' y=>?_;have z:Inv X pins σ H { s with heap:=h' }:=I.kept (t':=s.toks) λb o e=>y b o (DB (Dg e)) e;exact h pins _ σ H xs _ Q z (by simpa using f) d
end
def zG{K:Dd}{g:dj}{R:St->Hp->Prop}(e:ah K H a xs)(b:xs.length=n)(h:g xs σ H R):vT K n g (.ref a) σ H R:=⟨a,xs,rfl,e,b,h⟩
def rd_par{i j:Nat}{ta:TA}{D:Ends}(h:ta σ H λvs H1=>∃v w,vs=[v,w]/\D.nx ((σ.set i (Vo v)).set j (Vo w)) H1):tu i j ta D σ H:=h
def rd_par2{w:V}{R:V->V->Prop}(h:R v w):∃a b,[v,w]=[a,b]/\R a b:=⟨v,w,rfl,h⟩
section
variable {κ:Type} [DecidableEq κ]
def cI(kvs:List (κ×V))(k:κ):Option V:=(kvs.find? λkv=>decide (kv.1=k)).map (·.2)
def AZ{k:κ}:cI ([]:List (κ×V)) k=Vp:=rfl
def CH{p:κ×V}{r:List (κ×V)}{k:κ}(e:p.1=k):cI (p::r) k=Vo p.2:=by simp[cI,List.find?_cons,e]
def jb{p:κ×V}{r:List (κ×V)}{k:κ}(e:¬p.1=k):cI (p::r) k=cI r k:=by simp[cI,List.find?_cons,e]
def gU.isSome_eq{o:Option V}{u:Option Va}(r:gU o u):o.isSome=u.isSome:=by
 cases o with
 | none=>cases u with
  | none=>rfl
  | some _=>exact(show False from r).elim
 | some _=>cases u with
  | none=>exact(show False from r).elim
  | some _=>rfl
def KV.val{kvs:List (κ×V)}{vs:List (κ×Va)}(r:KV kvs vs)(k:κ):gU (cI kvs k) (valueAt vs k):=by
 unfold KV at r;induction r with
 | nil=>exact True.intro
 | @cons p q ps a h t d=>
  obtain⟨h1,h2⟩:=h;by_cases e:p.1=k
  .have c:q.1=k:=h1.symm.trans e;have b:valueAt (q::a) k=Vo q.2:=by simp[valueAt,List.find?_cons,c]
   rw[CH e,b];exact h2
  .have c:¬q.1=k:=λz=>e (h1.trans z);have b:valueAt (q::a) k=valueAt a k:=by simp[valueAt,List.find?_cons,c]
   rw[jb e,b];exact d
def KV.keys{kvs:List (κ×V)}{vs:List (κ×Va)}(r:KV kvs vs):kvs.map (·.1)=vs.map (·.1):=by
 unfold KV at r;induction r with
 | nil=>rfl
 | cons h t a=>rw[List.map_cons,List.map_cons,a,h.1]
end
def sx{k:Key}(r:RelV (kV k) u):(aN P w).is k u=true:=by
 cases k with
 | inl i=>obtain⟨t,e⟩:=(show ∃t,u=Value.int i t from r);subst e;exact zi P w i t
 | inr x=>obtain⟨t,e⟩:=(show ∃t,u=Value.str x t from r);subst e;exact og P w x t
theorem vR{P:Vd}{w:Ve}:∀{ks:List Key} {us:List Va},Vals (ks.map kV) us->ItemsAre (aN P w) ks us
 | [],_,r=>by rw[List.map_nil]at r;cases r;exact .nil
 | k::ks,_,r=>by
  rw[List.map_cons]at r;cases r with
  | cons h t=>exact .cons (sx h) (vR t)
def wR(o:Obj)(f:Array Va->Array Va):(o.mapFields f).dict=o.dict:=by unfold Obj.mapFields;split<;>rfl
def cb(h:Vh)(x:Vb)(dd:Option Vb):Prop:=∃o vs,h.get? x=Vo o/\o.data=.fields vs/\vs[2]?=Vo .none/\∀d,dd=Vo d->o.dict=Vo d
section
variable {prog:Vd} {w:Ve} {A:Vi} {E:Va->Vc->Prop} {s:Vc} {dd:Option Vb}
def cb.keeps{x:Vb}(a:cb h x dd)(k:∀b o,h.get? b=Vo o->h'.get? b=Vo o):cb h' x dd:=let ⟨o,vs,e,r⟩:=a;⟨o,vs,k _ _ e,r⟩
end
section
variable {M:Model} {A:Vi} {E:Va->Vc->Prop} {s:Vc} {dd:Option Vb}
def cb.eq{x:Vb}(a:cb h x dd)(k:h'.get? x=h.get? x):cb h' x dd:=let ⟨o,vs,e,r⟩:=a;⟨o,vs,k.trans e,r⟩
def jh{B:Vh}{e:Vb}{p:Va}{Q:Unit->Vc->Prop}(k:B.StaysIn s.heap)(r:s.heap.FunFrames B l)(t:s.heap.TracedAtW B e cls a0 p)(al:cb s.heap e dd)
  (q:∀h',B.StaysIn h'->h'.FunFrames B l->h'.TracedW B e cls a0->s.heap.UpToSlots h'->cb h' e dd->Q () { s with heap:=h' }):Vf M A (setFlight (.ref e) Vp) Q E s:=by
 obtain⟨oe,vs,T,x,ts,h,u,i,j,m,d,g,c,v⟩:=t;have z:3<ts.size:=(Array.getElem?_eq_some_iff.mp v).1;have S:=Heap.SameBut.update s.heap T (Obj.mapFields (·.setIfInBounds 3 ((Vp:Option Vb).elim Value.none λf=>rawInt f)));have n:∀b o,s.heap.get? b=Vo o->(∀us,o.data≠.fields us)->b≠T:=by rintro b o hb a rfl;rw[g]at hb;cases hb;exact a ts c
 have w:(Value.ref T != Value.none)=true:=by simp
 unfold setFlight;refine CZ (wpAny_field h i j ?_);rw[Eh w];refine wpAny_setField g c z (q _ (λb o hb=>(S.2 b ?_).trans (k b o hb)) (r.of_keeps λb o hb a=>⟨o,(S.2 b (n b o hb a)).trans hb,rfl⟩) ?_ (λb o hb a=>⟨o.slots,(S.2 b (n b o hb a)).trans hb⟩) (al.eq (S.2 e (Ne.symm d))))
 .rintro rfl;rw[m]at hb;cases hb
 .exact⟨oe,vs,T,_,_,(S.2 e (Ne.symm d)).trans h,u,i,j,m,d,Heap.get?_update_self _ g (Obj.isFreed_of_fields (Obj.data_mapFields c _)),Obj.data_mapFields c _,by simp[z]⟩
def ml{B:Vh}{e:Vb}{oe:Obj}{vs:Array Va}{head:Va}{more:Bool}{Q:Unit->Vc->Prop}(i:A.frames=Vo (env::outer))(g:s.heap.FunFrames B (env::outer))(F:env.frame=Vo L)
  (j:s.heap.get? e=Vo oe) (k:B.StaysIn s.heap) (l:B.get? e=Vp) (c:oe.data=.fields vs) (z:1<vs.size) (G:vs[0]?=Vo a0) (h2:vs[2]?=Vo .none) (m:∀d,dd=Vo d->oe.dict=Vo d)
  (q:∀h',Heap.NotedW B (env::outer) e oe.cls a0 (rawInt L) s.heap h'->cb h' e dd->Q () { s with heap:=h' }) :
  Vf M A (frameOf env >>= λa=>entryPlaceOf L more >>= λpl=>EntryCells.newEntry head a .none (rawInt L) .none pl >>= λb=>setField (.ref e) 1 b) Q E s:=by
 have ne:e∉(env::outer).filterMap (·.frame):=λn=>by obtain⟨_,o,ho,f⟩:=g.mem n;rw[j]at ho;cases ho;exact f vs c
 refine CZ (wpAny_frameOf_fun i g F λh1 p=>CZ (wpAny_entryPlaceOf λpl r=>CZ ?_));unfold EntryCells.newEntry newFields;refine wpAny_newObj_type ?_ (r.sizeOk5 _ _ _ _ _);have u:(([head,.ref L,.none,rawInt L,.none]++(if pl.isEmpty then DV 6 Value.none else pl)).toArray)[3]?=Vo (rawInt L):=by simp
 generalize ([head,.ref L,.none,rawInt L,.none]++(if pl.isEmpty then DV 6 Value.none else pl)).toArray=ts at u ⊢;have v:h1.get? e=Vo oe:=(p.2.1 e ne).trans j;have k1:B.StaysIn h1:=λb o hb=>(p.2.1 b λn=>by rw[(g.mem n).1]at hb;cases hb).trans (k b o hb);have w:h1.objs.size≠e:=Nat.ne_of_gt (Dg v);have x:=De (h:=h1) { cls:=.type "traceback",dict:=Vp,data:=.fields ts } v;have H:=Df h1 (o:={ cls:=.type "traceback",dict:=Vp,data:=.fields ts }) rfl;refine wpAny_setField x c z (q _ ?_ ?_)
 all_goals
  have t:=Heap.SameBut.update (h1.push { cls:=.type "traceback",dict:=Vp,data:=.fields ts }) e (Obj.mapFields (·.setIfInBounds 1 (Value.ref h1.objs.size)));have y:=Heap.get?_update_self (Obj.mapFields (·.setIfInBounds 1 (Value.ref h1.objs.size))) x (Obj.isFreed_of_fields (Obj.data_mapFields c _));have C:=Obj.data_mapFields c (·.setIfInBounds 1 (Value.ref h1.objs.size))
 .have up:∀b o,s.heap.get? b=Vo o->(∀us,o.data≠.fields us)->∃sl,((h1.push { cls:=.type "traceback",dict:=Vp,data:=.fields ts }).update e (Obj.mapFields (·.setIfInBounds 1 (Value.ref h1.objs.size)))).get? b=Vo { o with slots:=sl }:=λb o hb f=>by
   obtain⟨sl,hs⟩:=p.2.2 b o hb;have nb:b≠e:=by rintro rfl;rw[j]at hb;cases hb;exact f vs c
   exact⟨sl,(t.2 b nb).trans (De _ hs)⟩
  refine⟨λb o hb=>?_,g.of_keeps λb o hb f=>?_,⟨_,_,h1.objs.size,_,ts,y,⟨Obj.cls_mapFields ..,?_⟩,C,?_,k1.fresh,w,(t.2 _ w).trans H,rfl,u⟩,up⟩
  .have nb:b≠e:=by rintro rfl;rw[l]at hb;cases hb
   exact(t.2 b nb).trans (De _ (k1 b o hb))
  .obtain⟨sl,z⟩:=up b o hb f;exact⟨_,z,rfl⟩
  .rw[Array.getElem?_setIfInBounds_ne (by decide)];exact G
  .simp[z]
 .refine⟨_,_,y,C,by rw[Array.getElem?_setIfInBounds_ne (by decide)];exact h2,λd z=>?_⟩;rw[<-m d z];exact wR ..
def lW{B:Vh}{e:Vb}{Q:Unit->Vc->Prop}(h:A.frames=Vo (env::outer))(r:env.frame=Vo L)(w:Heap.FlyingW B (env::outer) e cls a0 s.heap)(al:cb s.heap e dd)
  (q:∀h',Heap.HeldW B (env::outer) e cls a0 L h'->s.heap.UpToSlots h'->cb h' e dd->Q () { s with heap:=h' }):Vf M A (noteFrame (.ref e) env) Q E s:=by
 obtain⟨k,c,x,oe,vs,T,K,ts,i,⟨rfl,y⟩,j,t,C,F,l,m,u⟩:=w;have h2:vs[2]?=Vo .none/\∀d,dd=Vo d->oe.dict=Vo d:=by obtain⟨o',G,f,g,n⟩:=al;rw[i]at f;cases f;rw[j]at g;cases g;exact n
 have z:3<ts.size:=(Array.getElem?_eq_some_iff.mp u).1;have S:=Heap.SameBut.update s.heap T (Obj.mapFields (·.setIfInBounds 3 Value.none));have v:∀b o,s.heap.get? b=Vo o->(∀us,o.data≠.fields us)->b≠T:=by rintro b o hb a rfl;rw[l]at hb;cases hb;exact a ts m
 have H:(Value.ref T != Value.none)=true:=by simp
 have I:¬((Value.none == rawInt L)=true):=by simp[rawInt]
 unfold noteFrame;simp only[r];refine CZ (wpAny_field i j t ?_);rw[Eh H];refine CZ (wpAny_field l m u ?_);rw[Eg I];refine CZ (wpAny_setField l m z ?_);refine ml h (x.of_keeps λb o hb a=>⟨o,(S.2 b (v b o hb a)).trans hb,rfl⟩) r ((S.2 e (Ne.symm F)).trans i) (λb o hb=>(S.2 b ?_).trans (k b o hb)) c j (Array.getElem?_eq_some_iff.mp t).1 y h2.1 h2.2 λh' N p=>?_
 .rintro rfl;rw[C]at hb;cases hb
 .obtain⟨f,g,n,J⟩:=N;exact q h' ⟨f,c,g,n⟩ (λb o hb a=>J b o ((S.2 b (v b o hb a)).trans hb) a) p
def uP{B:Vh}{e:Vb}{Q:Unit->Vc->Prop}(g:Heap.HeldW B l e cls a0 L s.heap)(al:cb s.heap e dd)
  (q:∀h',Heap.FlyingW B l e cls a0 h'->s.heap.UpToSlots h'->cb h' e dd->Q () { s with heap:=h' }):Vf M A (setFlight (.ref e) Vp) Q E s:=
 jh g.1 g.2.2.1 g.2.2.2 al λh' a b c d f=>q h' ⟨a,g.2.1,b,c⟩ d f
def AK{B:Vh}{e:Vb}{Q:Unit->Vc->Prop}(g:Heap.FlyingW B l e cls a0 s.heap)(al:cb s.heap e dd)
  (q:∀h',Heap.FlyingW B l e cls a0 h'->s.heap.UpToSlots h'->cb h' e dd->Q () { s with heap:=h' }):Vf M A (setFlight (.ref e) Vp) Q E s:=
 jh g.1 g.2.2.1 g.2.2.2.at al λh' a b c d f=>q h' ⟨a,g.2.1,b,c⟩ d f
def wD{B:Vh}{e:Vb}{Q:Unit->Vc->Prop}(a:A.frames=Vo (env::outer))(b:env.frame=Vo L)(c:Heap.FlyingW B (env::outer) e cls a0 s.heap)(al:cb s.heap e dd)
  (q:∀h',Heap.FlyingW B outer e cls a0 h'->s.heap.UpToSlots h'->cb h' e dd->Q () { s with heap:=h' }):Vf M A (leaving env (.ref e)) Q E s:=by
 unfold leaving;refine CZ (lW a b c al λh1 H1 d a1=>uP (s:={ s with heap:=h1 }) H1 a1 λh2 f g a2=>?_);obtain⟨h,i,⟨_,_,j⟩,k⟩:=f;exact q h2 ⟨h,i,j,k⟩ (d.trans g) a2
structure MadeX(h h':Vh)(e:Vb)(cls:Va)(dd:Option Vb):Prop where
 keeps:∀b o,h.get? b=Vo o->h'.get? b=Vo o
 new:h.get? e=Vp
 there:∃oe vs t,h'.get? e=Vo oe/\oe.cls=cls/\oe.data=.fields vs/\vs[0]?=Vo (.ref t)/\vs[1]?=Vo .none/\vs[2]?=Vo .none/\1<vs.size/\∀d,dd=Vo d->oe.dict=Vo d
def MadeX.of{e:Vb}{args:List Va}(a:Heap.MadeExcOf h h' e cls args):MadeX h h' e cls Vp:=by obtain⟨t,b,_,_⟩:=a.there;exact⟨a.keeps,a.new,_,_,t,b,rfl,rfl,rfl,rfl,rfl,by simp,λ_ z=>by cases z⟩
def CI{B:Vh}{e:Vb}{Q:Unit->Vc->Prop}(c:A.frames=Vo (env::outer))(g:env.frame=Vo L)(k:B.StaysIn h)(j:h.FunFrames B (env::outer))(a:MadeX h s.heap e cls dd)
  (q:∀h' a0,Heap.FlyingW B outer e cls a0 h'->s.heap.UpToSlots h'->cb h' e dd->Q () { s with heap:=h' }):Vf M A (leaving env (.ref e)) Q E s:=by
 obtain⟨oe,vs,t,i,rfl,hd,l,h1,h2,m,d⟩:=a.there;have fresh:∀b,h.get? b=Vp->B.get? b=Vp:=λb hb=>by
  cases n:B.get? b with
  | none=>rfl
  | some o'=>exact absurd (k b o' n) (by rw[hb];intro z;cases z)
 unfold leaving noteFrame;simp only[g];refine CZ (CZ (wpAny_field (x:=.none) i hd h1 ?_));rw[Eg (by decide)];refine ml (a0:=.ref t) c (j.of_keeps λb o hb _=>⟨o,a.keeps b o hb,rfl⟩) g i (λb o hb=>a.keeps b o (k b o hb)) (fresh e a.new) hd m l h2 d λh1 N a1=>?_;obtain⟨p,r,u,v⟩:=N;refine jh (s:={ s with heap:=h1 }) p r u a1 λh2 w y C F G=>?_;obtain⟨_,_,f⟩:=y;exact q h2 _ ⟨w,fresh e a.new,f,C⟩ (Heap.UpToSlots.trans v F) G
end
def bV.obj{o:HO}(x:bV P w H h a o):∃b,h.get? a=Vo b:=by
 cases o with
 | lst xs=>obtain⟨_,_,_,_,e⟩:=x;exact⟨_,e⟩
 | tup xs=>obtain⟨_,_,_,b,e,_⟩:=x;exact⟨_,e⟩
 | dK kvs=>obtain⟨_,_,_,_,b,es,ep,e,_⟩:=x;exact⟨_,e⟩
 | dT kvs=>obtain⟨_,_,_,_,b,es,ep,e,_⟩:=x;exact⟨_,e⟩
 | set S n=>obtain⟨b,es,ep,t,e,_⟩:=x;exact⟨_,e⟩
 | ins C dx fs=>obtain⟨_,_,_,e,_⟩:=x;exact⟨_,e⟩
 | own y=>exact x
 | xd fs=>obtain⟨mA,c,_⟩:=x;obtain⟨b,es,ep,e,_⟩:=c;exact⟨_,e⟩
 | rng lo hi=>obtain⟨_,_,_,e⟩:=x;exact⟨_,e⟩
 | frz b u=>exact⟨_,x.1⟩
 | tbl ps=>exact⟨_,x⟩
 | met f y=>exact⟨_,x⟩
 | ext φ=>exact x.2.1
structure Fly(P:Vd)(w:Ve)(outer:List Env)(H:Hp)(s:Vc)(x:Vb)(cls:Va)(da:Option Vb)(H':Hp)(s':Vc):Prop where
 os:s'.os=s.os
 bare:AllBare s'.gens
 un:Un (aQ outer) [] H H' s.heap s'.heap
 hok:bC P w H' s'.heap
 new:H' x=Vp
 alone:cb s'.heap x da
 fly:∃B a0,Heap.FlyingW B outer x cls a0 s'.heap/\(∀b o,s'.heap.get? b=Vo o->H' b≠Vp->B.get? b=Vo o) ∧
  ∀b o o',s.heap.get? b=Vo o->b∉aQ outer->s'.heap.get? b=Vo o'->B.get? b=Vo o'
def aR(P:Vd)(w:Ve):dA:=λouter H s E e s'=>∃x cls da H',e=.ref x/\E cls da H'/\Fly P w outer H s x cls da H' s'
section
variable {P:Vd} {w:Ve} {K:Dd} {mg:Vn->Option Va} {base:Vh} {N:List Vn} {qual:Vn} {scope:Scope} {f:Vb} {cd:Va} {A:Vi} {outer:List Env} {s₀:Vc} {H₀:Hp} {E:XK}
def rS(h:env∈l)(e:env.frame=Vo a):a∈aQ l:=List.mem_filterMap.mpr ⟨env,h,e⟩
def zM{tk:Nat}{e:Vb}{da:Option Vb}(I:Inv (aS (aR P w) P w K mg base N qual scope f cd A outer s₀ H₀ E) pins σ H s)
  (l:MadeX s.heap h1 e cls da) (y:E cls da H):(aS (aR P w) P w K mg base N qual scope f cd A outer s₀ H₀ E).xe (.ref e) { s with heap:=h1,toks:=tk }:=by
 have stk:(aS (aR P w) P w K mg base N qual scope f cd A outer s₀ H₀ E).stack=envOfC qual scope s₀.heap.objs.size f cd::outer:=rfl;have C:∀b∈aQ (envOfC qual scope s₀.heap.objs.size f cd::outer),b∈aQ outer\/b=s₀.heap.objs.size:=λb hb=>by
  have:=I.stkSub b hb;rcases Dw.mp this with z|z
  .exact .inr z
  .exact .inl z
 have m:∀env∈(envOfC qual scope s₀.heap.objs.size f cd::outer),∀a,env.frame=Vo a->a∈aQ (envOfC qual scope s₀.heap.objs.size f cd::outer):=λenv F a ha=>rS F ha;have g:=PySem.W.funFrames_hide I.stack m;have low:∀b o,s₀.heap.get? b=Vo o->b∉aQ outer->b∉aQ (envOfC qual scope s₀.heap.objs.size f cd::outer):=λb o hb d p=>by
  rcases C b p with z|z
  .exact d z
  .exact absurd (Dg hb) (by rw[z];exact Nat.lt_irrefl _)
 refine CI (B:=PySem.W.hideAll s.heap (aQ (envOfC qual scope s₀.heap.objs.size f cd::outer))) (h:=s.heap) I.ok.frames rfl (λb o q=>PySem.W.of_hideAll _ q) g l λh' t x G J=>?_;have up:∀b∈aQ (envOfC qual scope s₀.heap.objs.size f cd::outer),∀o,s.heap.get? b=Vo o->∃sl,h'.get? b=Vo { o with slots:=sl }:=λb hb o ho=>by obtain⟨_,o',i,hd⟩:=g.mem hb;rw[ho]at i;cases i;exact G b o (l.keeps b o ho) hd
 have stay:∀b o,b∉aQ (envOfC qual scope s₀.heap.objs.size f cd::outer)->s.heap.get? b=Vo o->h'.get? b=Vo o:=λb o d ho=>x.1 b o (PySem.W.hideAll_get _ ho d);have fL:∀b,H b≠Vp->b∉aQ (envOfC qual scope s₀.heap.objs.size f cd::outer):=λb hb p=>hb (I.stkFree b p);have U:=I.base;have j:H e=Vp:=by
  cases k:H e with
  | none=>rfl
  | some u=>
   obtain⟨M,z⟩:=(I.hok e u k).obj;rw[l.new]at z;cases z
 refine⟨e,cls,da,H,rfl,y,I.os,I.bare,⟨λb o q n hb _=>stay b o (low b o q hb) (U.keep b o q n hb (by intro z;cases z)),λb o q n hb _=>?_,λb o q n _=>U.free b o q n (by intro z;cases z),λb o q _=>?_,U.tups,U.frzs,U.tbls⟩,λa o q=>?_,j,J,_,_,x,λb o q hb=>?_,λb o o' q hb L=>?_⟩
 .obtain⟨sl,c⟩:=U.slot b o q n hb (by intro z;cases z);obtain⟨r,v⟩:=up b (by show b∈List.filterMap _ (_::_);exact Dk _ hb) _ c;exact⟨r,v⟩
 .obtain⟨o1,c⟩:=U.there b o q (by intro z;cases z);by_cases hb:b∈aQ (envOfC qual scope s₀.heap.objs.size f cd::outer)
  .obtain⟨sl,v⟩:=up b hb _ c;exact⟨_,v⟩
  .exact⟨_,stay b _ hb c⟩
 .refine(I.hok a o q).stay (λb u hb z=>stay b u (fL b ?_) z) (λ_ z=>z) λ_ _ z=>z;rcases hb with rfl|hb
  .rw[q];intro z;cases z
  .rw[hb];intro z;cases z
 .obtain⟨o1,c⟩:∃o1,s.heap.get? b=Vo o1:=by
   cases k:H b with
   | none=>exact absurd k hb
   | some u=>exact(I.hok b u k).obj
  have:=stay b o1 (fL b hb) c;rw[q]at this;cases this;exact PySem.W.hideAll_get _ c (fL b hb)
 .obtain⟨o1,c⟩:=U.there b o q (by intro z;cases z);have d:=low b o q hb;have:=stay b o1 d c;rw[L]at this;cases this;exact PySem.W.hideAll_get _ c d
def zH{t:XK}(r:∀cls da H,t cls da H->E cls da H):Passes (aR P w) (aS (aR P w) P w K mg base N qual scope f cd A outer s₀ H₀ E) t:=by
 intro pins σ H s e s' I h;obtain⟨x,cls,da,H',rfl,J,F⟩:=h;obtain⟨B,a0,v,y,L⟩:=F.fly;have M:∀b∈aQ (envOfC qual scope s₀.heap.objs.size f cd::outer),b∈aQ outer\/b=s₀.heap.objs.size:=λb hb=>by
  rcases Dw.mp (I.stkSub b hb)with z|z
  .exact .inr z
  .exact .inl z
 have low:∀b o,s₀.heap.get? b=Vo o->b∉aQ outer->b∉aQ (envOfC qual scope s₀.heap.objs.size f cd::outer):=λb o hb O Q=>by
  rcases M b Q with z|z
  .exact O z
  .exact absurd (Dg hb) (by rw[z];exact Nat.lt_irrefl _)
 have U:=I.base;have no:∀b:Vb,b∉([]:List Vb):=λb z=>by cases z
 refine wD I.ok.frames rfl v F.alone λh' k C R=>?_;have two:∀b o,s₀.heap.get? b=Vo o->∃o1 g,s.heap.get? b=Vo o1/\s'.heap.get? b=Vo g:=λb o q=>by obtain⟨o1,c⟩:=U.there b o q (no b);obtain⟨g,d⟩:=F.un.there b o1 c (no b);exact⟨o1,g,c,d⟩
 have stay:∀b o g,s₀.heap.get? b=Vo o->b∉aQ outer->s'.heap.get? b=Vo g->B.get? b=Vo g:=λb o g q hb S=>by obtain⟨o1,T,c,d⟩:=two b o q;exact L b o1 g c (low b o q hb) S
 have m:=v.2.2.1;refine⟨x,cls,da,H',rfl,r _ _ _ J,F.os.trans I.os,F.bare,⟨λb o q n hb _=>?_,λb o q n hb _=>?_,λb o q n _=>?_,λb o q _=>?_,λb xs q=>F.un.tups b xs (U.tups b xs q),λb o u q=>F.un.frzs b o u (U.frzs b o u q),λb ps q=>?_⟩,λa o q=>?_,F.new,R,B,a0,k,λb o q hb=>?_,λb o o' q hb W=>?_⟩
 .have c:=U.keep b o q n hb (no b);have d:=F.un.keep b o c (U.free b o q n (no b)) (low b o q hb) (no b);exact k.1 b o (stay b o o q hb d)
 .obtain⟨sl,c⟩:=U.slot b o q n hb (no b);have i:b∈aQ (envOfC qual scope s₀.heap.objs.size f cd::outer):=by show b∈List.filterMap _ (_::_);exact Dk _ hb
  obtain⟨X,d⟩:=F.un.slot b _ c (U.free b o q n (no b)) i (no b);obtain⟨_,o',j,hd⟩:=m.mem i;rw[d]at j;cases j;obtain⟨p,l⟩:=C b _ d hd;exact⟨p,l⟩
 .obtain⟨o1,c⟩:=U.there b o q (no b);exact F.un.free b o1 c (U.free b o q n (no b)) (no b)
 .obtain⟨o1,g,c,d⟩:=two b o q;by_cases hb:b∈aQ outer
  .have i:b∈aQ (envOfC qual scope s₀.heap.objs.size f cd::outer):=by show b∈List.filterMap _ (_::_);exact Dk _ hb
   obtain⟨_,o',j,hd⟩:=m.mem i;obtain⟨p,l⟩:=C b _ j hd;exact⟨_,l⟩
  .exact⟨_,k.1 b g (stay b o g q hb d)⟩
 .obtain⟨m1,c⟩:=U.tbls b ps q;obtain⟨Y,d⟩:=F.un.tbls b _ c;exact⟨m1++Y,by rw[d,Array.append_assoc]⟩
 .refine(F.hok a o q).stay (λb u hb z=>k.1 b u (y b u z ?_)) (λ_ z=>z) λ_ _ z=>z;rcases hb with rfl|hb
  .rw[q];intro z;cases z
  .rw[hb];intro z;cases z
 .obtain⟨o1,c⟩:∃o1,s'.heap.get? b=Vo o1:=by
   cases G:H' b with
   | none=>exact absurd G hb
   | some u=>exact(F.hok b u G).obj
  have d:=y b o1 c hb;have:=k.1 b o1 d;rw[q]at this;cases this;exact d
 .obtain⟨o1,g,c,d⟩:=two b o q;have l:=stay b o g q hb d;have:=k.1 b g l;rw[W]at this;cases this;exact l
end
section
variable {prog:Vd} {w:Ve} {A:Vi} {E:Va->Vc->Prop} {K:Dd} {x D:Vb} {ox:Obj} {s:Vc}
structure InstC(h:Vh)(x:Vb)(ox:Obj)(D:Vb):Prop where
 at_:h.get? x=Vo ox
 cls:ox.cls=.ref D
def InstC.type{y:Vb}{a:Obj}(I:InstC h y a C):PySem.W.Looks M h (typeOf (.ref y)) (.ref C):=by
 have z:PySem.W.Looks M h (typeOf (.ref y)) a.cls:=(PySem.W.Looks.ld I.at_).andThen .now
 rwa [I.cls]at z
def Ck(X:K.In h)(ha:PySem.W.findIn K (.ref D) "__class__" = Vo (Vo (.builtin "object.__class__")))(b:PySem.W.specialIn K (.builtin "object.__class__") "__get__" = Vo (Vo (.builtin "getset_descriptor.__get__")))
  (c:PySem.W.takesIn K (.builtin "object.__class__")=Vo true):PySem.W.Looks M h (Builtin.ObjectAttr.find (.ref x) (.ref D) "__class__") (.bind (.builtin "getset_descriptor.__get__") (.builtin "object.__class__")):=by
 have d:=PySem.W.looks_findIn (M:=M) X ha;have L2:PySem.W.Looks M h (Builtin.ObjectAttr.getOf (Vo (.builtin "object.__class__"))) (Vo (.builtin "getset_descriptor.__get__")):=PySem.W.looks_specialIn X b;have e:=PySem.W.looks_takesIn (M:=M) X c;refine d.andThen (L2.andThen ?_);refine PySem.W.Looks.andThen (a:=Vo (.builtin "getset_descriptor.__get__",.builtin "object.__class__")) (e.andThen ?_) (PySem.W.Looks.tag .now);rw[Eh rfl];exact .now
def zv{a:Va}{R:Result->Vc->Prop}(X:K.In s.heap)(I:InstC s.heap x ox D)(b:PySem.W.mroIn K D (.type "object")=Vo true)(c:R (.ok (.ret (.ref D))) s):
  codeAny (Vg prog w) A (.call (.builtin "getset_descriptor.__get__") ⟨[.builtin "object.__class__",.ref x,a],[]⟩) R s:=by
 obtain⟨e,g,d,t,os⟩:=s;have f:=I.type (M:=Vg prog w);have h:=PySem.W.looks_mroIn (M:=Vg prog w) X b;refine codeAny_call_builtin PySem.W.KF.slot_gs.plain PySem.W.KF.entry_gs (PySem.W.KF.slot_gs.check _ _ _ _ _ _ _ _ PySem.W.KF.type_class (PySem.W.KF.args_gs _ _ _) ?_);unfold Builtin.«getset_descriptor.__get__» Builtin.Getset_descriptor.descrGet;rw[PySem.W.dga_obj];refine CZ (Dc ?_);unfold Builtin.Getset_descriptor.descrGetter Builtin.Getset_descriptor.descrCheckInstance Builtin.Getset_descriptor.descrNameAndClass isInstance;simp only[PySem.W.KF.owner_class];repeat lk
 refine⟨Code.quiet_builtin _ (by decide +kernel),codeAny_builtin PySem.W.KF.entry_class ?_⟩;unfold Builtin.«object.__class__» shownTypeOf;repeat lk
 exact c
def CA{tk:Tok}{Q:Fin->Vc->Prop}(X:K.In s.heap)(I:InstC s.heap x ox D)(ha:PySem.W.findIn K (.ref D) "__class__" = Vo (Vo (.builtin "object.__class__")))(a:PySem.W.specialIn K (.builtin "object.__class__") "__get__" = Vo (Vo (.builtin "getset_descriptor.__get__")))
  (b:PySem.W.takesIn K (.builtin "object.__class__")=Vo true) (c:PySem.W.mroIn K D (.type "object")=Vo true)
  (e:Q (.done (.ret (.ref D))) s):Vf (Vg prog w) A (Builtin.«object.__getattribute__» ⟨[.ref x,.str "__class__" tk],[]⟩) Q E s:=by
 obtain⟨f,g,d,t,os⟩:=s;have h:=I.type (M:=Vg prog w);have i:=Ck (M:=Vg prog w) (x:=x) X ha a b;unfold Builtin.«object.__getattribute__»;refine CZ (Dc (CZ (Dc (CZ (h.at (CZ (i.at ?_)))))));show Vf _ _ (holding [Value.builtin "object.__class__"] (call (Value.builtin "getset_descriptor.__get__") [.builtin "object.__class__",.ref x,.ref D]) >>= ret) _ _ _;exact CZ (wpAny_holding (wpAny_call (zv (s:=⟨f,g,d,t,os⟩) X I c (Dc e))))
def zu{a:Va}{Q:Unit->Vc->Prop}(X:K.In s.heap)(I:InstC s.heap x ox D)(hs:PySem.W.subIn K (.ref D) (.type "BaseException")=Vo true)(c:Q () s):
  Vf M A (checkBuiltinCall "BaseException.__getattribute__" ⟨[.ref x,a],[]⟩) Q E s:=by
 have k1:builtinKind "BaseException.__getattribute__" = Vo .slot:=by decide +kernel
 have k2:splitId "BaseException.__getattribute__" = Vo ("BaseException","__getattribute__"):=by decide +kernel
 have k3:=PySem.F.args_bexc_ga (.ref x) a;have b:PySem.W.Looks M s.heap (isInstance (.ref x) (.type "BaseException")) true:=(I.type (M:=M)).andThen (PySem.W.looks_subIn X hs);obtain⟨e,g,d,t,os⟩:=s;simp only[checkBuiltinCall,k1,k2];refine CZ (b.at ?_)
 repeat (any_goals (first|assumption|wp_step))
structure ExcK(K:Dd)(D:Vb):Prop where
 lk:∃c d cd sl,K.lookup D=Vo ⟨c,d,.cls cd,sl⟩
 ga:PySem.W.findIn K (.ref D) "__getattribute__" = Vo (Vo (.builtin "BaseException.__getattribute__"))
 gt:PySem.W.findIn K (.ref D) "__getattr__" = Vo Vp
 sb:PySem.W.subIn K (.ref D) (.type "BaseException")=Vo true
 cf:PySem.W.findIn K (.ref D) "__class__" = Vo (Vo (.builtin "object.__class__"))
 cg:PySem.W.specialIn K (.builtin "object.__class__") "__get__" = Vo (Vo (.builtin "getset_descriptor.__get__"))
 ct:PySem.W.takesIn K (.builtin "object.__class__")=Vo true
 mo:PySem.W.mroIn K D (.type "object")=Vo true
def AO{Q:Option Va->Vc->Prop}(X:K.In s.heap)(I:InstC s.heap x ox D)(F:ExcK K D)
  (h:Q (Vo (.ref D)) { s with toks:=s.toks+1 }):Vf (Vg prog w) A (getAttr? (.ref x) "__class__") Q E s:=by
 obtain⟨a,g,d,t,os⟩:=s;have b:=I.type (M:=Vg prog w);have c:=PySem.W.looks_findIn (M:=Vg prog w) X F.ga;have L2:=PySem.W.looks_findIn (M:=Vg prog w) X F.gt;unfold getAttr? getAttrBy? getAttrBy;refine CZ (wpAny_mkText (CZ (wpAny_attempt (wpAny_holding (CZ (b.at (CZ (c.at ?_))))))))
 repeat (any_goals (first|assumption|wp_step|lk))
 refine codeAny_call_builtin (PySem.F.excAttr_ValueError).ga.plain PySem.F.entry_bexc_ga (zu (s:=⟨a,g,d,t+1,os⟩) X I F.sb (CA (s:=⟨a,g,d,t+1,os⟩) X I F.cf F.cg F.ct F.mo ?_))
 repeat (any_goals (first|assumption|wp_step|lk))
def mC(F:ExcK K D):PySem.W.KitX K (.ref x) (.ref D) (λh=>InstC h x ox D) where
 ty:=λ_ _ _ I=>I.type
 it:=λM h X _=>by obtain⟨c,d,cd,sl,ho⟩:=F.lk;intro g i j s' k q;unfold isType loadHead;exact CZ (wpAny_loadPart (k _ _ (X _ _ ho)) (Dc q))
 ne:=λh b dd e n sl X a=>by obtain⟨c,d,cd,f,ho⟩:=F.lk;rw[Bool.eq_false_iff];intro q;cases(show D=b from Value.ref.inj (eq_of_beq q));have z:=X _ _ ho;rw[a]at z;cases z
 ca:=λX I k=>AO X I F k
end
abbrev i9(X:Cx)(x:Vb)(oe:Obj):Cx:={ X with A:=X.A.mark (Vo (.ref x)),calm:=false,pn:=(x,oe)::X.pn,xe:=λ_ _=>False }
abbrev lA(X:Cx)(x:Vb):Cx:={ X with A:=X.A.mark (Vo (.ref x)),calm:=false,xe:=λ_ _=>False }
section
variable {X:Cx} {pins:List (Vb×Obj)} {σ:St} {H:Hp} {s:Vc} {x:Vb} {oe:Obj}
def Cx.Ok.marked(ok:X.Ok)(x:Vb):(lA X x).Ok:=
 ⟨ok.mod,ok.kind,ok.glob,ok.blt,ok.above,ok.inj,ok.has,ok.cab,(λz=>Bool.noConfusion z),ok.frames,ok.stk,ok.exf,ok.bs,ok.bsz,ok.noex,ok.exfs,ok.funs,ok.frf⟩
theorem Inv.marked(I:Inv X pins σ H s)(x:Vb):Inv (lA X x) pins σ H s:=⟨I.ok.marked x,I.os,I.bare,I.base,I.loc,I.cell,I.free,I.freeC,I.pin,I.hok,I.len⟩
def Inv.pinH(I:Inv X pins σ H s)(h1:s.heap.get? x=Vo oe)(h2:H x=Vp)(b:x≠X.env.locals)(c:x∉X.fs)(d:∀v,oe.data≠.cell v):Inv (i9 X x oe) pins σ H s:=
  ⟨⟨I.ok.mod,I.ok.kind,I.ok.glob,I.ok.blt,I.ok.above,I.ok.inj,I.ok.has,I.ok.cab,(λz=>Bool.noConfusion z),I.ok.frames,I.ok.stk,I.ok.exf,I.ok.bs,I.ok.bsz,I.ok.noex,I.ok.exfs,I.ok.funs,I.ok.frf⟩,I.os,I.bare,I.base,I.loc,I.cell,I.free,I.freeC,
    λp a=>by
      rcases Dw.mp a with rfl|a
      . exact ⟨h1,h2,b,c,d⟩
      . exact I.pin p a,I.hok,I.len⟩
def Inv.unpinH(ok:X.Ok)(I:Inv (i9 X x oe) pins σ H s):Inv X pins σ H s:=⟨ok,I.os,I.bare,I.base,I.loc,I.cell,I.free,I.freeC,λp a=>I.pin p (Dk _ a),I.hok,I.len⟩
def jX(K:Dd)(x D:Vb):List V->Hp->VK->Prop:=λxs H Q=>∃b:Bool,((∃C,xs=[.ref x,.ref C]/\PySem.W.kitOne K (.ref D) (.ref C)=Vo b)\/(∃T,xs=[.ref x,.ty T]/\PySem.W.kitOne K (.ref D) (.type T)=Vo b) ∨
 ∃(p:Vb) (a:List Vb),xs=[.ref x,.ref p]/\H p=Vo (.tup (a.map V.ref))/\PySem.W.kitAny K (.ref D) (a.map Value.ref)=Vo b)/\Q (.bl b) H
theorem rl:∀{Cs:List Vb} {us:List Va},Vals (Cs.map V.ref) us->us=Cs.map Value.ref
 | [],_,r=>by cases r;rfl
 | _::_,_,r=>by
  cases r with
  | cons r t=>cases r;rw[rl t];rfl
def oh{D:Vb}(F:ExcK X.K D)(g:oe.cls=.ref D):bN (i9 X x oe) (.builtin "isinstance") (jX X.K x D):=by
 intro pins s σ H xs us Q I r h;obtain⟨b,h,q⟩:=h;have p:=(I.pin (x,oe) (DU _ Dn)).1;have J:InstC s.heap x oe D:=⟨p,g⟩;rcases h with⟨C,rfl,a⟩|⟨T,rfl,a⟩|⟨i,m,rfl,j,a⟩
 .obtain⟨u,c,rfl,r1,d⟩:=vals2 r;cases(show u=Value.ref x from r1);cases(show c=Value.ref C from d);exact PySem.W.kia_one (mC F) I.kIn J a (λz=>nomatch z) λtk=>⟨.bl b,H,I.tok tk,rfl,q⟩
 .obtain⟨u,c,rfl,r1,d⟩:=vals2 r;cases(show u=Value.ref x from r1);cases(show c=Value.type T from d);exact PySem.W.kia_one (mC F) I.kIn J a (λz=>nomatch z) λtk=>⟨.bl b,H,I.tok tk,rfl,q⟩
 .obtain⟨u,c,rfl,r1,d⟩:=vals2 r;cases(show u=Value.ref x from r1);cases(show c=Value.ref i from d);obtain⟨k,l,⟨⟨cls,dd,data,sl⟩,ho,e,n,f⟩,_⟩:=I.tuple (ar.of j);simp only at e f;subst e f;rw[rl l]at ho;exact PySem.W.kia_tup (mC F) I.kIn J ho a (λz=>nomatch z) λtk=>⟨.bl b,H,I.tok tk,rfl,q⟩
end
def rP(cls:Va)(E:XK)(t:TA):TS:=λ_ σ H=>t σ H λvs H1=>vs.length<=sizeLine/\E cls Vp H1
def zX{K:Dd}{x:Vn}{bm:List Va}{a:String}(X:K.In h)(G:h.Ns Vj mg)(e:PySem.W.nsIn K Vj x=Vo (Vo (.ref C)))(q:PySem.W.excIn K C bm a=true):OwnCls x C bm a mg h:=by
 constructor
 .exact PySem.W.mg_of X G e
 .unfold PySem.W.excIn at q;cases b:K.lookup C with
  | none=>rw[b]at q;cases q
  | some o=>
   rw[b]at q;obtain⟨cl,dd,data,sl⟩:=o;split at q
   .rename_i f;cases f;split at q
    .rename_i _ cd _ _ C' bm' k0 k1 k2 k3 n k5 hm hs;simp only[DQ,beq_iff_eq,Bool.not_eq_true']at q;obtain⟨⟨⟨⟨⟨rfl,rfl⟩,c⟩,g⟩,o0⟩,d⟩:=q;obtain⟨nm,bs,mro,ns,i,hd,sn,sub,ab,col,del⟩:=cd
     try dsimp only at hm c o0 d
     subst hm c;obtain⟨l⟩:=sl;simp only at hs;subst hs;exact⟨_,_,_,_,_,_,_,_,_,_,_,_,_,_,_,_,_,X _ _ b,.of_isNs (PySem.W.isNs_of_in X o0),PySem.W.nsMap_none_of_in X o0 d,PySem.W.tail_of_in X g⟩
    .cases q
   .cases q
section
variable {P:Vd} {w:Ve} {K:Dd} {mg:Vn->Option Va} {base:Vh} {N:List Vn} {qual:Vn} {scope:Scope} {f:Vb} {cd:Va} {A:Vi} {outer:List Env} {s₀:Vc} {H₀:Hp} {E:XK}
def iw{x:Vn}{B a d:String}{bm:List Va}{np cpos pos:Pos}{e:Vk}{es:List Vk}{t:TA}(O:OwnCls x C bm a mg base)(FB:ExcBaseFacts B a d bm)
  (ha:PA (aS (aR P w) P w K mg base N qual scope f cd A outer s₀ H₀ E) (e::es) t) (k:Gl (aS (aR P w) P w K mg base N qual scope f cd A outer s₀ H₀ E) x:=by rfl) (hd:(x == ("__debug__":Vn))=false:=by decide)
  (g:starEach (e::es) (aS (aR P w) P w K mg base N qual scope f cd A outer s₀ H₀ E).env=(false,eval e (aS (aR P w) P w K mg base N qual scope f cd A outer s₀ H₀ E).env)::starEach es (aS (aR P w) P w K mg base N qual scope f cd A outer s₀ H₀ E).env:=by rfl)
  (i:(backTo cpos (starEach es (aS (aR P w) P w K mg base N qual scope f cd A outer s₀ H₀ E).env)).any (·.1)=false:=by rfl) :
  PS (aS (aR P w) P w K mg base N qual scope f cd A outer s₀ H₀ E) (.Raise (Vo (.Call (.Name x np) (e::es) [] cpos)) Vp pos) (rP (.ref C) E t):=by
 intro pins s σ H D I h;obtain⟨tl,l,nm,q,bs,hdct,sn,sub,ab,col,dd,k0,k1,k2,k3,k5,mN,m,n,j,T⟩:=O.obj;refine wpAny_Raise_call_subT (newId:=a) (k5:=k5) (k3:=k3) (k2:=k2) (k1:=k1) (k0:=k0) (dd:=dd) (col:=col) (ab:=ab) (sub:=sub) (sn:=sn) (hdct:=hdct) (bs:=bs) (q:=q) (nm:=nm) (C:=C) (N:=l) (bm:=tl) FB (mN:=mN) (T.hasType FB.hasBase) (I.ok.hd rfl) (by rw[g];show(false || (backTo cpos (starEach es _)).any (·.1))=false;rw[i];rfl) j (gp I k O.bound ⟨rfl,?_⟩ hd);rw[g];have b:=ha cpos pins s σ H _ I h;rw[g]at b;exact Calls.evalArgs_plain (aw b λus s1 ⟨vs,H1,c,r,z,q⟩=>⟨rfl,by rw[<-r.length];exact z,c.bk _ _ m,n.keeps c.bk,T.keeps c.bk,λh' e o=>zM (tk:=s1.toks) c (MadeX.of o) q⟩)
end
def kF{i:Nat}{x:Vn}{pos:Pos}{Q:Unit->Vc->Prop}(I:Inv X pins σ H s)(C:X.N.Nodup)(hi:X.N[i]?=Vo x)(F:X.env.kindOf x=Vo .local)
  (h:∀s',Inv X pins (σ.set i Vp) H s'->Q () s'):Vf M A (do bindName X.env x .none;unbindBehindTheSuite X.env x pos) Q E s:=by
 obtain⟨m,w,G⟩:=id I.loc;have f:i<σ.length:=by rw[I.len];exact(Dr.mp hi).1
 have cne:=I.cne;refine wpAny_nameGoes_keeps F w (by rw[I.ok.kind];rfl) λh' v t hs=>?_;obtain⟨U,_,_,J,_⟩:=id w;have low:∀{b:Vb} {o:Obj},X.s₀.heap.get? b=Vo o->b≠X.env.locals:=λe=>DB (DL (Dg e) I.ok.above);refine h _ ⟨I.ok,I.os,I.bare,⟨λb o e n hb g=>(hs.2 b (low e)).trans (I.base.keep b o e n hb g),λb o e n hb g=>?_,I.base.free,λb o e g=>?_,I.base.tups,I.base.frzs,I.base.tbls⟩,⟨_,t,λj y K a l L=>?_⟩,λy c e=>?_,I.free,I.freeC,λp O=>?_,λb P e=>?_,by simpa using I.len⟩
 .obtain⟨sl,a⟩:=I.base.slot b o e n hb g;exact⟨sl,(hs.2 b (low e)).trans a⟩
 .obtain⟨o',a⟩:=I.base.there b o e g;exact⟨o',(hs.2 b (low e)).trans a⟩
 .by_cases u:j=i
  .subst u;rw[List.getElem?_set_self f]at l;cases l
  .rw[List.getElem?_set_ne (Ne.symm u)]at l;obtain⟨R,S,q⟩:=G j y K a l L;refine⟨R,S,?_⟩;rcases q with⟨k,e⟩|⟨k,c,e,z⟩
   .refine .inl ⟨k,?_⟩;have:y≠x:=λe=>u (jS C a (e ▸ hi));simp[this,e]
   .exact .inr ⟨k,c,e,z.sameBut hs (cne y c e)⟩
 .obtain⟨B,z⟩:=I.cell y c e;exact⟨B,z.sameBut hs (cne y c e)⟩
 .obtain⟨e,n,ne,T,d⟩:=I.pin p O;exact⟨(hs.2 p.1 ne).trans e,n,ne,T,d⟩
 .refine(I.hok b P e).stay (λc B r q=>(hs.2 c ?_).trans q) (λ_ q=>q) λ_ _ q=>q;rintro rfl;rcases r with rfl|r
  .rw[I.free]at e;cases e
  .rw[I.free]at r;cases r
section
def PB(Y:Cx)(st:Vl)(t:Ends->(St->XK)->St->Hp->Prop):Prop:=
 ∀(pins:List (Vb×Obj)) (s:Vc) (σ:St) (H:Hp) (D:Ends) (E:St->XK),Inv Y.nox pins σ H s->t D E σ H ->
  Vf (Vg Y.prog Y.w) Y.A (exec st Y.env) (SP Y.nox pins D) (λe s'=>∃a H1 s1,Inv Y.nox pins a H1 s1/\aR Y.prog Y.w Y.stack H1 s1 (E a) e s') s
def iF(Y:Cx)(st:List Vl)(t:Ends->(St->XK)->St->Hp->Prop):Prop:=
 ∀(pins:List (Vb×Obj)) (s:Vc) (σ:St) (H:Hp) (D:Ends) (E:St->XK),Inv Y.nox pins σ H s->t D E σ H ->
  Vf (Vg Y.prog Y.w) Y.A (execs st Y.env) (SP Y.nox pins D) (λe s'=>∃a H1 s1,Inv Y.nox pins a H1 s1/\aR Y.prog Y.w Y.stack H1 s1 (E a) e s') s
def u7:Ends->(St->XK)->St->Hp->Prop:=λD _ σ H=>D.nx σ H
def iV:iF Y [] u7:=λ_ _ σ H _ _ I h=>wpAny_execs_nil ⟨σ,H,I,h⟩
def tO(t u:Ends->(St->XK)->St->Hp->Prop):Ends->(St->XK)->St->Hp->Prop:=λD E σ H=>t ⟨u D E,D.rt,D.bk,D.ct⟩ E σ H
def kl{t u:Ends->(St->XK)->St->Hp->Prop}(h1:PB Y st t)(h2:iF Y rest u):iF Y (st::rest) (tO t u):=by
 intro pins s σ H D E I h;refine wpAny_execs_cons (aw (h1 pins s σ H ⟨u D E,D.rt,D.bk,D.ct⟩ E I h) λf s1 q=>?_);cases f with
 | next=>
  obtain⟨a,H',b,q⟩:=q;exact h2 pins s1 a H' D E b q
 | brk=>exact q
 | cont=>exact q
 | ret v=>exact q
def pz(c:TT)(t u:Ends->(St->XK)->St->Hp->Prop):Ends->(St->XK)->St->Hp->Prop:=λD E σ H=>c σ H λb H1=>if b=true then t D E σ H1 else u D E σ H1
def ue{c:Vk}{a b:List Vl}{t u:Ends->(St->XK)->St->Hp->Prop}{pos:Pos}(e:PT Y.nox c tc)(ha:iF Y a t)(hb:iF Y b u):PB Y (.If c a b pos) (pz tc t u):=by
 intro pins s σ H D E I h;refine wpAny_If (wpAny_mono (e pins s σ H _ I h) (λk s1 ⟨H1,d,q⟩=>?_) λ_ _ z=>z.elim);cases k with
 | true=>exact ha pins s1 σ H1 D E d (by simpa using q)
 | false=>exact hb pins s1 σ H1 D E d (by simpa using q)
end
structure CalX(P:Vd)(w:Ve)(K:Dd)(mg:Vn->Option Va)(base:Vh)(x:Vn)(k:Nat)(ps:List Vn)(sp:Sp):Prop where
 ex:∃(f:Vb) (fd:Vm),mg x=Vo (.ref f)/\PySem.W.keepIn K (.ref f)=true/\Binds K fd ps []/\FnOk P w K mg base (aR P w) k f fd ps sp
def Fly.lands{x:Vb}{s':Vc}{B d:Vh}{da:Option Vb}(F:Fly P w l H s x cls da H' s')(k:Heap.FlyingW B l x cls a0 s'.heap)(m:∀b o,s'.heap.get? b=Vo o->H' b≠Vp->B.get? b=Vo o)
  (i:∀b o o',s.heap.get? b=Vo o->b∉aQ l->s'.heap.get? b=Vo o'->B.get? b=Vo o') (c:Heap.FlyingW B l x cls a0 d) (sm:s'.heap.UpToSlots d):Un (aQ l) [] H H' s.heap d/\bC P w H' d:=by
 have no:∀b:Vb,b∉([]:List Vb):=λb z=>by cases z
 have g:=k.2.2.1;have up:∀b∈aQ l,∀o,s'.heap.get? b=Vo o->∃sl,d.get? b=Vo { o with slots:=sl }:=λb hb o ho=>by obtain⟨_,o',e,hd⟩:=g.mem hb;rw[ho]at e;cases e;exact sm b o ho hd
 refine⟨⟨λb o q n hb _=>c.1 b o (i b o o q hb (F.un.keep b o q n hb (no b))),λb o q n hb _=>?_,F.un.free,λb o q _=>?_,F.un.tups,F.un.frzs,F.un.tbls⟩,λa o q=>?_⟩
 .obtain⟨sl,p⟩:=F.un.slot b o q n hb (no b);obtain⟨h,f⟩:=up b hb _ p;exact⟨h,f⟩
 .obtain⟨j,f⟩:=F.un.there b o q (no b);by_cases hb:b∈aQ l
  .obtain⟨sl,r⟩:=up b hb _ f;exact⟨_,r⟩
  .exact⟨_,c.1 b j (i b o j q hb f)⟩
 .refine(F.hok a o q).stay (λb u hb z=>c.1 b u (m b u z ?_)) (λ_ z=>z) λ_ _ z=>z;rcases hb with rfl|hb
  .rw[q];intro z;cases z
  .rw[hb];intro z;cases z
def pU(K:Dd)(C:Vb)(i:Nat)(tb:Ends->(St->XK)->St->Hp->Prop)(ts:Vb->Vb->Option Vb->TS):TS:=λD σ H=>
 tb D (λc cls da H1=>∃b,cls=.ref b/\PySem.W.exmOne K (.ref b) (.ref C)=Vo true/\ExcK K b/\∀x,H1 x=Vp ->
  ts x b da ⟨λa H'=>D.nx (a.set i Vp) H',D.rt,λa H'=>D.bk (a.set i Vp) H',λa H'=>D.ct (a.set i Vp) H'⟩ (c.set i (Vo (.ref x))) H1) σ H
def B3{i:Nat}{c n:Vn}{body:List Vl}{b0:Vl}{j:List Vl}{np P pos:Pos}{tb:Ends->(St->XK)->St->Hp->Prop}{ts:Vb->Vb->Option Vb->TS}
  (k:Y.stack=Y.env::Y.outer) (l:Y.env.frame=Vo Y.env.locals) (Q:Y.N.Nodup) (hi:Y.N[i]?=Vo n) (hk:Y.env.kindOf n=Vo .local) (hx:Y.env.scope.names.lookup n=Vo .local) (hm:Y.mg c=Vo (.ref C)) (hg:Gl Y c) (hd:(c == ("__debug__":Vn))=false)
  (hb:iF Y body tb) (hs:∀(x:Vb) (oe:Obj) (p:Vb) (da:Option Vb),ExcK Y.K p->oe.cls=.ref p->(∃vs,oe.data=.fields vs/\vs[2]?=Vo .none)->(∀d,da=Vo d->oe.dict=Vo d)->b9 (i9 Y x oe) (b0::j) (ts x p da)) :
  PS Y.nox (.Try body [.ExceptHandler (Vo (.Name c np)) (Vo n) (b0::j) P] [] [] pos) (pU Y.K C i tb ts):=by
 intro pins s σ H D I h;refine wpAny_Try_except (wpAny_mono (hb pins s σ H _ _ I h) (λf s1 q=>?_) λe s1 q=>?_)
 .cases f with
  | next=>exact wpAny_execs_nil q
  | brk=>exact q
  | cont=>exact q
  | ret v=>exact q
 obtain⟨a1,H1,s2,I1,x,cls,da,H',rfl,⟨p,rfl,hex,hK,hts⟩,F⟩:=q;obtain⟨B,a0,fl,f1,f2⟩:=F.fly;have ok:Y.nox.Ok:=I1.ok;have a2:Y.A.frames=some (Y.env::Y.outer):=by rw[<-k];exact ok.frames
 have a3:Heap.FlyingW B (Y.env::Y.outer) x (.ref p) a0 s1.heap:=by rw[<-k];exact fl
 refine lW a2 l a3 F.alone λh4 a4 a5 a6=>uP (s:={ s1 with heap:=h4 }) a4 a6 λh5 t a7 a8=>?_;have r:s1.heap.UpToSlots h5:=a5.trans a7;have R:∀y,Heap.FlyingW B (Y.env::Y.outer) x (.ref p) a0 y->s1.heap.UpToSlots y->∀g tk dr,g=s1.gens->Inv Y.nox pins a1 H' ⟨y,g,dr,tk,s1.os⟩:=λy m E g tk dr eg=>by obtain⟨un,hok⟩:=F.lands fl f1 f2 (by rw[k];exact m) E;exact I1.call' (s':=⟨y,g,dr,tk,s1.os⟩) F.os un hok (by rw[eg];exact F.bare) (λb z=>by cases z)
 have I5:=R h5 t r s1.gens s1.toks s1.drawn rfl;have a9:PySem.W.Looks (Vg Y.prog Y.w) h5 (typeOf (.ref x)) (.ref p):=by obtain⟨ob,aa,hc⟩:=t.there;exact InstC.type ⟨aa,hc⟩
 refine wpAny_handleBy_cons (codeAny_handlers_test ?_) (by intro q;cases q);refine gp (X:=lA Y.nox x) (I5.marked x) hg hm ?_ hd;refine(PySem.W.exm_one (M:=Vg Y.prog Y.w) I5.kIn a9 hex).here ?_;dsimp only;rw[Eh rfl];refine codeAny_handlers_suite_as (AK (s:={ s1 with heap:=h5 }) t a8 λy m E S=>?_);have I6:=R y m (r.trans E) s1.gens s1.toks s1.drawn rfl;obtain⟨oe,vs,he,hc,T,_⟩:=m.first;have U:x∉aQ (Y.env::Y.outer):=λab=>by obtain⟨_,o,ho,ac⟩:=m.2.2.1.mem ab;rw[he]at ho;cases ho;exact ac vs T
 have I7:=I6.pinH (x:=x) he F.new (λz=>U (rS (env:=Y.env) Dn (by rw[l,z]))) (λz=>U (by show x∈List.filterMap _ _;rw[List.filterMap_cons,l];exact Dk _ z)) (λv z=>by rw[T]at z;cases z);refine ir (X:=i9 Y.nox x oe) (v:=.ref x) I7 Q hi (.inl hx) rfl (λs8 I8=>?_) (.inr hx);refine wpAny_mono (hs x oe p da hK hc (by obtain⟨o',Z,x1,x2,x3,_⟩:=S;rw[he]at x1;cases x1;exact⟨Z,x2,x3⟩) (by obtain⟨o',Z,x1,_,_,x4⟩:=S;rw[he]at x1;cases x1;exact x4) pins s8 _ H' _ I8 (hts x F.new)) (λf s9 q=>?_) λ_ _ z=>z.elim;cases f with
 | next=>
  obtain⟨G,J,L,q⟩:=q;exact kF (X:=Y.nox) (Inv.unpinH ok L) Q hi hk λO a=>⟨_,J,a,q⟩
 | brk=>
  obtain⟨G,J,L,q⟩:=q;exact kF (X:=Y.nox) (Inv.unpinH ok L) Q hi hk λO a=>⟨_,J,a,q⟩
 | cont=>
  obtain⟨G,J,L,q⟩:=q;exact kF (X:=Y.nox) (Inv.unpinH ok L) Q hi hk λO a=>⟨_,J,a,q⟩
 | ret u=>
  obtain⟨v,G,J,L,rv,q⟩:=q;exact kF (X:=Y.nox) (Inv.unpinH ok L) Q hi hk λO a=>⟨v,_,J,a,rv,q⟩
def Dfn.okX{K:Dd}{base:Vh}{x:Vn}{N:List Vn}{k:Nat}(D:Dfn K mg x st ps)(S:FnScope N ps (aK st))(len:∀vs H Q E,sp vs H Q E->vs.length=ps.length)
  (a:∀(f:Vb) (cdv:Va) (A:Vi) (outer:List Env) (s:Vc) (H:Hp) (vs:List V) (Q:VK) (E:XK),Room k (A.deeper (envOfC x (aK st) s.heap.objs.size f cdv))->sp vs H Q E ->
   ∃t,b9 (aS (aR P w) P w K mg base N x (aK st) f cdv A outer s H E) (dU st) t/\t { nx:=λ_ H'=>Q .non H',rt:=Q } (start N vs) H):CalX P w K mg base x (k+1) ps sp:=by
 obtain⟨f,fd,c,F,hb⟩:=D.ex;obtain⟨oc,od,kV,doc,pm,an,cdv,ct,osl,rfl,lk,b⟩:=F.ex;exact⟨f,_,c,F.kp,hb,vd lk b S len λA outer s H vs Q E d h=>a f cdv A outer s H vs Q E d h⟩
section
variable {P:Vd} {w:Ve} {K:Dd} {mg:Vn->Option Va} {base:Vh} {N:List Vn} {qual:Vn} {scope:Scope} {f:Vb} {cd:Va} {A:Vi} {outer:List Env} {s₀:Vc} {H₀:Hp} {E:XK}
def fG{x:Vn}{k j:Nat}{e:Vk}{es:List Vk}{t:TA}{p pos:Pos}(C:CalX P w K mg base x j ps sp)(d:Room k (aS (aR P w) P w K mg base N qual scope f cd A outer s₀ H₀ E).A)
  (ha:PA (aS (aR P w) P w K mg base N qual scope f cd A outer s₀ H₀ E) (e::es) t) (a:j<=k:=by decide) (g:Gl (aS (aR P w) P w K mg base N qual scope f cd A outer s₀ H₀ E) x:=by rfl) (b:(x == ("__debug__":Vn))=false:=by decide)
  (i:starEach (e::es) (aS (aR P w) P w K mg base N qual scope f cd A outer s₀ H₀ E).env=(false,eval e (aS (aR P w) P w K mg base N qual scope f cd A outer s₀ H₀ E).env)::starEach es (aS (aR P w) P w K mg base N qual scope f cd A outer s₀ H₀ E).env:=by rfl)
  (c:(backTo pos (starEach es (aS (aR P w) P w K mg base N qual scope f cd A outer s₀ H₀ E).env)).any (·.1)=false:=by rfl) :
  PE (aS (aR P w) P w K mg base N qual scope f cd A outer s₀ H₀ E) (.Call (.Name x p) (e::es) [] pos) (fZ sp [] E t):=by
 obtain⟨n,fd,l,m,hb,F⟩:=C.ex;exact kR F (d.mono a) g l m hb .nil (zH λ_ _ _ h=>h) ha b i c
end
abbrev lK:List Va:=[.type "ValueError",.type "Exception",.type "BaseException",.type "object"]
def cA(K:Dd)(x:Vn):Vb:=match PySem.W.nsIn K Vj x with
 | some (Vo (.ref C))=>C
 | _=>0
def mf(K:Dd)(x:Vn):Bool:=
 PySem.W.excIn K (cA K x) lK "ValueError.__new__" && (match K.lookup (cA K x)with|some ⟨_,_,.cls _,_⟩=>true|_=>false) && PySem.W.findIn K (.ref (cA K x)) "__getattribute__" == Vo (Vo (.builtin "BaseException.__getattribute__")) &&
 PySem.W.findIn K (.ref (cA K x)) "__getattr__" == Vo Vp && PySem.W.subIn K (.ref (cA K x)) (.type "BaseException") == Vo true && PySem.W.findIn K (.ref (cA K x)) "__class__" == Vo (Vo (.builtin "object.__class__")) &&
 PySem.W.specialIn K (.builtin "object.__class__") "__get__" == Vo (Vo (.builtin "getset_descriptor.__get__")) && PySem.W.takesIn K (.builtin "object.__class__") == Vo true && PySem.W.mroIn K (cA K x) (.type "object") == Vo true
structure Xf(K:Dd)(mg:Vn->Option Va)(base:Vh)(all raised:List Vn):Prop where
 cl:∀x∈all,mg x=Vo (.ref (cA K x))
 own:∀x∈raised,OwnCls x (cA K x) lK "ValueError.__new__" mg base
 exk:∀x∈raised,ExcK K (cA K x)
 up:∀x∈raised,PySem.W.exmOne K (.ref (cA K x)) (.ref (cA K "StairError"))=Vo true
 kv:∀x∈raised,PySem.W.kitOne K (.ref (cA K x)) (.type "ValueError")=Vo true
 kc:∀x∈raised,∀y∈all,PySem.W.kitOne K (.ref (cA K x)) (.ref (cA K y))=Vo (x == y || y == ("StairError":Vn))
def nY(K:Dd)(all raised:List Vn):Bool:=
 all.all (λx=>PySem.W.nsIn K Vj x == Vo (Vo (.ref (cA K x)))) && raised.all (λx=>all.contains x && mf K x && PySem.W.exmOne K (.ref (cA K x)) (.ref (cA K "StairError")) == Vo true && PySem.W.kitOne K (.ref (cA K x)) (.type "ValueError") == Vo true &&
  all.all λy=>PySem.W.kitOne K (.ref (cA K x)) (.ref (cA K y)) == Vo (x == y || y == ("StairError":Vn)))
def AI{K:Dd}{base:Vh}{all raised:List Vn}(X:K.In base)(G:base.Ns Vj mg)(h:nY K all raised=true):Xf K mg base all raised:=by
 unfold nY at h;rw[DQ,DO,DO]at h;obtain⟨h1,h2⟩:=h;have e:∀x∈all,PySem.W.nsIn K Vj x=Vo (Vo (.ref (cA K x))):=λx a=>eq_of_beq (h1 x a);have b:∀x∈raised,((((x∈all/\mf K x=true)/\PySem.W.exmOne K (.ref (cA K x)) (.ref (cA K "StairError"))=Vo true)/\PySem.W.kitOne K (.ref (cA K x)) (.type "ValueError")=Vo true)/\∀y∈all,PySem.W.kitOne K (.ref (cA K x)) (.ref (cA K y))=Vo (x == y || y == ("StairError":Vn))):=λx a=>by have:=h2 x a;simp only[DQ,beq_iff_eq,List.contains_iff_mem,DO]at this;exact this
 have f:∀x∈raised,PySem.W.excIn K (cA K x) lK "ValueError.__new__" = true/\ExcK K (cA K x):=λx a=>by
  have:=(b x a).1.1.1.2;unfold mf at this;simp only[DQ,beq_iff_eq]at this;obtain⟨⟨⟨⟨⟨⟨⟨⟨a1,a2⟩,a3⟩,a4⟩,a5⟩,a6⟩,a7⟩,a8⟩,a9⟩:=this;refine⟨a1,?_,a3,a4,a5,a6,a7,a8,a9⟩;cases g:K.lookup (cA K x)with
  | none=>rw[g]at a2;cases a2
  | some o=>
   rw[g]at a2;obtain⟨c,d,data,sl⟩:=o;cases data<;>first|exact ⟨_,_,_,_,rfl⟩|cases a2
 exact⟨λx a=>PySem.W.mg_of X G (e x a),λx a=>zX X G (e x (b x a).1.1.1.1) (f x a).1,λx a=>(f x a).2,λx a=>(b x a).1.1.2,λx a=>(b x a).1.2,λx a=>(b x a).2⟩
theorem qX{K:Dd}{t:Va}:∀{Cs:List Vb},(∀C∈Cs,PySem.W.kitOne K t (.ref C)=Vo false)->PySem.W.kitAny K t (Cs.map Value.ref)=Vo false
 | [],_=>rfl
 | C::Cs,h=>by show(match PySem.W.kitOne K t (.ref C)with|some true=>Vo true|some false=>PySem.W.kitAny K t (Cs.map Value.ref)|none=>Vp)=Vo false;rw[h C Dn];exact qX λD hD=>h D (Dk _ hD)
section
variable {K:Dd} {D:Ends} {σ:St} {H:Hp} {Q:VK} {E:XK} {C x:Vb}
def rd_raise{t:TA}(h:t σ H λvs H1=>vs.length<=sizeLine/\E cls Vp H1):rP cls E t D σ H:=h
def Ce{b:Bool}(c:PySem.W.kitOne K (.ref C) (.ref a)=Vo b)(h:Q (.bl b) H):jX K x C [.ref x,.ref a] H Q:=⟨b,.inl ⟨a,rfl,c⟩,h⟩
def AV{b:Bool}(a:PySem.W.kitOne K (.ref C) (.type T)=Vo b)(h:Q (.bl b) H):jX K x C [.ref x,.ty T] H Q:=⟨b,.inr (.inl ⟨T,rfl,a⟩),h⟩
def yH{p:Vb}{Cs:List Vb}{b:Bool}(a:H p=Vo (.tup (Cs.map V.ref)))(c:PySem.W.kitAny K (.ref C) (Cs.map Value.ref)=Vo b)(h:Q (.bl b) H):jX K x C [.ref x,.ref p] H Q:=⟨b,.inr (.inr ⟨p,Cs,rfl,a,c⟩),h⟩
end
section
variable {K:Dd} {D:Ends} {σ:St} {H:Hp} {E:St->XK} {C:Vb} {i:Nat} {t u tb:Ends->(St->XK)->St->Hp->Prop} {ts:Vb->Vb->Option Vb->TS} {c:TT}
def rd_bseq(h:t ⟨u D E,D.rt,D.bk,D.ct⟩ E σ H):tO t u D E σ H:=h
def rd_bnext(h:D.nx σ H):u7 D E σ H:=h
def rd_bif(h:c σ H λb H1=>if b=true then t D E σ H1 else u D E σ H1):pz c t u D E σ H:=h
end
end L2
namespace Tb
open PySem
def nx(m i:Nat):Nat:=(i*5+1) % (m+1)
def it(m:Nat):Nat->Nat->Nat
 | 0,i=>i
 | n+1,i=>it m n (nx m i)
theorem iI(m:Nat):∀a b i,it m (a+b) i=it m b (it m a i)
 | 0,b,i=>by rw[Nat.zero_add];rfl
 | a+1,b,i=>by rw[Nat.succ_add];exact iI m a b (nx m i)
def wB(m n i:Nat):it m (n+1) i=nx m (it m n i):=by rw[iI m n 1 i];rfl
def nv(m:Nat):Nat->Nat->List Nat
 | 0,_=>[]
 | n+1,i=>i::nv m n (nx m i)
theorem vJ{m:Nat}:∀{n i j:Nat},j∈nv m n i->∃k,k<n/\it m k i=j
 | 0,_,_,h=>by cases h
 | n+1,i,j,h=>by
  rcases Dw.mp h with rfl|h
  .exact⟨0,Nat.succ_pos _,rfl⟩
  .obtain⟨k,a,e⟩:=vJ h;exact⟨k+1,Nat.succ_lt_succ a,e⟩
def good(m:Nat):Bool:=(Ed (m+1)).all (λj=>(nv m (m+1) 0).contains j) && it m (m+1) 0 == 0
def BS:good 7=true:=by decide +kernel
def Aj:good 31=true:=by decide +kernel
def Cg:good 127=true:=by decide +kernel
def wZ:good 511=true:=by decide +kernel
def Full(N:Nat):Prop:=(∀j,j<N->∃k,k<N/\it (N-1) k 0=j)/\it (N-1) N 0=0
def j3(h:good m=true):Full (m+1):=by unfold Tb.good at h;rw[DQ,DO]at h;refine⟨λj a=>?_,eq_of_beq h.2⟩;have h1:=h.1 j (List.mem_range.mpr a);rw[List.contains_iff_mem]at h1;exact vJ h1
def co:Nat->Nat
 | 0=>0
 | n+1=>5*co n+1
theorem ua(m:Nat):∀n i,it m n i % (m+1)=(5 ^ n*i+co n) % (m+1)
 | 0,i=>by simp[it,co]
 | n+1,i=>by
  rw[wB];unfold nx;rw[Nat.mod_mod,Nat.add_mod,Nat.mul_mod,ua m n i,<-Nat.mul_mod,<-Nat.add_mod];congr 1;show(5 ^ n*i+co n)*5+1=5 ^ (n+1)*i+(5*co n+1);rw[Nat.pow_succ,Nat.add_mul];have:5 ^ n*i*5=5 ^ n*5*i:=by rw[Nat.mul_assoc,Nat.mul_comm i 5,Nat.mul_assoc]
  omega
theorem nM(m:Nat):∀n i,i<=m->it m n i<=m
 | 0,i,h=>h
 | n+1,i,h=>by refine nM m n _ ?_;unfold nx;have:=Nat.mod_lt (i*5+1) (show 0<m+1 by omega);omega
def r9{i:Nat}(h:i<=m):it m n i=(5 ^ n*i+co n) % (m+1):=by rw[<-ua,Nat.mod_eq_of_lt (Nat.lt_succ_of_le (nM m n i h))]
def zS(n:Nat):5 ^ n % 2=1:=by
 induction n with
 | zero=>rfl
 | succ n a=>rw[Nat.pow_succ,Nat.mul_mod,a]
theorem tD:∀n,4*co n+1=5 ^ n
 | 0=>rfl
 | n+1=>by have:=tD n;show 4*(5*co n+1)+1=5 ^ (n+1);rw[Nat.pow_succ];omega
def zI{a:Nat}(h:a % 2=1)(r:Nat):(a*N+r) % (2*N)=(N+r) % (2*N):=by
 obtain⟨c,rfl⟩:∃c,a=2*c+1:=⟨a / 2,by omega⟩;have:(2*c+1)*N+r=(N+r)+2*N*c:=by rw[Nat.add_mul,Nat.one_mul,Nat.mul_assoc,Nat.mul_comm c N,<-Nat.mul_assoc];omega
 rw[this,Nat.add_mul_mod_self_left]
def two{x:Nat}(h:x<2*N)(b:0<N):x=x % N\/x=N+x % N:=by
 rcases DX x N with a|a
 .exact .inl (Nat.mod_eq_of_lt a).symm
 .refine .inr ?_;rw[Nat.mod_eq_sub_mod a,Nat.mod_eq_of_lt (by omega)];omega
def Full.double(c:0<N)(h:Full N)(m:co N % (2*N)=N):Full (2*N):=by
 obtain⟨h1,h2⟩:=h;have o:2*N-1+1=2*N:=by omega
 have d:N-1+1=N:=by omega
 have val:∀n i,i<=2*N-1->it (2*N-1) n i=(5 ^ n*i+co n) % (2*N):=λn i hi=>by rw[r9 hi,o]
 have g:it (2*N-1) N 0=N:=by rw[val N 0 (by omega),Nat.mul_zero,Nat.zero_add,m]
 have up:∀k,it (2*N-1) (N+k) 0=(N+it (2*N-1) k 0) % (2*N):=λk=>by rw[iI,g,val k N (by omega),val k 0 (by omega),Nat.mul_zero,Nat.zero_add,zI (zS k)];rw[Nat.add_mod_mod]
 refine⟨λj f=>?_,?_⟩
 .obtain⟨k,v,p⟩:=h1 (j % N) (Nat.mod_lt _ c);have s:it (2*N-1) k 0 % N=j % N:=by rw[val k 0 (by omega),Nat.mul_zero,Nat.zero_add,Nat.mod_mul_left_mod,<-p,r9 (Nat.zero_le _),d,Nat.mul_zero,Nat.zero_add]
  have t:it (2*N-1) k 0<2*N:=by have:=nM (2*N-1) k 0 (Nat.zero_le _);omega
  by_cases e:it (2*N-1) k 0=j
  .exact⟨k,by omega,e⟩
  .refine⟨N+k,by omega,?_⟩;rw[up k];have u:=two f c;have l:=two t c;rw[s]at l;generalize it (2*N-1) k 0=x at *;generalize j % N=r at *;rcases u with a|a<;>rcases l with b|b
   .omega
   .have:N+x=j+2*N:=by omega
    rw[this,Nat.add_mod_right,Nat.mod_eq_of_lt f]
   .have:N+x=j:=by omega
    rw[this,Nat.mod_eq_of_lt f]
   .omega
 .rw[show 2*N=N+N by omega,show N+N-1=2*N-1 by omega,up N,g,show N+N=2*N by omega,Nat.mod_self]
def jC{c:Nat}(h:4*c+1=5 ^ N):co N=c:=by have:=tD N;omega
def Be:Full 8:=j3 BS
def Ap:Full 32:=j3 Aj
def Bu:Full 128:=j3 Cg
def rK:Full 512:=j3 wZ
def xf:co 512 % (2*512)=512:=by rw[jC (c:=(5 ^ 512-1) / 4) (by decide +kernel)];decide +kernel
def xH:co 1024 % (2*1024)=1024:=by rw[jC (c:=(5 ^ 1024-1) / 4) (by decide +kernel)];decide +kernel
def wW:co 2048 % (2*2048)=2048:=by rw[jC (c:=(5 ^ 2048-1) / 4) (by decide +kernel)];decide +kernel
def zo:co 4096 % (2*4096)=4096:=by rw[jC (c:=(5 ^ 4096-1) / 4) (by decide +kernel)];decide +kernel
def pR:Full 2048:=Full.double (N:=1024) (by decide) (rK.double (by decide) xf) xH
def Ae:Full 8192:=Full.double (N:=4096) (by decide) (pR.double (by decide) wW) zo
def Mask(m:Nat):Prop:=m=7\/m=31\/m=127\/m=511\/m=2047\/m=8191
def Mask.full(h:Mask m):Full (m+1):=by
 rcases h with rfl|rfl|rfl|rfl|rfl|rfl
 .exact Be
 .exact Ap
 .exact Bu
 .exact rK
 .exact pR
 .exact Ae
def pJ(h:Mask m){j:Nat}(a:j<=m):∃k,k<=m/\it m k 0=j:=by obtain⟨k,b,e⟩:=h.full.1 j (by omega);exact⟨k,by omega,e⟩
def round0(h:Mask m):it m (m+1) 0=0:=h.full.2
def reach(h:Mask m){i j:Nat}(hi:i<=m)(e:j<=m):∃k,k<=m/\it m k i=j:=by
 obtain⟨a,ha,c⟩:=pJ h hi;obtain⟨b,hb,d⟩:=pJ h e;rcases DX b a with hlt|hge
 .refine⟨m+1-a+b,by omega,?_⟩;rw[<-c,<-iI,show a+(m+1-a+b)=(m+1)+b by omega,iI,round0 h];exact d
 .refine⟨b-a,by omega,?_⟩;rw[<-c,<-iI,show a+(b-a)=b by omega];exact d
def lp(m:Nat):Nat->Nat×Nat->Nat×Nat
 | 0,s=>s
 | n+1,s=>lp m n (SetTable.leap m s.1 s.2)
theorem oR(m:Nat):∀n s,lp m (n+1) s=SetTable.leap m (lp m n s).1 (lp m n s).2
 | 0,s=>rfl
 | n+1,s=>by show lp m (n+1) (SetTable.leap m s.1 s.2)=_;rw[oR m n];rfl
theorem pB(m:Nat):∀n s,(lp m n s).2=s.2 / 32 ^ n
 | 0,s=>by simp[lp]
 | n+1,s=>by rw[oR m n s];show(lp m n s).2 / 32=_;rw[pB m n s,Nat.div_div_eq_div_mul,Nat.pow_succ]
def qQ(m:Nat):∀n s,s.1<=m->(lp m n s).1<=m
 | 0,s,h=>h
 | n+1,s,h=>by rw[oR m n s];show(_ % (m+1))<=m;have:=Nat.mod_lt ((lp m n s).1*5+1+(lp m n s).2 / 32) (show 0<m+1 by omega);omega
theorem uG(m:Nat):∀n i,(lp m n (i,0)).1=it m n i
 | 0,i=>rfl
 | n+1,i=>by show(lp m n (SetTable.leap m i 0)).1=it m n (nx m i);have:SetTable.leap m i 0=(nx m i,0):=rfl;rw[this];exact uG m n _
theorem vZ(m:Nat):∀a b s,lp m (a+b) s=lp m b (lp m a s)
 | 0,b,s=>by rw[Nat.zero_add];rfl
 | a+1,b,s=>by rw[Nat.succ_add];exact vZ m a b _
def vb(h:Mask m){i p j:Nat}(hi:i<=m)(a:p<2 ^ 64)(b:j<=m):∃n,n<=m+13/\(lp m n (i,p)).1=j:=by
 have c:(lp m 13 (i,p)).2=0:=by rw[pB];exact Nat.div_eq_of_lt (DL a (by decide))
 obtain⟨k,d,e⟩:=reach h (qQ m 13 (i,p) hi) b;refine⟨13+k,by omega,?_⟩;rw[vZ];have:lp m 13 (i,p)=((lp m 13 (i,p)).1,0):=by rw[<-c]
 rw[this,uG];exact e
def qZ(h:Int):SetTable.bits h<2 ^ 64:=by unfold SetTable.bits;have h1:=Int.emod_lt_of_pos h (show(0:Int)<2 ^ 64 by decide);have h2:=Int.emod_nonneg h (show(2:Int) ^ 64≠0 by decide);omega
def aE(t:SetTable):Nat->SetTable.Probe->SetTable.Probe
 | 0,p=>p
 | n+1,p=>aE t n (t.advance p)
theorem gf(t:SetTable):∀a b p,aE t (a+b) p=aE t b (aE t a p)
 | 0,b,p=>by rw[Nat.zero_add];rfl
 | a+1,b,p=>by rw[Nat.succ_add];exact gf t a b _
def at_(t:SetTable)(s:Nat×Nat):SetTable.Probe:={ j:=s.1,more:=SetTable.runEnd t.mask s.1-s.1,i:=s.1,perturb:=s.2,dummy:=Vp }
theorem kZ(t:SetTable):∀(r:Nat) (p:SetTable.Probe),p.more=r->aE t (r+1) p={ p with j:=(SetTable.leap t.mask p.i p.perturb).1,more:=SetTable.runEnd t.mask (SetTable.leap t.mask p.i p.perturb).1-(SetTable.leap t.mask p.i p.perturb).1,i:=(SetTable.leap t.mask p.i p.perturb).1,perturb:=(SetTable.leap t.mask p.i p.perturb).2 }
 | 0,p,h=>by show t.advance p=_;unfold SetTable.advance;rw[Eg (by omega)]
 | r+1,p,h=>by
  show aE t (r+1) (t.advance p)=_;have e:t.advance p={ p with j:=p.j+1,more:=p.more-1 }:=by unfold SetTable.advance;rw[Eh (by omega)]
  rw[e,kZ t r _ (by show p.more-1=r;omega)]
def xr(t:SetTable)(s:Nat×Nat):∃k,k<=10/\aE t k (at_ t s)=at_ t (SetTable.leap t.mask s.1 s.2):=by
 refine⟨SetTable.runEnd t.mask s.1-s.1+1,?_,?_⟩
 .unfold SetTable.runEnd;split<;>omega
 .exact(kZ t (SetTable.runEnd t.mask s.1-s.1) (at_ t s) rfl).trans rfl
theorem uZ(t:SetTable):∀(n:Nat) (s:Nat×Nat),∃k,k<=10*n/\aE t k (at_ t s)=at_ t (lp t.mask n s)
 | 0,s=>⟨0,DC _,rfl⟩
 | n+1,s=>by obtain⟨k1,h1,a⟩:=xr t s;obtain⟨k2,h2,b⟩:=uZ t n (SetTable.leap t.mask s.1 s.2);refine⟨k1+k2,by omega,?_⟩;rw[gf,a,b];rfl
def Af(t:SetTable)(h:Int):t.probeStart h=at_ t (SetTable.bits h % (t.mask+1),SetTable.bits h):=rfl
def Cc(a:Mask t.mask){j:Nat}(b:j<=t.mask)(h:Int):∃K,K<10*SetTable.turns t.mask/\(aE t K (t.probeStart h)).j=j:=by
 have h1:SetTable.bits h % (t.mask+1)<=t.mask:=by have:=Nat.mod_lt (SetTable.bits h) (show 0<t.mask+1 by omega);omega
 obtain⟨n,d,e⟩:=vb a h1 (qZ h) b;obtain⟨K,f,c⟩:=uZ t n (SetTable.bits h % (t.mask+1),SetTable.bits h);refine⟨K,by unfold SetTable.turns;omega,?_⟩;rw[Af,c];exact e
def jH{j i:Nat}(h:t.slot j=.live i):t.place[i]?=Vo j:=by
 unfold SetTable.slot at h;dsimp only at h;split at h
 .rename_i hq;cases h;exact eq_of_beq hq
 .split at h<;>cases h
def qw(j:Nat):SetTable.has #[] j=false:=rfl
def o8(hd:t.dummies = #[])(j:Nat):t.slot j=.empty\/∃i,t.slot j=.live i:=by
 unfold SetTable.slot;dsimp only;split
 .exact .inr ⟨_,rfl⟩
 .rw[hd,qw];exact .inl rfl
theorem vq:∀(n:Nat) (l:List Nat),(∀j,j<n->j∈l)->n<=l.length
 | 0,l,_=>Nat.zero_le _
 | n+1,l,h=>by have a:=h n (Nat.lt_succ_self n);have:=vq n (l.erase n) λj b=>(List.mem_erase_of_ne (by omega)).mpr (h j (by omega));rw[List.length_erase_of_mem a]at this;have:0<l.length:=List.length_pos_of_mem a;omega
def yU(hd:t.dummies = #[])(h:t.place.size<=t.mask):∃j,j<=t.mask/\t.slot j=.empty:=by
 rcases Classical.em (∃j,j<=t.mask/\t.slot j=.empty)with h1|h1
 .exact h1
 .exfalso;have:=vq (t.mask+1) t.place.toList λj a=>by
   rcases o8 hd j with h2|⟨i,h2⟩
   .exact absurd ⟨j,by omega,h2⟩ h1
   .have:=jH h2;rw[<-Array.getElem?_toList]at this;exact Ds this
  rw[Dl]at this;omega
theorem ja(t:SetTable):∀n p,(aE t n p).dummy=p.dummy
 | 0,p=>rfl
 | n+1,p=>by show(aE t n (t.advance p)).dummy=_;rw[ja t n];unfold SetTable.advance;split<;>rfl
theorem tL{α:Type}:∀{l:List (Option α)} {j:Nat} {k:α},l[j]?=Vo Vp->((l.set j (Vo k)).filterMap id).Perm (k::l.filterMap id)
 | [],j,k,h=>by cases h
 | x::l,0,k,h=>by
  have:x=Vp:=by simpa using h
  subst this;exact .refl _
 | x::l,j+1,k,h=>by
  have h':l[j]?=Vo Vp:=by simpa using h
  have a:=tL (k:=k) h';cases x with
  | none=>exact a
  | some y=>exact(List.Perm.cons y a).trans (.swap _ _ _)
def BW{α:Type}(l:List (Option α)):(l.filterMap id).length+(l.filter (·.isNone)).length=l.length:=by
 induction l with
 | nil=>rfl
 | cons x l a=>
  cases x<;>simp at a ⊢<;>omega
def yF(l:Mask m)(owner:Array (Option Nat))(c:owner.size=m+1){j:Nat}(d:owner[j]?=Vo Vp):∀(fuel n i p:Nat),i<=m->n<fuel->(lp m n (i,p)).1=j ->
  ∃a,SetTable.layClean.free m owner fuel i p=Vo a/\owner[a]?=Vo Vp:=by
 intro fuel;induction fuel with
 | zero=>intro n i p _ h;omega
 | succ fuel e=>
  intro n i p hi o b;unfold SetTable.layClean.free;split
  .rename_i k hk;have h1:=List.find?_some hk;have h2:=List.mem_range.mp (List.mem_of_find?_eq_some hk);refine⟨i+k,rfl,?_⟩;have hb:i+k<owner.size:=by rw[c];unfold SetTable.runEnd at h2;split at h2<;>omega
   rw[Array.getElem?_eq_getElem hb];have:owner.getD (i+k) (Vo 0)=owner[i+k]:=by rw[Array.getD_eq_getD_getElem?,Array.getElem?_eq_getElem hb];rfl
   rw[this]at h1;congr 1;cases f:owner[i+k]with
   | none=>rfl
   | some y=>rw[f]at h1;cases h1
  .rename_i hk;cases n with
   | zero=>
    exfalso;have g:i=j:=b;have:=List.find?_eq_none.mp hk 0 (List.mem_range.mpr (by unfold SetTable.runEnd;split<;>omega));rw[Nat.add_zero,g,Array.getD_eq_getD_getElem?,d]at this;simp at this
   | succ n=>
    have:=qQ m 1 (i,p) hi;exact e n (SetTable.leap m i p).1 (SetTable.leap m i p).2 this (by omega) b
def jA(mask:Nat)(acc:Option (Array (Option Nat)×Nat))(h:Int):Option (Array (Option Nat)×Nat):=do
 let (owner,k) <-acc;let j <-SetTable.layClean.free mask owner (SetTable.turns mask) (SetTable.bits h % (mask+1)) (SetTable.bits h)
 pure (owner.setIfInBounds j (Vo k),k+1)
def x9{l:List (Option Nat)}(h:(l.filterMap id).length<l.length):∃j:Nat,l[j]?=Vo Vp:=by
 have:=BW l;have h1:0<(l.filter (·.isNone)).length:=by omega
 obtain⟨x,b⟩:=List.exists_mem_of_length_pos h1;obtain⟨a,c⟩:=List.mem_filter.mp b;have:x=Vp:=by cases x<;>simp_all
 subst this;obtain⟨j,d⟩:=DY a;exact⟨j,d⟩
def lG{α:Type}(xs:Array α)(p:Nat)(x:α):(SetTable.insertAt xs p x).size=xs.size+1:=by unfold SetTable.insertAt;simp;omega
def ya{α:Type}{xs:Array α}{p:Nat}{x e:α}(h:e∈(SetTable.insertAt xs p x).toList):e=x\/e∈xs.toList:=by
 unfold SetTable.insertAt at h;simp only[Array.toList_append,Array.toList_push,Array.toList_extract,DF,Dt]at h;rcases h with(h|h)|h
 .exact .inr (List.mem_of_mem_take (by simpa using h))
 .exact .inl h
 .exact .inr (List.mem_of_mem_drop (List.mem_of_mem_take h))
def wY:SetTable.sizeAbove 20-1=31:=by decide +kernel
def BP:SetTable.sizeAbove 76-1=127:=by decide +kernel
def BG:SetTable.sizeAbove 308-1=511:=by decide +kernel
def zl:SetTable.sizeAbove 1228-1=2047:=by decide +kernel
def xS:SetTable.sizeAbove 4916-1=8191:=by decide +kernel
end Tb
namespace Tb
open PySem
def least{P:Nat->Prop}:∀n,P n->∃m,m<=n/\P m/\∀k,k<m->¬P k:=by
 intro n;induction n using Nat.strongRecOn with
 | ind n c=>
  intro h;rcases Classical.em (∃k,k<n/\P k)with⟨k,a,b⟩|d
  .obtain⟨m,h1,h2,e⟩:=c k a b;exact⟨m,by omega,h2,e⟩
  .exact⟨n,DC _,h,λk a b=>d ⟨k,a,b⟩⟩
def kA{xs:Array Nat}(h:xs.toList.Pairwise (· < ·)){a b x y:Nat}(ha:xs[a]?=Vo x)(hb:xs[b]?=Vo y)(c:a<b):x<y:=by obtain⟨h1,d⟩:=Array.getElem?_eq_some_iff.mp ha;obtain⟨h2,e⟩:=Array.getElem?_eq_some_iff.mp hb;have:=List.pairwise_iff_getElem.mp h a b (by simpa using h1) (by simpa using h2) c;simp only[Array.getElem_toList]at this;rw[d,e]at this;exact this
theorem lx(xs:Array Nat)(j:Nat)(hs:xs.toList.Pairwise (· < ·)):∀fuel lo hi,hi-lo<=fuel->lo<=hi->hi<=xs.size->(∀k x,k<lo->xs[k]?=Vo x->x<j)->(∀k x,hi<=k->xs[k]?=Vo x->j<=x) ->
  SetTable.below.go xs j fuel lo hi<=xs.size/\(∀k x,k<SetTable.below.go xs j fuel lo hi->xs[k]?=Vo x->x<j)/\(∀k x,SetTable.below.go xs j fuel lo hi<=k->xs[k]?=Vo x->j<=x)
 | 0,lo,hi,h1,h2,c,d,e=>by
  have:lo=hi:=by omega
  subst this;exact⟨c,d,e⟩
 | fuel+1,lo,hi,h1,h2,c,d,e=>by
  unfold SetTable.below.go;by_cases hlt:lo<hi
  .rw[Eh hlt];dsimp only;have g:(lo+hi) / 2<xs.size:=by omega
   have em:xs[(lo+hi) / 2]?=Vo xs[(lo+hi) / 2]:=getElem?_pos xs _ g;have h:xs.getD ((lo+hi) / 2) j=xs[(lo+hi) / 2]:=by rw[Array.getD_eq_getD_getElem?,em];rfl
   rw[h];by_cases f:xs[(lo+hi) / 2]<j
   .rw[Eh f];refine lx xs j hs fuel _ _ (by omega) (by omega) c (λk x i b=>?_) e;rcases DX k ((lo+hi) / 2)with a|a
    .have:=kA hs b em a;omega
    .have:k=(lo+hi) / 2:=by omega
     subst this;rw[em]at b;cases b;exact f
   .rw[Eg f];refine lx xs j hs fuel _ _ (by omega) (by omega) (by omega) d (λk x i b=>?_);rcases DX ((lo+hi) / 2) k with a|a
    .have:=kA hs em b a;omega
    .have:k=(lo+hi) / 2:=by omega
     subst this;rw[em]at b;cases b;omega
  .rw[Eg hlt];have:lo=hi:=by omega
   subst this;exact⟨c,d,e⟩
def iU{xs:Array Nat}(hs:xs.toList.Pairwise (· < ·))(j:Nat):SetTable.below xs j<=xs.size/\(∀k x,k<SetTable.below xs j->xs[k]?=Vo x->x<j)/\(∀k x,SetTable.below xs j<=k->xs[k]?=Vo x->j<=x):=
 lx xs j hs xs.size 0 xs.size (by omega) (Nat.zero_le _) (DC _) (λk x a=>by omega) (λk x a e=>by have:=(Array.getElem?_eq_some_iff.mp e).1;omega)
def slot_mem(hs:t.place.toList.Pairwise (· < ·)){j i:Nat}(h:t.place[i]?=Vo j):t.slot j=.live i:=by
 obtain⟨h1,h2,d⟩:=iU hs j;have e:SetTable.below t.place j=i:=by
  have hi:=(Array.getElem?_eq_some_iff.mp h).1;rcases DX i (SetTable.below t.place j)with a|a
  .have:=h2 i j a h;omega
  .rcases DX (SetTable.below t.place j) i with b|b
   .have c:t.place[SetTable.below t.place j]?=Vo t.place[SetTable.below t.place j]:=getElem?_pos t.place _ (by omega);have c1:=d _ _ (DC _) c;have c2:=kA hs c h b;omega
   .omega
 unfold SetTable.slot;dsimp only;rw[e,h,Eh (beq_self_eq_true _)]
def iq{α:Type}(xs:Array α)(p:Nat)(x:α):(SetTable.insertAt xs p x).toList=xs.toList.take p++(x::xs.toList.drop p):=by unfold SetTable.insertAt;rw[Array.toList_append,Array.toList_push,Array.toList_extract,Array.toList_extract];show List.take (p-0) (xs.toList.drop 0)++[x]++List.take (xs.size-p) (xs.toList.drop p)=_;rw[List.take_of_length_le (l:=xs.toList.drop p) (by rw[List.length_drop,Dl];exact DC _),List.append_assoc];rfl
def qJ{α:Type}(xs:Array α){p:Nat}(a:p<=xs.size)(x:α)(i:Nat):(SetTable.insertAt xs p x)[i]?=if i<p then xs[i]? else if i=p then Vo x else xs[i-1]?:=by
 rw[<-Array.getElem?_toList,iq,List.getElem?_append,Ea,Dl,show min p xs.size=p by omega];by_cases h:i<p
 .rw[Eh h,Eh h,List.getElem?_take_of_lt h,Array.getElem?_toList]
 .rw[Eg h,Eg h];by_cases e:i=p
  .rw[Eh e,e,Nat.sub_self];rfl
  .rw[Eg e];obtain⟨k,rfl⟩:∃k,i=p+(k+1):=⟨i-p-1,by omega⟩;rw[show p+(k+1)-p=k+1 by omega,List.getElem?_cons_succ,List.getElem?_drop,Array.getElem?_toList];congr 1
def vA{xs:Array Nat}(hs:xs.toList.Pairwise (· < ·)){j:Nat}(g:j∉xs.toList):(SetTable.insertAt xs (SetTable.below xs j) j).toList.Pairwise (· < ·):=by
 obtain⟨h1,h2,h⟩:=iU hs j;rw[iq];have a:=hs;rw[<-List.take_append_drop (SetTable.below xs j) xs.toList,List.pairwise_append]at a;rw[List.pairwise_append,List.pairwise_cons];refine⟨a.1,⟨λy b=>?_,a.2.1⟩,λx f y b=>?_⟩
 .obtain⟨k,c,e⟩:=List.mem_iff_getElem.mp b;rw[List.length_drop,Dl]at c;rw[List.getElem_drop,Array.getElem_toList]at e;have ex:xs[SetTable.below xs j+k]?=Vo y:=by rw[getElem?_pos xs _ (by omega),e]
  have:=h _ _ (by omega) ex;have ne:y≠j:=λz=>g (by rw[<-z];exact Array.mem_toList_iff.mpr (Array.mem_of_getElem? ex));omega
 .have d:x<j:=by obtain⟨k,c,e⟩:=List.mem_iff_getElem.mp f;rw[Ea,Dl]at c;rw[List.getElem_take,Array.getElem_toList]at e;exact h2 k x (by omega) (by rw[getElem?_pos xs _ (by omega),e])
  rcases Dw.mp b with rfl|b
  .exact d
  .exact a.2.2 x f y b
abbrev tM(m:Nat):SetTable:={ mask:=m,place:=#[],dummies:=#[],finger:=0,led:=false,moves:=0,plain:=false }
def pm(m:Nat)(h:Int)(k:Nat):Nat:=(aE (tM m) k ((tM m).probeStart h)).j
theorem ud(t:SetTable):∀k p,aE t k p=aE (tM t.mask) k p
 | 0,p=>rfl
 | k+1,p=>ud t k _
def uJ(t:SetTable)(h:Int)(k:Nat):(aE t k (t.probeStart h)).j=pm t.mask h k:=by rw[ud];rfl
structure TOk(m:Nat)(pl:Array Nat)(hs:Array Int):Prop where
 len:pl.size=hs.size
 inc:pl.toList.Pairwise (· < ·)
 rch:∀(i j:Nat) (h:Int),pl[i]?=Vo j->hs[i]?=Vo h->∃K,K<10*SetTable.turns m/\pm m h K=j/\∀k,k<K->pm m h k∈pl.toList
theorem TOk.nil(m:Nat):TOk m #[] #[]:=⟨rfl,.nil,λi j h e=>by simp at e⟩
def TOk.put{pl:Array Nat}{hs:Array Int}(T:TOk m pl hs){h:Int}{K:Nat}(g:K<10*SetTable.turns m)(l:pm m h K∉pl.toList)(hb:∀k,k<K->pm m h k∈pl.toList):
  TOk m (SetTable.insertAt pl (SetTable.below pl (pm m h K)) (pm m h K)) (SetTable.insertAt hs (SetTable.below pl (pm m h K)) h):=by
 have hle:=(iU T.inc (pm m h K)).1;have more:∀x,x∈pl.toList->x∈(SetTable.insertAt pl (SetTable.below pl (pm m h K)) (pm m h K)).toList:=λx f=>by
  rw[iq];rw[<-List.take_append_drop (SetTable.below pl (pm m h K)) pl.toList]at f;rcases DF.mp f with a|a
  .exact DU _ a
  .exact DT _ (Dk _ a)
 have old:∀(i j:Nat) (h':Int),pl[i]?=Vo j->hs[i]?=Vo h'->∃d,d<10*SetTable.turns m/\pm m h' d=j/\∀k,k<d->pm m h' k∈(SetTable.insertAt pl (SetTable.below pl (pm m h K)) (pm m h K)).toList:=λi j h' b c=>by obtain⟨d,h1,h2,n⟩:=T.rch i j h' b c;exact⟨d,h1,h2,λk e=>more _ (n k e)⟩
 refine⟨by rw[lG,lG,T.len],vA T.inc l,λi j h' b c=>?_⟩;rw[qJ pl hle]at b;rw[qJ hs (by rw[<-T.len];exact hle)]at c;by_cases c1:i<SetTable.below pl (pm m h K)
 .rw[Eh c1]at b c;exact old i j h' b c
 .rw[Eg c1]at b c;by_cases c2:i=SetTable.below pl (pm m h K)
  .rw[Eh c2]at b c;cases b;cases c;exact⟨K,g,rfl,λk e=>more _ (hb k e)⟩
  .rw[Eg c2]at b c;exact old _ j h' b c
def Bm(hd:t.dummies = #[]){j:Nat}(h:t.slot j≠.empty):j∈t.place.toList:=by
 rcases o8 hd j with e|⟨i,e⟩
 .exact absurd e h
 .exact Array.mem_toList_iff.mpr (Array.mem_of_getElem? (jH e))
def tZ(hs:t.place.toList.Pairwise (· < ·)){j:Nat}(h:j∈t.place.toList):∃i,t.slot j=.live i/\t.place[i]?=Vo j:=by obtain⟨i,hi⟩:=DY h;rw[Array.getElem?_toList]at hi;exact⟨i,slot_mem hs hi,hi⟩
def sE(hs:t.place.toList.Pairwise (· < ·)){j:Nat}(h:t.slot j=.empty):j∉t.place.toList:=λa=>by obtain⟨i,e,_⟩:=tZ hs a;rw[h]at e;cases e
def B0(hd:t.dummies = #[])(d:Mask t.mask)(e:t.place.size<=t.mask)(h:Int):∃K,K<10*SetTable.turns t.mask/\t.slot (pm t.mask h K)=.empty/\∀k,k<K->t.slot (pm t.mask h k)≠.empty:=by obtain⟨g,a,b⟩:=yU hd e;obtain⟨N,i,c⟩:=Cc d a h;rw[uJ]at c;obtain⟨K,h1,h2,f⟩:=least (P:=λn=>t.slot (pm t.mask h n)=.empty) N (by show t.slot (pm t.mask h N)=_;rw[c];exact b);exact⟨K,by omega,h2,f⟩
def sL(hd:t.dummies = #[])(hash:Nat->Int)(h:Int):∀(K fuel:Nat) (p:SetTable.Probe),K<fuel->p.dummy=Vp->(∀k,k<K->t.slot (aE t k p).j≠.empty) ->
  (∃k i,k<K/\SetTable.probe.go t hash h fuel p=Vo (.candidate (aE t k p).j i (aE t (k+1) p))/\t.slot (aE t k p).j=.live i)\/SetTable.probe.go t hash h fuel p=SetTable.probe.go t hash h (fuel-K) (aE t K p):=by
 intro K;induction K with
 | zero=>intro fuel p _ _ _;exact .inr rfl
 | succ K d=>
  intro fuel p r g hs;obtain⟨f,rfl⟩:∃f,fuel=f+1:=⟨fuel-1,by omega⟩;have l:t.slot p.j≠.empty:=hs 0 (by omega);rcases o8 hd p.j with h1|⟨i,h1⟩
  .exact absurd h1 l
  .by_cases c:(hash i == h)=true
   .refine .inl ⟨0,i,by omega,?_,h1⟩
    conv=>lhs;unfold SetTable.probe.go
    rw[h1];dsimp only;rw[Eh c];rfl
   .have e:SetTable.probe.go t hash h (f+1) p=SetTable.probe.go t hash h f (t.advance p):=by
     conv=>lhs;unfold SetTable.probe.go
     rw[h1];dsimp only;rw[Eg c]
    rw[e];have a:(t.advance p).dummy=Vp:=by have:=ja t 1 p;rw[g]at this;exact this
    rcases d f (t.advance p) (by omega) a (λk m=>hs (k+1) (by omega))with⟨k,n,m,b,o⟩|b
    .exact .inl ⟨k+1,n,by omega,b,o⟩
    .refine .inr ?_;rw[b,show f+1-(K+1)=f-K by omega];rfl
def BK(hd:t.dummies = #[])(hash:Nat->Int)(h:Int){K fuel:Nat}{p:SetTable.Probe}(d:K<fuel)(c:p.dummy=Vp)(hs:∀k,k<K->t.slot (aE t k p).j≠.empty)(e:t.slot (aE t K p).j=.empty):
  (∃k i,k<K/\SetTable.probe.go t hash h fuel p=Vo (.candidate (aE t k p).j i (aE t (k+1) p))/\t.slot (aE t k p).j=.live i)\/SetTable.probe.go t hash h fuel p=Vo (.empty (aE t K p).j Vp):=by
 rcases sL hd hash h K fuel p d c hs with a|a
 .exact .inl a
 .refine .inr ?_;rw[a];obtain⟨f,b⟩:∃f,fuel-K=f+1:=⟨fuel-K-1,by omega⟩;rw[b];unfold SetTable.probe.go;rw[e];dsimp only;rw[ja,c]
def CN(hd:t.dummies = #[])(hash:Nat->Int)(h:Int){K fuel b:Nat}{p:SetTable.Probe}(g:K<fuel)(l:p.dummy=Vp)(hs:∀k,k<K->t.slot (aE t k p).j≠.empty)(d:t.slot (aE t K p).j=.live b)(m:hash b=h):
  ∃k i,k<=K/\SetTable.probe.go t hash h fuel p=Vo (.candidate (aE t k p).j i (aE t (k+1) p))/\t.slot (aE t k p).j=.live i:=by
 rcases sL hd hash h K fuel p g l hs with⟨k,i,o,e,n⟩|a
 .exact⟨k,i,by omega,e,n⟩
 .refine⟨K,b,DC _,?_,d⟩;rw[a];obtain⟨f,c⟩:∃f,fuel-K=f+1:=⟨fuel-K-1,by omega⟩;rw[c]
  conv=>lhs;unfold SetTable.probe.go
  rw[d];dsimp only;rw[Eh (by rw[m];exact beq_self_eq_true _)];rw[gf];rfl
theorem uz(t:SetTable):∀(k:Nat) (p:SetTable.Probe),k<=p.more->aE t k p={ p with j:=p.j+k,more:=p.more-k }
 | 0,p,h=>rfl
 | k+1,p,h=>by
  show aE t k (t.advance p)=_;have e:t.advance p={ p with j:=p.j+1,more:=p.more-1 }:=by unfold SetTable.advance;rw[Eh (by omega)]
  rw[e,uz t k _ (by show k<=p.more-1;omega)];simp only[SetTable.Probe.mk.injEq,true_and,and_true];omega
def CC{i:Nat}(h:i<=m):SetTable.runEnd m i<=m/\i<=SetTable.runEnd m i/\SetTable.runEnd m i<=i+9:=by unfold SetTable.runEnd;split<;>omega
def mJ{i p k:Nat}(h:k<=SetTable.runEnd t.mask i-i):(aE t k (at_ t (i,p))).j=i+k:=by rw[uz t k _ h];rfl
def qE{owner:Array (Option Nat)}{j:Nat}(a:j<owner.size)(h:(owner.getD j (Vo 0)).isNone=false):∃x,owner[j]?=Vo (Vo x):=by
 rw[Array.getD_eq_getD_getElem?,getElem?_pos owner j a]at h;rw[getElem?_pos owner j a];cases e:owner[j]with
 | none=>rw[e]at h;cases h
 | some x=>exact⟨x,rfl⟩
theorem sj{t:SetTable}(owner:Array (Option Nat))(m:owner.size=t.mask+1):∀(fuel i p c:Nat),i<=t.mask->SetTable.layClean.free t.mask owner fuel i p=Vo c ->
  ∃K,K<10*fuel/\(aE t K (at_ t (i,p))).j=c/\∀k,k<K->∃x,owner[(aE t k (at_ t (i,p))).j]?=Vo (Vo x)
 | 0,i,p,c,hi,h=>by cases h
 | fuel+1,i,p,c,hi,h=>by
  obtain⟨r1,s,u⟩:=CC hi;unfold SetTable.layClean.free at h;split at h
  .rename_i k0 b;cases h;rw[List.find?_range_eq_some]at b;obtain⟨n,d,e⟩:=b;have d:=List.mem_range.mp d;refine⟨k0,by omega,mJ (by omega),λk b=>?_⟩;rw[mJ (by omega)];refine qE (by omega) ?_;have:=e k b;simpa using this
  .rename_i b;rw[List.find?_range_eq_none]at b;have f:(SetTable.leap t.mask i p).1<=t.mask:=by show(_ % (t.mask+1))<=t.mask;have:=Nat.mod_lt (i*5+1+p / 32) (show 0<t.mask+1 by omega);omega
   obtain⟨K,h1,h2,o⟩:=sj owner m fuel _ _ c f h;have l:aE t (SetTable.runEnd t.mask i-i+1) (at_ t (i,p))=at_ t (SetTable.leap t.mask i p):=(kZ t (SetTable.runEnd t.mask i-i) (at_ t (i,p)) rfl).trans rfl;refine⟨SetTable.runEnd t.mask i-i+1+K,by omega,?_,λk r=>?_⟩
   .rw[gf,l];exact h2
   .rcases DX k (SetTable.runEnd t.mask i-i+1)with a|a
    .rw[mJ (by omega)];refine qE (by omega) ?_;have:=b k (by omega);simpa using this
    .obtain⟨g,rfl⟩:∃g,k=SetTable.runEnd t.mask i-i+1+g:=⟨k-(SetTable.runEnd t.mask i-i+1),by omega⟩;rw[gf,l];exact o g (by omega)
def lu(m:Nat)(F:Nat->Int)(owner:Array (Option Nat)):Prop:=∀j x:Nat,owner[j]?=Vo (Vo x)->∃K,K<10*SetTable.turns m/\pm m (F x) K=j/\∀k,k<K->∃y,owner[pm m (F x) k]?=Vo (Vo y)
theorem vg{m:Nat}(l:Mask m)(F:Nat->Int):∀(hs:List Int) (owner:Array (Option Nat)) (k:Nat),owner.size=m+1->(owner.toList.filterMap id).Perm (Ed k)->k+hs.length<=m->(∀i h,hs[i]?=Vo h->F (k+i)=h)->lu m F owner ->
  ∃a,hs.foldl (jA m) (Vo (owner,k))=Vo (a,k+hs.length)/\a.size=m+1/\(a.toList.filterMap id).Perm (Ed (k+hs.length))/\lu m F a
 | [],owner,k,h1,h2,w,o,p=>⟨owner,rfl,h1,h2,p⟩
 | h::hs,owner,k,h1,h2,w,o,p=>by
  rw[DJ]at w ⊢;have hlt:(owner.toList.filterMap id).length<owner.toList.length:=by rw[h2.length_eq,List.length_range,Dl,h1];omega
  obtain⟨j,r⟩:=x9 hlt;rw[Array.getElem?_toList]at r;have s:j<=m:=by have:=(Array.getElem?_eq_some_iff.mp r).1;omega
  have hi:SetTable.bits h % (m+1)<=m:=by have:=Nat.mod_lt (SetTable.bits h) (show 0<m+1 by omega);omega
  obtain⟨n,S,A⟩:=vb l hi (qZ h) s;obtain⟨d,z,b⟩:=yF l owner h1 r (SetTable.turns m) n _ _ hi (by unfold SetTable.turns;omega) A;obtain⟨K,B,C,E⟩:=sj (t:=tM m) owner h1 (SetTable.turns m) _ _ d hi z;have step:jA m (Vo (owner,k)) h=Vo (owner.setIfInBounds d (Vo k),k+1):=by unfold jA;simp[z]
  rw[List.foldl_cons,step];have G:((owner.setIfInBounds d (some k)).toList.filterMap id).Perm (Ed (k+1)):=by rw[Array.toList_setIfInBounds];rw[<-Array.getElem?_toList]at b;refine(tL b).trans ?_;rw[List.range_succ];exact(List.Perm.cons k h2).trans (List.perm_append_comm (l₁:=[k]) (l₂:=Ed k))
  have g:d<owner.size:=(Array.getElem?_eq_some_iff.mp b).1;have keep:∀i x,owner[i]?=Vo (Vo x)->(owner.setIfInBounds d (Vo k))[i]?=Vo (Vo x):=λi x e=>by
   rw[Array.getElem?_setIfInBounds,Eg]
   .exact e
   .rintro rfl;rw[b]at e;cases e
  have H:lu m F (owner.setIfInBounds d (Vo k)):=λi x e=>by
   rw[Array.getElem?_setIfInBounds]at e;by_cases c:d=i
   .rw[Eh c,Eh g]at e;cases e;have I:F k=h:=by
     have:=o 0 h rfl
     rwa [Nat.add_zero]at this
    rw[I];refine⟨K,B,?_,λu f=>?_⟩
    .rw[<-c];exact C
    .obtain⟨y,v⟩:=E u f;exact⟨y,keep _ _ v⟩
   .rw[Eg c]at e;obtain⟨J,L,M,N⟩:=p i x e;refine⟨J,L,M,λu f=>?_⟩;obtain⟨y,v⟩:=N u f;exact⟨y,keep _ _ v⟩
  obtain⟨o',O,P,Q,R⟩:=vg l F hs (owner.setIfInBounds d (Vo k)) (k+1) (by simpa using h1) G (by omega) (λi h' e=>by
   have:=o (i+1) h' e
   rwa [show k+(i+1)=k+1+i by omega]at this) H
  exact⟨o',by rw[O];congr 2;omega,P,by rw[show k+(hs.length+1)=k+1+hs.length by omega];exact Q,R⟩
theorem jf{α:Type}(es:Array α):∀(l:List Nat),(∀i∈l,i<es.size)->∀n:Nat,(l.filterMap (es[·]?))[n]?=(l[n]?).bind (es[·]?)
 | [],_,n=>by simp
 | x::l,h,n=>by
  have a:=h x Dn;have e:(x::l).filterMap (es[·]?)=es[x]::l.filterMap (es[·]?):=by rw[List.filterMap_cons];simp[a]
  rw[e];cases n with
  | zero=>simp[a]
  | succ n=>simpa using jf es l (λi hi=>h i (Dk _ hi)) n
theorem uI{f:Nat->Option (Nat×Nat)}(b:∀j x,f j=Vo x->x.1=j):∀(l:List Nat),(∀x∈(l.filterMap f),f x.1=Vo x)/\((l.filterMap f).map (·.1))=l.filter (λj=>(f j).isSome)
 | []=>⟨λx d=>(by cases d),rfl⟩
 | a::l=>by
  obtain⟨i1,i2⟩:=uI b l;cases e:f a with
  | none=>
   rw[List.filterMap_cons_none e,List.filter_cons_of_neg (by rw[e];simp)];exact⟨i1,i2⟩
  | some x=>
   rw[List.filterMap_cons_some e,List.filter_cons_of_pos (by rw[e];rfl),List.map_cons,i2,b a x e];refine⟨λy c=>?_,rfl⟩;rcases Dw.mp c with rfl|c
   .rw[b a y e];exact e
   .exact i1 y c
def Ax(t:SetTable){es:Array (Int×Va)}{wanted:Nat}(F:Mask m)(G:SetTable.sizeAbove wanted-1=m)(R:es.size<=m):
  ∃t' order,t.relaid (es.map (·.1)) wanted=Vo (t',order)/\t'.place.size=es.size/\t'.dummies = #[]/\t'.mask=m/\order.toList.Perm (Ed es.size)/\t'.led=t.led/\t'.plain=t.plain/\TOk m t'.place ((order.filterMap (es[·]?)).map (·.1)):=by
 obtain⟨o',B,H,p,I⟩:=vg F (λi=>((es[i]?).map (·.1)).getD 0) (es.map (·.1)).toList (Array.replicate (m+1) Vp) 0 (by simp) (by simp) (by rw[Dl,Array.size_map];omega) (λi h e=>by
   rw[Array.getElem?_toList,Array.getElem?_map]at e;show((es[0+i]?).map (·.1)).getD 0=h;rw[Nat.zero_add,e];rfl) (λj x e=>by
   rw[Array.getElem?_replicate]at e;split at e<;>cases e)
 rw[Dl,Nat.zero_add,Array.size_map]at B p;have d:SetTable.layClean m (es.map (·.1))=some o':=by show((es.map (·.1)).foldl (jA m) (some (Array.replicate (m+1) none,0))).map (·.1)=some o';rw[<-Array.foldl_toList,B];rfl
 have a:((Ed (m+1)).filterMap λj=>(o'.getD j Vp).map (j,·)).map (·.2)=o'.toList.filterMap id:=by
  rw[List.map_filterMap];have:o'.toList=(Ed (m+1)).map λj=>o'.getD j Vp:=by
   apply List.ext_getElem
   .rw[Dl,Dh,List.length_range,H]
   .intro i h1 h2;rw[Dl]at h1;simp[h1]
  rw[this,List.filterMap_map];congr 1;funext j;show((o'.getD j Vp).map (j,·)).map (·.2)=o'.getD j Vp;cases o'.getD j Vp<;>rfl
 have g:t.relaid (es.map (·.1)) wanted=Vo (({ mask:=m,place:=(((Ed (m+1)).filterMap λj=>(o'.getD j Vp).map (j,·)).map (·.1)).toArray,dummies:=#[],finger:=t.finger,led:=t.led,moves:=t.movedTo m,plain:=t.plain }:SetTable),(((Ed (m+1)).filterMap λj=>(o'.getD j Vp).map (j,·)).map (·.2)).toArray):=by unfold SetTable.relaid;rw[G];unfold SetTable.laid;rw[d];rfl
 obtain⟨o,c⟩:=uI (f:=λj=>(o'.getD j Vp).map (j,·)) (λj x e=>by obtain⟨y,_,rfl⟩:=Du.mp e;rfl) (Ed (m+1))
 have hlen:((Ed (m+1)).filterMap λj=>(o'.getD j Vp).map (j,·)).length=es.size:=by
  have:=congrArg List.length a
  rwa [Dh,p.length_eq,List.length_range]at this
 have hall:∀i∈((Ed (m+1)).filterMap λj=>(o'.getD j Vp).map (j,·)).map (·.2),i<es.size:=λi hi=>by rw[a]at hi;exact List.mem_range.mp (p.mem_iff.mp hi)
 refine⟨_,_,g,?_,rfl,rfl,?_,rfl,rfl,?_⟩
 .show(((Ed (m+1)).filterMap λj=>(o'.getD j Vp).map (j,·)).map (·.1)).toArray.size=_;rw[Dm,Dh,hlen]
 .show(((Ed (m+1)).filterMap λj=>(o'.getD j Vp).map (j,·)).map (·.2)).toArray.toList.Perm _;rw[List.toList_toArray,a];exact p
 .generalize J:((Ed (m+1)).filterMap λj=>(o'.getD j Vp).map (j,·))=lv at o c hlen hall;show TOk m (lv.map (·.1)).toArray (((lv.map (·.2)).toArray.filterMap (es[·]?)).map (·.1));have mem:∀j,(∃y,o'[j]?=Vo (Vo y))->j∈(lv.map (·.1)).toArray.toList:=λj ⟨y,r⟩=>by rw[List.toList_toArray,c,List.mem_filter];have S:=(Array.getElem?_eq_some_iff.mp r).1;refine⟨List.mem_range.mpr (by omega),?_⟩;rw[Array.getD_eq_getD_getElem?,r];rfl
  have w:∀n:Nat,((((lv.map (·.2)).toArray.filterMap (es[·]?)).map (·.1)))[n]?=(((lv.map (·.2))[n]?).bind (es[·]?)).map (·.1):=λn=>by rw[Array.getElem?_map,<-Array.getElem?_toList,Array.toList_filterMap,List.toList_toArray,jf es _ hall]
  refine⟨?_,?_,λi j h C s=>?_⟩
  .rw[Array.size_map,<-Dl,<-Dl,Array.toList_filterMap,List.toList_toArray,List.toList_toArray,Dh];have key:∀l:List Nat,(∀i∈l,i<es.size)->(l.filterMap (es[·]?)).length=l.length:=by
    intro l;induction l with
    | nil=>intro _;rfl
    | cons x l L=>
     intro E;have u:=E x Dn;rw[List.filterMap_cons,getElem?_pos es x u,DJ,DJ,L λi hi=>E i (Dk _ hi)]
   rw[key _ hall,Dh]
  .rw[List.toList_toArray,c];exact List.Pairwise.filter _ List.pairwise_lt_range
  .rw[w]at s;rw[List.getElem?_toArray,Dj]at C;rw[Dj]at s;obtain⟨⟨v,x⟩,u,rfl⟩:=Du.mp C;rw[u]at s;have M:=o _ (Ds u);have b:o'.getD v Vp=Vo x:=by obtain⟨y,r,N⟩:=Du.mp M;cases N;exact r
   have ho:o'[v]?=Vo (Vo x):=by
    rw[Array.getD_eq_getD_getElem?]at b;cases q:o'[v]? with
    | none=>rw[q]at b;cases b
    | some y=>rw[q]at b;cases b;rfl
   obtain⟨K,O,z,A⟩:=I v x ho;have P:((es[x]?).map (·.1)).getD 0=h:=by have:(es[x]?).map (·.1)=Vo h:=s;rw[this];rfl
   dsimp only at z A;rw[P]at z A;exact⟨K,O,z,λk Q=>mem _ (A k Q)⟩
end Tb
namespace L2
open PySem PySem.Spec PyProof.Rows
section
variable {P:Vd} {w:Ve} {A:Vi} {E:Va->Vc->Prop} {s:Vc} {K:Type} [DecidableEq K] {knd:KeyKind P w K}
def lD{ks:List K}{vs:List Va}(h:ItemsAre knd ks vs):∀v∈vs,∀b,v≠.ref b:=λv a b e=>by have:=h.byValue v a;subst e;cases this
def Aw(n:Nat){v:Va}(h:∀b,v≠.ref b):ofAClassStatement n v=pure false:=by
 cases v with
 | ref b=>exact absurd rfl (h b)
 | _=>unfold ofAClassStatement;rfl
def sf{ks:List K}{b:Vb}{Q:Bool->Vc->Prop}(c:IsTupleKey knd s.heap ks b)(h:Q false s):Vf (Vg P w) A (ofAClassStatement 8 (.ref b)) Q E s:=by
 have d:=c.typeIs;obtain⟨o,items,n,ho,f,hd,hi⟩:=c;unfold ofAClassStatement;refine CZ (wpAny_typeOf d ?_);dsimp only;refine CZ (Dc ?_);simp only[Bool.not_true,DW,if_false];refine CZ (wpAny_seqItems ho hd ?_);dsimp only;refine CZ ?_;rw[<-Array.forIn_toList];refine wpAny_forIn_list _ (λrest r s'=>r.1=none/\s'=s/\∀v∈rest,∀b,v≠.ref b) _ ?_ ?_ _ _ ⟨rfl,rfl,lD hi⟩
 .rintro v rest r s' ⟨a,rfl,hall⟩;rw[Aw _ (hall v Dn)];refine CZ (Dc ?_);simp only[DW,if_false];exact Dc ⟨rfl,rfl,λu e=>hall u (Dk _ e)⟩
 .rintro⟨r1,g⟩ s' ⟨a,rfl,_⟩;simp only at a;subst a;exact Dc h
def vS{ks:List K}{b:Vb}{l:List Va}{Q:Bool->Vc->Prop}(f:IsTupleKey knd s.heap ks b)(g:∀y∈l,∃a c,y=.ref a/\IsTupleKey knd s.heap c a)(h:Q false s):Vf (Vg P w) A (searchCouldBeSeen (.ref b) l) Q E s:=by
 unfold searchCouldBeSeen;refine CZ ?_;refine wpAny_forIn_list _ (λrest r s'=>r.1=Vp/\s'=s/\∀y∈rest,∃a c,y=.ref a/\IsTupleKey knd s.heap c a) _ ?_ ?_ _ _ ⟨rfl,rfl,g⟩
 .rintro v rest r s' ⟨e,rfl,hall⟩;obtain⟨a,c,rfl,d⟩:=hall v Dn;have next:∀y∈rest,∃a c,y=.ref a/\IsTupleKey knd s'.heap c a:=λy i=>hall y (Dk _ i)
  dsimp only;split
  .exact Dc ⟨rfl,rfl,next⟩
  .refine CZ (wpAny_eqIsQuiet_tuple f ?_);simp only[Bool.not_true,DW,if_false];refine CZ (wpAny_eqIsQuiet_tuple d ?_);simp only[Bool.not_true,DW,if_false];refine CZ (sf f ?_);simp only[DW,if_false];refine CZ (sf d ?_);simp only[DW,if_false];exact Dc ⟨rfl,rfl,next⟩
 .rintro⟨r1,j⟩ s' ⟨e,rfl,_⟩;simp only at e;subst e;exact Dc h
def tJ(a:Tb.Mask t.mask):t.gaveWay=false:=by unfold SetTable.gaveWay;rcases a with e|e|e|e|e|e<;>rw[e]<;>rfl
def yt{b:Vb}{k:List K}{h:Int}{es:Array (Int×Va)}(S:A.units<cLine)(F:IsTupleKey knd s.heap k b)(ho:s.heap.get? a=Vo o)(hd:o.data=.set es ep t)(u:t.fits es.size=true)(X:Tb.Mask t.mask)(G:t.dummies = #[])
  (hall:∀e∈es.toList,∃l d,e.2=.ref l/\IsTupleKey knd s.heap d l/\d≠k) {Q:SetFound->Vc->Prop} :
  ∀(K fuel:Nat) (c:Option SetTable.Probe),K<fuel->K<10*SetTable.turns t.mask->(c.getD (t.probeStart h)).dummy=Vp->(∀d,d<K->t.slot (Tb.aE t d (c.getD (t.probeStart h))).j≠.empty)->t.slot (Tb.aE t K (c.getD (t.probeStart h))).j=.empty ->
   Q (.free (Tb.aE t K (c.getD (t.probeStart h))).j false) s->Vf (Vg P w) A (setSearchFrom a (.ref b) h true fuel c) Q E s:=by
 intro K;induction K using Nat.strongRecOn with
 | ind K Y=>
  intro fuel c Z hK v z hs T;obtain⟨f,rfl⟩:∃f,fuel=f+1:=⟨fuel-1,by omega⟩;unfold setSearchFrom;refine CZ (Eb ho hd u ?_);dsimp only;have hg:=tJ X;have H:t.place.size=es.size:=by simp only[SetTable.fits,DQ,beq_iff_eq]at u;exact u.1
  have B:t.sameMemory t.moves t.mask=Vo true:=by unfold SetTable.sameMemory;rw[Eh (beq_self_eq_true _)]
  rw[hg];simp only[DW,if_false];generalize p:t.probe _ h (c.getD (t.probeStart h))=r;obtain⟨g,p⟩:∃g,SetTable.probe.go t g h (10*SetTable.turns t.mask) (c.getD (t.probeStart h))=r:=⟨_,p⟩;rcases Tb.BK G g h hK v z hs with⟨d,i,a0,e,I⟩|e
  .rw[e]at p;subst p;have J:=Tb.jH I;have hi:i<es.size:=by rw[<-H];exact(Array.getElem?_eq_some_iff.mp J).1
   have hmem:es[i]∈es.toList:=by simp
   obtain⟨l,k2,L,C,n⟩:=hall _ hmem;have m:es[i]?=some (es[i].1,.ref l):=by rw[Array.getElem?_eq_getElem hi,<-L]
   have M:∀y∈((es.filter λx=>x.1 == h).toList.map λx=>x.2),∃l d,y=Value.ref l/\IsTupleKey knd s.heap d l:=λy L=>by
    obtain⟨U,N,rfl⟩:=List.mem_map.mp L;have O:U∈es.toList:=by have:=Array.mem_toList_iff.mp N;exact Array.mem_toList_iff.mpr (Array.mem_filter.mp this).1
    obtain⟨b3,k3,h1,h2,_⟩:=hall U O;exact⟨b3,k3,h1,h2⟩
   have R:∀x,Tb.aE t (d+1+x) (c.getD (t.probeStart h))=Tb.aE t x (Tb.aE t (d+1) (c.getD (t.probeStart h))):=λx=>Tb.gf t _ _ _;have again:Vf (Vg P w) A (setSearchFrom a (.ref b) h true f (Vo (Tb.aE t (d+1) (c.getD (t.probeStart h))))) Q E s:=by
    refine Y (K-(d+1)) (by omega) f _ (by omega) (by omega) ?_ (λx hx=>?_) ?_ ?_
    .show(Tb.aE t (d+1) _).dummy=Vp;rw[Tb.ja];exact v
    .show t.slot (Tb.aE t x (Tb.aE t (d+1) _)).j≠_;rw[<-R];exact z _ (by omega)
    .show t.slot (Tb.aE t (K-(d+1)) (Tb.aE t (d+1) _)).j=_;rw[<-R,show d+1+(K-(d+1))=K by omega];exact hs
    .show Q (.free (Tb.aE t (K-(d+1)) (Tb.aE t (d+1) _)).j false) s;rw[<-R,show d+1+(K-(d+1))=K by omega];exact T
   have same:isSame (Value.ref l) (Value.ref l)=pure true:=by unfold isSame;simp
   dsimp only;cases W:t.led
   .simp only[Bool.not_false,if_true];refine CZ (vS F M ?_);simp only[DW,if_false];rw[m];dsimp only;refine CZ (wpAny_holding (wpAny_eqBool_tuple S C F ?_));rw[Ee n];refine CZ (Eb ho hd u ?_);dsimp only;simp only[Bool.and_false,DW,if_false,B,if_true,I,m,same];exact CZ (Dc (CZ (Dc again)))
   .simp only[Bool.not_true,DW,if_false];rw[m];dsimp only;refine CZ (wpAny_holding (wpAny_eqBool_tuple S C F ?_));rw[Ee n];refine CZ (Eb ho hd u ?_);dsimp only;simp only[Bool.and_false,DW,if_false,B,if_true,I,m,same];exact CZ (Dc (CZ (Dc again)))
  .rw[e]at p;subst p;exact Dc T
def zR{b:Vb}{k:List K}{h:Int}{es:Array (Int×Va)}{F:Nat}(hu:A.units<cLine)(Z:IsTupleKey knd s.heap k b)(ho:s.heap.get? a=Vo o)(hd:o.data=.set es ep t)(G:t.fits es.size=true)(hm:Tb.Mask t.mask)(L:t.dummies = #[])
  (hall:∀e∈es.toList,∃l d,e.2=.ref l/\IsTupleKey knd s.heap d l) (M:∃b0,es[F]?=Vo (h,.ref b0)/\IsTupleKey knd s.heap k b0) {Q:SetFound->Vc->Prop} (hQ:Q (.there Vp) s) :
  ∀(K fuel:Nat) (c:Option SetTable.Probe),K<fuel->K<10*SetTable.turns t.mask->(c.getD (t.probeStart h)).dummy=Vp->(∀d,d<K->t.slot (Tb.aE t d (c.getD (t.probeStart h))).j≠.empty)->t.slot (Tb.aE t K (c.getD (t.probeStart h))).j=.live F ->
   Vf (Vg P w) A (setSearchFrom a (.ref b) h true fuel c) Q E s:=by
 obtain⟨b0,p,u⟩:=M;intro K;induction K using Nat.strongRecOn with
 | ind K ih=>
  intro fuel c a1 hK v z hs;obtain⟨f,rfl⟩:∃f,fuel=f+1:=⟨fuel-1,by omega⟩;unfold setSearchFrom;refine CZ (Eb ho hd G ?_);dsimp only;have hg:=tJ hm;have N:t.place.size=es.size:=by simp only[SetTable.fits,DQ,beq_iff_eq]at G;exact G.1
  have O:t.sameMemory t.moves t.mask=Vo true:=by unfold SetTable.sameMemory;rw[Eh (beq_self_eq_true _)]
  rw[hg];simp only[DW,if_false];generalize H:t.probe _ h (c.getD (t.probeStart h))=r;obtain⟨g,R,H⟩:∃g:Nat->Int,g F=h/\SetTable.probe.go t g h (10*SetTable.turns t.mask) (c.getD (t.probeStart h))=r:=⟨_,by show((es[F]?).map (·.1)).getD 0=h;rw[p];rfl,H⟩;obtain⟨d,i,a2,e,I⟩:=Tb.CN L g h hK v z hs R;rw[e]at H;subst H;have S:=Tb.jH I;have hi:i<es.size:=by rw[<-N];exact(Array.getElem?_eq_some_iff.mp S).1
  have hmem:es[i]∈es.toList:=by simp
  obtain⟨l,k2,T,B⟩:=hall _ hmem;have m:es[i]?=some (es[i].1,.ref l):=by rw[Array.getElem?_eq_getElem hi,<-T]
  have U:∀y∈((es.filter λx=>x.1 == h).toList.map λx=>x.2),∃l d,y=Value.ref l/\IsTupleKey knd s.heap d l:=λy T=>by
   obtain⟨e0,W,rfl⟩:=List.mem_map.mp T;have X:e0∈es.toList:=by have:=Array.mem_toList_iff.mp W;exact Array.mem_toList_iff.mpr (Array.mem_filter.mp this).1
   obtain⟨b3,k3,h1,h2⟩:=hall e0 X;exact⟨b3,k3,h1,h2⟩
  have eK:∀x,Tb.aE t (d+1+x) (c.getD (t.probeStart h))=Tb.aE t x (Tb.aE t (d+1) (c.getD (t.probeStart h))):=λx=>Tb.gf t _ _ _;have again:k2≠k->Vf (Vg P w) A (setSearchFrom a (.ref b) h true f (Vo (Tb.aE t (d+1) (c.getD (t.probeStart h))))) Q E s:=λC=>by
   have hlt:d<K:=by
    rcases DX d K with q|q
    .exact q
    .have:d=K:=by omega
     subst this;rw[hs]at I;cases I;rw[p]at m;cases m;obtain⟨o1,i1,n1,z1,_,z2,z3⟩:=B;obtain⟨o2,i2,n2,y1,_,y2,y3⟩:=u;rw[z1]at y1;cases y1;rw[z2]at y2;cases y2;exact absurd (z3.inj y3) C
   refine ih (K-(d+1)) (by omega) f _ (by omega) (by omega) ?_ (λx hx=>?_) ?_
   .show(Tb.aE t (d+1) _).dummy=Vp;rw[Tb.ja];exact v
   .show t.slot (Tb.aE t x (Tb.aE t (d+1) _)).j≠_;rw[<-eK];exact z _ (by omega)
   .show t.slot (Tb.aE t (K-(d+1)) (Tb.aE t (d+1) _)).j=_;rw[<-eK,show d+1+(K-(d+1))=K by omega];exact hs
  have same:isSame (Value.ref l) (Value.ref l)=pure true:=by unfold isSame;simp
  have fin:Vf (Vg P w) A (do
    let equal <-holding [Value.ref l] (eqBool (.ref l) (.ref b));let (es',_,t') <-setState a
    if(true && equal)=true then return SetFound.there Vp
    let some same:=t'.sameMemory t.moves t.mask|unsupported "set.changed-during-lookup:is-the-new-block-at-the-old-address"
    let n <-match (if same=true then t'.slot (Tb.aE t d (c.getD (t.probeStart h))).j else .empty)with
     | .live J=>match es'[J]? with
      | some (_,y')=>do pure (if <-isSame y' (.ref l)then some J else none)
      | none=>pure Vp
     | _=>pure Vp
    match n with
    | none=>rule "set.search.anew";setSearchFrom a (.ref b) h true f Vp
    | some J=>if equal=true then return .there (Vo J)else setSearchFrom a (.ref b) h true f (Vo (Tb.aE t (d+1) (c.getD (t.probeStart h))))) Q E s:=by
   refine CZ (wpAny_holding (wpAny_eqBool_tuple hu B Z ?_));refine CZ (Eb ho hd G ?_);dsimp only;by_cases Y:k2=k
   .rw[Ef Y];simp only[Bool.and_self,if_true];exact Dc hQ
   .rw[Ee Y];simp only[Bool.and_false,DW,if_false,O,if_true,I,m,same];exact CZ (Dc (CZ (Dc (again Y))))
  dsimp only;cases a0:t.led
  .simp only[Bool.not_false,if_true];refine CZ (vS Z U ?_);simp only[DW,if_false];rw[m];exact fin
  .simp only[Bool.not_true,DW,if_false];rw[m];exact fin
def jk{b:Vb}{k:List K}{es:Array (Int×Va)}(f:IsTupleKey knd h k b)(ho:h.get? a=Vo o)(hd:o.data=.set es ep t)(hs:Heap.SameBut a h h'):IsTupleKey knd h' k b:=by
 obtain⟨o',items,n,c,g,d,hi⟩:=f;have e:b≠a:=by rintro rfl;rw[ho]at c;cases c;rw[hd]at d;cases d
 exact⟨o',items,n,(hs.2 b e).trans c,g,d,hi⟩
def p8(n:Nat){v:Va}(h:∀b,v≠.ref b):∃c,hashByValue n v=pure c:=by
 cases v with
 | ref b=>exact absurd rfl (h b)
 | _=>exact⟨_,by cases n<;>unfold hashByValue<;>rfl⟩
def Bb{ks:List K}{b:Vb}{Q:Bool->Vc->Prop}(e:IsTupleKey knd s.heap ks b)(h:∀c,Q c s):Vf (Vg P w) A (hashByValue 8 (.ref b)) Q E s:=by
 have f:=e.typeIs;obtain⟨o,items,n,ho,i,hd,hi⟩:=e;unfold hashByValue;refine CZ (wpAny_specialOf f F.slot_tuple_hash.lookup ?_);dsimp only;refine CZ (wpAny_seqItems ho hd ?_);dsimp only[Option.getD_some];refine CZ ?_;rw[<-Array.forIn_toList];refine wpAny_forIn_list _ (λrest r s'=>(r.1=none\/∃c,r.1=some c)/\s'=s/\∀v∈rest,∀b,v≠.ref b) _ ?_ ?_ _ _ ⟨.inl rfl,rfl,lD hi⟩
 .rintro v rest r s' ⟨a,rfl,hall⟩;obtain⟨c,d⟩:=p8 7 (hall v Dn);rw[d];refine CZ (Dc ?_);cases c
  .show Vf _ _ (pure (ForInStep.done (Vo false,()))) _ _ _;exact Dc (Dc (h false))
  .simp only[Bool.not_true,DW,if_false];exact Dc ⟨.inl rfl,rfl,λu g=>hall u (Dk _ g)⟩
 .rintro⟨r1,j⟩ s' ⟨a,rfl,_⟩;simp only at a;rcases a with rfl|⟨c,rfl⟩
  .exact Dc (h true)
  .exact Dc (h c)
def Cu{α:Type}{es:Array α}(h:order.toList.Perm (Ed es.size)):(order.filterMap (es[·]?)).size=es.size/\∀e∈(order.filterMap (es[·]?)).toList,e∈es.toList:=by
 have key:∀l:List Nat,(∀i∈l,i<es.size)->(l.filterMap (es[·]?)).length=l.length/\∀e∈l.filterMap (es[·]?),e∈es.toList:=by
  intro l;induction l with
  | nil=>intro _;exact⟨rfl,λe c=>by cases c⟩
  | cons x l d=>
   intro b;obtain⟨i1,i2⟩:=d λi hi=>b i (Dk _ hi);have f:=b x Dn;have e:(x::l).filterMap (es[·]?)=es[x]::l.filterMap (es[·]?):=by rw[List.filterMap_cons];simp[f]
   rw[e];refine⟨by rw[DJ,DJ,i1],λy a=>?_⟩;rcases Dw.mp a with rfl|a
   .simp
   .exact i2 y a
 have hlt:∀i∈order.toList,i<es.size:=λi hi=>List.mem_range.mp (h.mem_iff.mp hi);obtain⟨k1,k2⟩:=key order.toList hlt;rw[Array.toList_filterMap];refine⟨?_,k2⟩;rw[<-Dl,Array.toList_filterMap,k1,h.length_eq,List.length_range]
def xy{α:Type}{es:Array α}(h:order.toList.Perm (Ed es.size)):(order.filterMap (es[·]?)).toList.Perm es.toList:=by
 rw[Array.toList_filterMap];have e:(Ed es.size).filterMap (es[·]?)=es.toList:=by
  apply List.ext_getElem?;intro n;have a:es.toList[n]?=es[n]?:=Array.getElem?_toList;rw[a,Tb.jf es _ (λi hi=>List.mem_range.mp hi)];by_cases b:n<es.size
  .rw[List.getElem?_range b];rfl
  .have c:(Ed es.size)[n]?=Vp:=List.getElem?_eq_none (by rw[List.length_range];omega);rw[c,Array.getElem?_eq_none (by omega)];rfl
 rw[<-e];exact h.filterMap _
end
section
variable {P:Vd} {w:Ve} {A:Vi} {E:Va->Vc->Prop} {s:Vc}
def items_str{ks:List Key}{vs:List Va}(h:ItemsAre (aN P w) ks vs){x:Vn}(a:Sum.inr x∈ks):∃t,Value.str x t∈vs:=by
 induction h with
 | nil=>cases a
 | @cons k v ks vs b _ c=>
  rcases Dw.mp a with rfl|a
  .rcases eG (show gg (.inr x) v=true from b)with⟨i,t,e,_⟩|⟨y,t,e,rfl⟩
   .cases e
   .cases e;exact⟨t,Dn⟩
  .obtain⟨t,d⟩:=c a;exact⟨t,Dk _ d⟩
def CS{ks:List Key}{b:Vb}{x:Vn}{Q:Bool->Vc->Prop}(e:IsTupleKey (aN P w) s.heap ks b)(f:Sum.inr x∈ks)(h:Q false s):Vf (Vg P w) A (hashByValue 8 (.ref b)) Q E s:=by
 have g:=e.typeIs;obtain⟨o,items,n,ho,k,hd,hi⟩:=e;unfold hashByValue;refine CZ (wpAny_specialOf g F.slot_tuple_hash.lookup ?_);dsimp only;refine CZ (wpAny_seqItems ho hd ?_);dsimp only[Option.getD_some];refine CZ ?_;rw[<-Array.forIn_toList];refine wpAny_forIn_list _ (λrest r s'=>r.1=none/\s'=s/\(∀v∈rest,∀b,v≠.ref b)/\∃t,Value.str x t∈rest) _ ?_ ?_ _ _ ⟨rfl,rfl,lD hi,items_str hi f⟩
 .rintro v rest r s' ⟨i,rfl,hall,t,a⟩;obtain⟨c,d⟩:=p8 7 (hall v Dn);rw[d];refine CZ (Dc ?_);cases c
  .show Vf _ _ (pure (ForInStep.done (Vo false,()))) _ _ _;exact Dc (Dc h)
  .simp only[Bool.not_true,DW,if_false];refine Dc ⟨rfl,rfl,λu j=>hall u (Dk _ j),t,?_⟩;rcases Dw.mp a with rfl|a
   .exact absurd d (λz=>by
     have:hashByValue 7 (Value.str x t)=pure false:=by unfold hashByValue;rfl
     rw[this]at z;injection z with z
     cases z)
   .exact a
 .rintro⟨r1,l⟩ s' ⟨i,rfl,_,t,a⟩;cases a
def dF(P:Vd)(w:Ve)(B:Vb->List Key->Prop)(h:Vh)(a:Vb)(ks:List (List Key)):Prop:=ks.Nodup ∧
 ∃o es ep t,h.get? a=Vo o/\o.ExactSet/\o.data=.set es ep t/\t.dummies = #[]/\Tb.Mask t.mask/\es.size*5<t.mask*3/\es.size=ks.length/\Tb.TOk t.mask t.place (es.map (·.1)) ∧
  (∀e∈es.toList,∃b k,e=(tupleKeyHash (aN P w) k,.ref b)/\k∈ks/\IsTupleKey (aN P w) h k b/\B b k)/\(∀k∈ks,∃b,(tupleKeyHash (aN P w) k,.ref b)∈es.toList/\IsTupleKey (aN P w) h k b)/\((∀k∈ks,∃x,Sum.inr x∈k)->ks=[]\/t.plain=false)
def zk{es c:Array (Int×Va)}{d:SetTable}{ks1:List (List Key)}{Q:Bool->Vc->Prop}(K:ks1.Nodup)(ho:s.heap.get? a=Vo o)(hex:o.ExactSet)(hd:o.data=.set es ep t)(j:c.size=n+1)(v:d.dummies = #[])
  (z:Tb.Mask d.mask) (C:n*5<d.mask*3) (hn:n<1400) (hlen:ks1.length=n+1) (L:Tb.TOk d.mask d.place (c.map (·.1))) (F:∀e∈c.toList,∃b k,e=(tupleKeyHash (aN P w) k,.ref b)/\k∈ks1/\IsTupleKey (aN P w) s.heap k b/\B b k)
  (M:∀k∈ks1,∃b,(tupleKeyHash (aN P w) k,.ref b)∈c.toList/\IsTupleKey (aN P w) s.heap k b) (hpl1:(∀k∈ks1,∃x,Sum.inr x∈k)->d.plain=false)
  (h:∀h',Heap.SameBut a s.heap h'->dF P w B h' a ks1->Q true { s with heap:=h' }) :
  Vf (Vg P w) A (do
   storeSet a c d
   if(!false && d.tooFull)=true then do
    setRelay a (SetTable.grown (n+1))
    pure true
   else pure true) Q E s:=by
 have T:n+1<=sizeLine:=DM (show n+1<=10000 by omega) (by decide);have N:d.place.size=c.size:=by rw[L.len,Array.size_map]
 refine CZ (wpAny_storeSet_of ho hd ?_ (by omega));have g:(s.heap.update a (Obj.putSet c d)).get? a=Vo { o with data:=.set c (ep+1) d }:=by have:=Heap.get?_update_self (Obj.putSet c d) ho (by rw[putSet_of c d hd];rfl);rw[putSet_of c d hd]at this;exact this
 have f:=Heap.SameBut.update s.heap a (Obj.putSet c d);generalize s.heap.update a (Obj.putSet c d)=h1 at g f;have l:∀e∈c.toList,∃b k,e=(tupleKeyHash (aN P w) k,.ref b)/\k∈ks1/\IsTupleKey (aN P w) h1 k b/\B b k:=λe U=>by obtain⟨b,k,z1,z2,z3,z4⟩:=F e U;exact⟨b,k,z1,z2,jk z3 ho hd f,z4⟩
 have y:∀k∈ks1,∃b,(tupleKeyHash (aN P w) k,.ref b)∈c.toList/\IsTupleKey (aN P w) h1 k b:=λk W=>by obtain⟨b,z1,z2⟩:=M k W;exact⟨b,z1,jk z2 ho hd f⟩
 have i:d.fill=n+1:=by unfold SetTable.fill;rw[v,N,j];rfl
 by_cases O:d.tooFull=true
 .rw[O];simp only[Bool.not_false,Bool.and_self,if_true];have G:d.mask*3<=(n+1)*5:=by unfold SetTable.tooFull at O;rw[i]at O;simpa using O
  obtain⟨m,hm,hw,a0,hlt⟩:∃m,Tb.Mask m/\SetTable.sizeAbove (SetTable.grown (n+1))-1=m/\n+1<=m/\(n+1)*5<m*3/\SetTable.sizeAbove (SetTable.grown (n+1))<=sizeLine:=by
   have hg:SetTable.grown (n+1)=(n+1)*4:=by unfold SetTable.grown;rw[Eg (by omega)]
   rw[hg];rcases z with e|e|e|e|e|e<;>rw[e]at C G
   .obtain rfl:n=4:=by omega
    exact⟨31,.inr (.inl rfl),Tb.wY,by omega,by omega,by decide +kernel⟩
   .obtain rfl:n=18:=by omega
    exact⟨127,.inr (.inr (.inl rfl)),Tb.BP,by omega,by omega,by decide +kernel⟩
   .obtain rfl:n=76:=by omega
    exact⟨511,.inr (.inr (.inr (.inl rfl))),Tb.BG,by omega,by omega,by decide +kernel⟩
   .obtain rfl:n=306:=by omega
    exact⟨2047,.inr (.inr (.inr (.inr (.inl rfl)))),Tb.zl,by omega,by omega,by decide +kernel⟩
   .obtain rfl:n=1228:=by omega
    exact⟨8191,.inr (.inr (.inr (.inr (.inr rfl)))),Tb.xS,by omega,by omega,by decide +kernel⟩
   .omega
  have H:d.fits c.size=true:=by simp only[SetTable.fits,DQ,beq_iff_eq,decide_eq_true_eq];refine⟨N,?_⟩;rw[i];rcases z with e|e|e|e|e|e<;>omega
  obtain⟨J,order,R,a1,X,I,p,_,S,Y⟩:=Tb.Ax d (es:=c) hm hw (by omega);obtain⟨r1,r2⟩:=Cu p;have r3:=xy p;refine CZ ?_;unfold setRelay;refine CZ (Eb (s:={ s with heap:=h1 }) g rfl H ?_);dsimp only;rw[Eg (Nat.not_lt.mpr hlt.2),R];refine CZ ?_;show Vf _ _ (do
   if(order.filterMap (c[·]?)).size != c.size then unsupported "internal:set-table-lost-an-element"
   pure (order.filterMap (c[·]?),J)) _ _ _
  rw[r1];simp only[bne_self_eq_false,DW,if_false];refine Dc ?_;dsimp only;refine wpAny_storeSet_of (s:={ s with heap:=h1 }) g rfl ?_ (by rw[r1];omega);have Z:(h1.update a (Obj.putSet (order.filterMap (c[·]?)) J)).get? a=Vo { o with data:=.set (order.filterMap (c[·]?)) (ep+1+1) J }:=by have:=Heap.get?_update_self (Obj.putSet (order.filterMap (c[·]?)) J) g (by rw[putSet_of _ _ (o:={ o with data:=.set c (ep+1) d }) rfl];rfl);rw[putSet_of _ _ (o:={ o with data:=.set c (ep+1) d }) rfl]at this;exact this
  have r:=Heap.SameBut.update h1 a (Obj.putSet (order.filterMap (c[·]?)) J);refine Dc (h _ (f.trans r) ⟨K,_,_,_,J,Z,hex,rfl,X,by rw[I];exact hm,by rw[r1,I,j];exact hlt.1,by rw[r1,j,hlen],by rw[I];exact Y,λe U=>?_,λk W=>?_,λhx=>.inr (S.trans (hpl1 hx))⟩)
  .obtain⟨b,k,z1,z2,z3,z4⟩:=l e (r2 e U);exact⟨b,k,z1,z2,jk z3 g rfl r,z4⟩
  .obtain⟨b,z1,z2⟩:=y k W;exact⟨b,r3.mem_iff.mpr z1,jk z2 g rfl r⟩
 .have u:d.tooFull=false:=by simpa using O
  rw[u];simp only[Bool.and_false,DW,if_false];have G:(n+1)*5<d.mask*3:=by unfold SetTable.tooFull at u;rw[i]at u;simpa using u
  exact Dc (h h1 f ⟨K,_,c,_,d,g,hex,rfl,v,z,by rw[j];exact G,by rw[j,hlen],L,l,y,λhx=>.inr (hpl1 hx)⟩)
def qV{α:Type}{xs:Array α}{p:Nat}{x e:α}(h:e=x\/e∈xs.toList):e∈(SetTable.insertAt xs p x).toList:=by
 rw[Tb.iq];rcases h with rfl|h
 .exact DT _ Dn
 .rw[<-List.take_append_drop p xs.toList]at h;rcases DF.mp h with a|a
  .exact DU _ a
  .exact DT _ (Dk _ a)
def ins_map{α β:Type}(f:α->β)(xs:Array α)(p:Nat)(x:α):(SetTable.insertAt xs p x).map f=SetTable.insertAt (xs.map f) p (f x):=by apply Array.toList_inj.mp;rw[Array.toList_map,Tb.iq,Tb.iq,Array.toList_map];simp
def Bi{b:Vb}{k:List Key}{ks:List (List Key)}{Q:Bool->Vc->Prop}(hu:A.units<cLine)(G:IsTupleKey (aN P w) s.heap k b)(hB:B b k)(hS:dF P w B s.heap a ks)(a8:ks.length<1400)
  (h:∀h' r u,Heap.SameBut a s.heap h'->dF P w B h' a u->u.length<=ks.length+1->(∀x,x∈u↔x∈ks\/x=k)->Q r { s with heap:=h' }):Vf (Vg P w) A (setAddHashed a (.ref b) (tupleKeyHash (aN P w) k)) Q E s:=by
 obtain⟨Z,o,es,ep,t,ho,hex,hd,g,I,v,hlen,H,hall,J,a9⟩:=id hS;have hp:t.place.size=es.size:=by rw[H.len,Array.size_map]
 have hle:es.size<=t.mask:=by omega
 have U:t.fits es.size=true:=by simp only[SetTable.fits,DQ,beq_iff_eq,decide_eq_true_eq];refine⟨hp,?_⟩;unfold SetTable.fill;rw[g,hp];simpa using hle
 have a0:10*SetTable.turns t.mask<100000:=by unfold SetTable.turns;rcases I with e|e|e|e|e|e<;>rw[e]<;>decide
 have l:∀x,(Tb.aE t x (Option.getD Vp (t.probeStart (tupleKeyHash (aN P w) k)))).j=Tb.pm t.mask (tupleKeyHash (aN P w) k) x:=λx=>Tb.uJ t _ x;unfold setAddHashed setAddHashedIn;refine wpAny_holding (CZ (Eb ho hd U ?_));dsimp only;have a1:byScan (.ref b) es=false:=rfl;rw[a1];simp only[DW,if_false];unfold setSearch;rcases Classical.em (k∈ks)with hold|hold
 .obtain⟨b0,a2,L⟩:=J k hold;obtain⟨i0,n⟩:=DY a2;rw[Array.getElem?_toList]at n;have a7:=(Array.getElem?_eq_some_iff.mp n).1;obtain⟨j0,M⟩:∃j0,t.place[i0]?=Vo j0:=⟨_,getElem?_pos t.place i0 (by omega)⟩;obtain⟨K,W,X,Y⟩:=H.rch i0 j0 (tupleKeyHash (aN P w) k) M (by rw[Array.getElem?_map,n];rfl);refine CZ (zR hu G ho hd U I g (λe y=>?_) ⟨b0,n,L⟩ ?_ K 100000 Vp (by omega) W rfl (λx m=>?_) ?_)
  .obtain⟨f,d,e1,_,e3,_⟩:=hall e y;exact⟨f,d,by rw[e1],e3⟩
  .dsimp only;refine Dc ?_;have e:s={ s with heap:=s.heap }:=by cases s;rfl
   rw[e];exact h s.heap _ ks (Heap.SameBut.refl a s.heap) hS (Nat.le_succ _) λx=>⟨.inl,λz=>z.elim id λe=>e ▸ hold⟩
  .rw[l];obtain⟨i,e,_⟩:=Tb.tZ H.inc (Y x m);rw[e];intro z;cases z
  .rw[l,X];exact Tb.slot_mem H.inc M
 .obtain⟨K,W,X,Y⟩:=Tb.B0 g I (by rw[hp];exact hle) (tupleKeyHash (aN P w) k);have C:∀e∈es.toList,∃f d,e.2=.ref f/\IsTupleKey (aN P w) s.heap d f/\d≠k:=λe y=>by obtain⟨f,d,h1,h2,h3,_⟩:=hall e y;exact⟨f,d,by rw[h1],h3,λz=>hold (z ▸ h2)⟩
  refine CZ (yt hu G ho hd U I g C K 100000 Vp (by omega) W rfl (λx m=>by rw[l];exact Y x m) (by rw[l];exact X) ?_);rw[l];dsimp only;refine CZ (Eb ho hd U ?_);dsimp only;have a3:=Tb.sE H.inc X;have N:=H.put W a3 (λx m=>Tb.Bm g (Y x m));have p:(t.put (Tb.pm t.mask (tupleKeyHash (aN P w) k) K)).1.dummies = #[]:=by show(if SetTable.has t.dummies _=true then _ else t.dummies) = #[];rw[g,Tb.qw];rfl
  generalize Tb.pm t.mask (tupleKeyHash (aN P w) k) K=j at N p;have a4:Tb.TOk t.mask (t.put j).1.place ((SetTable.insertAt es (t.put j).2 (tupleKeyHash (aN P w) k,Value.ref b)).map (·.1)):=by rw[ins_map];exact N
  have O:∀e∈(SetTable.insertAt es (t.put j).2 (tupleKeyHash (aN P w) k,Value.ref b)).toList,∃f d,e=(tupleKeyHash (aN P w) d,.ref f)/\d∈k::ks/\IsTupleKey (aN P w) s.heap d f/\B f d:=λe y=>by
   rcases Tb.ya y with rfl|y
   .exact⟨b,k,rfl,Dn,G,hB⟩
   .obtain⟨f,d,z1,z2,z3,z4⟩:=hall e y;exact⟨f,d,z1,Dk _ z2,z3,z4⟩
  have R:∀d∈k::ks,∃f,(tupleKeyHash (aN P w) d,Value.ref f)∈(SetTable.insertAt es (t.put j).2 (tupleKeyHash (aN P w) k,Value.ref b)).toList/\IsTupleKey (aN P w) s.heap d f:=λd F=>by
   rcases Dw.mp F with rfl|F
   .exact⟨b,qV (.inl rfl),G⟩
   .obtain⟨f,z1,z2⟩:=J d F;exact⟨f,qV (.inr z1),z2⟩
  have S:(k::ks).Nodup:=List.nodup_cons.mpr ⟨hold,Z⟩;have h':∀h',Heap.SameBut a s.heap h'->dF P w B h' a (k::ks)->Q true { s with heap:=h' }:=λh2 sb a5=>h h2 true _ sb a5 (DC _) λx=>by rw[Dw];exact⟨λz=>z.symm,λz=>z.symm⟩
  have fin:∀c:Bool,((∀d∈k::ks,∃x,Sum.inr x∈d)->(t.put j).1.plain=false\/c=false)->Vf (Vg P w) A (do
    storeSet a (SetTable.insertAt es (t.put j).2 (tupleKeyHash (aN P w) k,Value.ref b)) (if c=true then(t.put j).1 else{ (t.put j).1 with plain:=false })
    if(!false && (if c=true then(t.put j).1 else{ (t.put j).1 with plain:=false }).tooFull)=true then do
     setRelay a (SetTable.grown (es.size+1))
     pure true
    else pure true) Q E s:=λc a6=>by
   refine zk (ks1:=k::ks) S ho hex hd (Tb.lG _ _ _) ?_ ?_ ?_ (by omega) (by rw[DJ,hlen]) ?_ O R ?_ h'
   .cases c<;>exact p
   .cases c<;>exact I
   .cases c<;>exact v
   .cases c<;>exact a4
   .intro m;cases c
    .rfl
    .rcases a6 m with z|z
     .exact z
     .cases z
  cases T:(t.put j).1.plain
  .simp only[DW,if_false];exact CZ (Dc (fin true λ_=>.inl T))
  .simp only[if_true];rcases Classical.em (∃x,Sum.inr x∈k)with⟨x,m⟩|m
   .exact CZ (CS G m (fin false λ_=>.inr rfl))
   .exact CZ (Bb G λc=>fin c λhall=>absurd (hall k Dn) m)
end
section
variable {P:Vd} {w:Ve} {A:Vi} {I:Vb} {fp wr:List Vb} {G:Array GenState->Array GenState->Prop} {n:Nat} {Pz:Nat->Va->Prop} {St:Nat->Vc->Prop}
def dF.moved{ks:List (List Key)}{wr:List Vb}(p:dF P w B h a ks)(f:∀b o,b∉wr->h.get? b=Vo o->h'.get? b=Vo o)(ha:a∉wr)(r:∀b∈wr,∀o,h.get? b=Vo o->∃vs,o.data=.fields vs):dF P w B h' a ks:=by
 obtain⟨g,o,es,ep,t,ho,hex,hd,h1,h2,s,u,v,hall,i,j⟩:=p;have l:∀k b,IsTupleKey (aN P w) h k b->IsTupleKey (aN P w) h' k b:=λk b ⟨o',items,m,c,x,d,hi⟩=>⟨o',items,m,f b o' (λhb=>by obtain⟨vs,n⟩:=r b hb o' c;rw[d]at n;cases n) c,x,d,hi⟩
 refine⟨g,o,es,ep,t,f a o ha ho,hex,hd,h1,h2,s,u,v,λe y=>?_,λk f=>?_,j⟩
 .obtain⟨b,k,z1,z2,z3,z4⟩:=hall e y;exact⟨b,k,z1,z2,l k b z3,z4⟩
 .obtain⟨b,z1,z2⟩:=i k f;exact⟨b,z1,l k b z2⟩
def sF(W:WalksS P w A.in1 I fp wr G n Pz St)(S:Vb)(hS:S∉fp)(hu:A.in1.units<cLine)(bs:List Vb)(kk:List (List Key))(H:kk.length=n)(hBk:∀(j:Nat) b k,bs[j]?=Vo b->kk[j]?=Vo k->B b k)(a1:n<1400)
  (t:∀i v,Pz i v->∃b,v=.ref b/\bs[i]?=Vo b) (hwr:∀i s,St i s->∀b∈wr,∀o,s.heap.get? b=Vo o->∃vs,o.data=.fields vs) {R:Result->Vc->Prop} :
  ∀(m i:Nat) (s:Vc) (D:List (List Key)),n-i=m->i<=n->St i s->dF P w B s.heap S D->D.length<=i->(∀k,k∈D↔k∈kk.take i)->(∀(j:Nat) (b:Vb) (k:List Key),bs[j]?=Vo b->kk[j]?=Vo k->IsTupleKey (aN P w) s.heap k b) ->
   (∀s' D,Moved (S::wr) G s s'->dF P w B s'.heap S D->(∀k,k∈D↔k∈kk)->R (.ok (.ret .none)) s') ->
   codeAny (Vg P w) A (.builtin "set.update.loop" ⟨[.ref S,.ref I],[]⟩) R s:=by
 have u:S∉wr:=λz=>hS (W.sub _ z);have more:∀b∈wr,b∈S::wr:=λb z=>Dk _ z;intro m;induction m with
 | zero=>
  intro i s D hm hi a d _ hD f J;obtain rfl:i=n:=by omega
  refine codeAny_builtin F.entry_set_update_loop ?_;rw[Around.under_plainId F.plain_set_update_loop _];show Vf _ A.in1 (pyNext (.ref I) >>= _) _ _ s;refine CZ (W.done s _ _ a λs' p=>?_);rw[<-H,DK]at hD;exact Dc (J s' D (p.mono more) (d.moved p.heap u (hwr _ s a)) hD)
 | succ m ih=>
  intro i s D hm hi a d a2 hD f J;have hlt:i<n:=by omega
  refine codeAny_builtin F.entry_set_update_loop ?_;rw[Around.under_plainId F.plain_set_update_loop _];show Vf _ A.in1 (pyNext (.ref I) >>= _) _ _ s;refine CZ (W.item i s _ _ hlt a λv s' hP x p=>?_);obtain⟨b,rfl,hb⟩:=t i v hP;have h:kk[i]?=Vo kk[i]:=Di (by omega);have g:=d.moved p.heap u (hwr _ s a);have hkeys':∀(j:Nat) (b:Vb) (k:List Key),bs[j]?=Vo b->kk[j]?=Vo k->IsTupleKey (aN P w) s'.heap k b:=λj b k K L=>by obtain⟨o',items,q,y,C,E,M⟩:=f j b k K L;refine⟨o',items,q,p.heap b o' (λN=>?_) y,C,E,M⟩;obtain⟨vs,hv⟩:=hwr _ s a b N o' y;rw[E]at hv;cases hv
  show Vf _ A.in1 (holding [Value.ref b] (setAdd S (.ref b)) >>= _) _ _ s';refine CZ (wpAny_holding ?_);unfold setAdd;refine wpAny_holding (CZ (wpAny_pyHash_tuple hu (hkeys' i b _ hb h) ?_));refine Bi (s:={ s' with toks:=s'.toks+(kk[i].length+1) }) hu (hkeys' i b _ hb h) (hBk i b _ hb h) g (by omega) λh' r D1 sb l a0 O=>?_;have Q:∀k,k∈D1↔k∈kk.take (i+1):=λk=>by rw[O,hD k,List.take_add_one,h,DF];simp
  obtain⟨_,oS,a3,a4,tS,T,_,U,_⟩:=id g;refine Dc ⟨plainId_quiet F.plain_set_update_loop _,ih (i+1) _ _ (by omega) hlt (W.frame _ s' _ _ x (Nat.le_add_right _ _) λc C o e=>?_) l (by omega) Q (λj c k K L=>jk (hkeys' j c k K L) T U sb) λX D2 Y Z=>?_⟩
  .rw[sb.2 c (λz:c=S=>hS (z ▸ C))];exact e
  .refine J X D2 (Moved.trans W.gtrans ((p.mono more).then_heap (Nat.le_add_right _ _) λc o C e=>?_) Y) Z;rw[sb.2 c (λz:c=S=>C (by rw[z];exact Dn))];exact e
end
section
variable {P:Vd} {w:Ve} {A:Vi} {E:Va->Vc->Prop} {s:Vc}
abbrev bD(led:Bool):Obj:={ cls:=.type "set",dict:=Vp,data:=.set #[] 0 (.fresh 0 0 led) }
def iM(P:Vd)(w:Ve)(s:Vc)(bs:List Vb)(kk D:List (List Key))(h':Vh):Prop:=
 dF P w (λb k=>∃j:Nat,bs[j]?=Vo b/\kk[j]?=Vo k) h' s.heap.objs.size D/\(∀k,k∈D↔k∈kk)/\∀b o,b<s.heap.objs.size->s.heap.get? b=Vo o->h'.get? b=Vo o
def AB:isSubtype (.type "tuple") (.type "frozenset")=pure false:=by
 rw[isSubtype_type]
 kernel_rfl
def xx{t:Vb}{bs:List Vb}(T:A.handled=Vp)(hu:A.units+5<cLine)(gt:s.heap.IsTuple t ys)(hb:ys.toList=bs.map Value.ref)
  (U:kk.length=ys.size) (W:ys.size<1400) (f:∀(j:Nat) (b:Vb) (k:List Key),bs[j]?=Vo b->kk[j]?=Vo k->IsTupleKey (aN P w) s.heap k b)
  (h:∀(h':Vh) (tk:Nat) (D:List (List Key)),iM P w s bs kk D h'->Q (.ref s.heap.objs.size) { s with heap:=h',toks:=tk }):Vf (Vg P w) A (call (.type "set") [.ref t]) Q E s:=by
 have x1:=F.called_set.notType;have x2:=F.called_set.canCreate;have x3:=F.typeCall_set_1 (.ref t);have x4:=F.called_set.made;have x5:=F.called_set.sub;obtain⟨c,tl,x6⟩:=F.called_set.mro;refine wpAny_call (codeAny_of_tree ?_);show Vf _ _ (callAny (.type "set") _) _ _ _;refine Dc ⟨Code.quiet_builtin _ (by decide +kernel),codeAny_builtin F.entry_type_call ?_⟩;rw[Around.under_plain (weight_type_call_type "set" [.ref t] []) rfl]
 repeat (any_goals (first|assumption|wp_step))
 refine codeAny_mono (code_set_new_1 (.ref t) (E:=E) (Q₁:=λv s1=>∃led,v=.ref s.heap.objs.size/\s1={ s with heap:=s.heap.push (bD led) }) λled=>⟨led,rfl,rfl⟩) λr s1 u=>?_;cases r with
 | error e=>exact u
 | ok X=>
  cases X with
  | ret v=>
   obtain⟨led,rfl,rfl⟩:=u;have S:(s.heap.push (bD led)).get? s.heap.objs.size=Vo (bD led):=Df _ rfl;have Y:Shared.TypeIs { s with heap:=s.heap.push (bD led) } (.ref s.heap.objs.size) "set":=⟨_,S,rfl⟩;have x7:=F.called_set.init.lookup;have x8:=F.called_set.init.bind (.ref s.heap.objs.size)
   repeat (any_goals (first|assumption|wp_step))
   refine codeAny_mono (codeAny_call_builtin (R:=wants (λr s2=>r=.none/\∃h' tk D,s2={ s with heap:=h',toks:=tk }/\iM P w s bs kk D h') E) F.called_set.init.plain F.entry_set_init (check_set_init_1 Y ?_)) λZ s2 a=>?_
   .have x:(s.heap.push (bD led)).IsTuple t ys:=gt.push _;have hlt:t<s.heap.objs.size:=by obtain⟨o,ho,_⟩:=gt;exact Dg ho
    obtain⟨ol,a0,g,nl,l⟩:=id x;obtain⟨c0,d0,dt,sl⟩:=ol;simp only at g l;subst g l;have y1:=F.sub_tuple_set;have y2:=AB;have y3:(Value.type "tuple" == Value.type "dict")=false:=by decide
    unfold Builtin.«set.__init__» noKeywords Builtin.Frozenset.updateFrom;generalize hit:pyIter=PI
    wp_walk
    subst hit;refine wpAny_pyIter_tuple x ?_;refine CZ (wpAny_runValue ?_);have m:(s.heap.push (bD led)).objs.size=s.heap.objs.size+1:=Heap.size_push _ _;have y:A.in1.in1.in1.handled=Vp:=by simp[T]
    have C:t≠(s.heap.push (bD led)).objs.size:=by rw[m];exact DB (Nat.lt_succ_of_lt hlt)
    have G:s.heap.objs.size∉[(s.heap.push (bD led)).objs.size,t]:=by
     intro z;rcases Dw.mp z with z|z
     .rw[m]at z;exact DB (Nat.lt_succ_self _) z
     .exact Nat.ne_of_gt hlt (Dt.mp z)
    have H:∀i:Nat,ys[i]?=(bs[i]?).map Value.ref:=λi=>by rw[<-Array.getElem?_toList,hb,Dj]
    refine sF (B:=λb k=>∃j:Nat,bs[j]?=Vo b/\kk[j]?=Vo k) ((Walks.tuple y _ t C ys).toS) s.heap.objs.size G (by simp only[Around.in1_units];omega) bs kk U (λj b k I J=>⟨j,I,J⟩) W (λi v hv=>?_) (λi s' hs b K o ho=>?_) (ys.size-0) 0 _ [] (by omega) (Nat.zero_le _) ⟨⟨_,Df _ rfl,rfl,rfl⟩,x.push _⟩ ⟨List.nodup_nil,bD led,#[],0,_,De _ S,⟨rfl,rfl,rfl⟩,rfl,rfl,.inl rfl,(show 0*5<7*3 by decide),rfl,(by rw[Array.map_empty];exact Tb.TOk.nil 7),λe he=>(by simp at he),λk hk=>(by cases hk),λ_=>.inl rfl⟩ (DC _) (λk=>by simp) (λj b k m e2=>?_) λs' D p d hD=>?_
    .have n:ys[i]?=Vo v:=hv;rw[H i]at n;obtain⟨b,e,rfl⟩:=Du.mp n;exact⟨b,rfl,e⟩
    .cases Dt.mp K;obtain⟨o',L,_,M⟩:=hs.1;rw[L]at ho;cases ho;exact⟨_,M⟩
    .obtain⟨o,items,q,ho,r⟩:=f j b k m e2;exact⟨o,items,q,De _ (De _ ho),r⟩
    .obtain⟨h',g',d',N,O⟩:=s';have I:g'=s.gens:=p.gens;have J:d'=s.drawn:=p.drawn;have q3:O=s.os:=p.os;subst I J q3;show Vf _ _ _ _ _ _;refine Dc ?_;show Vf _ _ (ret Value.none) _ _ _;refine Dc ⟨rfl,h',N,D,rfl,d,hD,λb o hb e=>p.heap b o (λz=>?_) (De _ (De _ e))⟩;rcases Dw.mp z with z|z
     .exact DB hb z
     .have z:=Dt.mp z;rw[m]at z;exact DB (Nat.lt_succ_of_lt hb) z
   .cases Z with
    | error e=>exact a
    | ok f2=>
     cases f2 with
     | ret r=>
      obtain⟨rfl,h',tk,D,rfl,d⟩:=a
      repeat (any_goals (first|assumption|wp_step))
      exact h _ _ D d
     | _=>exact a.elim
  | _=>exact u.elim
def AS{t:Vb}{bs:List Vb}(T:A.handled=Vp)(hu:A.units+5<cLine)(gt:s.heap.IsList t ys)(hb:ys.toList=bs.map Value.ref)
  (U:kk.length=ys.size) (W:ys.size<1400) (f:∀(j:Nat) (b:Vb) (k:List Key),bs[j]?=Vo b->kk[j]?=Vo k->IsTupleKey (aN P w) s.heap k b)
  (h:∀(h':Vh) (tk:Nat) (D:List (List Key)),iM P w s bs kk D h'->Q (.ref s.heap.objs.size) { s with heap:=h',toks:=tk }):Vf (Vg P w) A (call (.type "set") [.ref t]) Q E s:=by
 have x1:=F.called_set.notType;have x2:=F.called_set.canCreate;have x3:=F.typeCall_set_1 (.ref t);have x4:=F.called_set.made;have x5:=F.called_set.sub;obtain⟨c,tl,x6⟩:=F.called_set.mro;refine wpAny_call (codeAny_of_tree ?_);show Vf _ _ (callAny (.type "set") _) _ _ _;refine Dc ⟨Code.quiet_builtin _ (by decide +kernel),codeAny_builtin F.entry_type_call ?_⟩;rw[Around.under_plain (weight_type_call_type "set" [.ref t] []) rfl]
 repeat (any_goals (first|assumption|wp_step))
 refine codeAny_mono (code_set_new_1 (.ref t) (E:=E) (Q₁:=λv s1=>∃led,v=.ref s.heap.objs.size/\s1={ s with heap:=s.heap.push (bD led) }) λled=>⟨led,rfl,rfl⟩) λr s1 u=>?_;cases r with
 | error e=>exact u
 | ok X=>
  cases X with
  | ret v=>
   obtain⟨led,rfl,rfl⟩:=u;have S:(s.heap.push (bD led)).get? s.heap.objs.size=Vo (bD led):=Df _ rfl;have Y:Shared.TypeIs { s with heap:=s.heap.push (bD led) } (.ref s.heap.objs.size) "set":=⟨_,S,rfl⟩;have x7:=F.called_set.init.lookup;have x8:=F.called_set.init.bind (.ref s.heap.objs.size)
   repeat (any_goals (first|assumption|wp_step))
   refine codeAny_mono (codeAny_call_builtin (R:=wants (λr s2=>r=.none/\∃h' tk D,s2={ s with heap:=h',toks:=tk }/\iM P w s bs kk D h') E) F.called_set.init.plain F.entry_set_init (check_set_init_1 Y ?_)) λZ s2 a=>?_
   .have x:(s.heap.push (bD led)).IsList t ys:=gt.push _;have hlt:t<s.heap.objs.size:=by obtain⟨o,ho,_⟩:=gt;exact Dg ho
    obtain⟨ol,a0,g,nl,l⟩:=id x;obtain⟨c0,d0,dt,sl⟩:=ol;simp only at g l;subst g l;have y1:=F.sub_list_set;have y2:=F.sub_list_frozenset;have y3:(Value.type "list" == Value.type "dict")=false:=by decide
    unfold Builtin.«set.__init__» noKeywords Builtin.Frozenset.updateFrom;generalize hit:pyIter=PI
    wp_walk
    subst hit;refine wpAny_pyIter_list x ?_;refine CZ (wpAny_runValue ?_);have m:(s.heap.push (bD led)).objs.size=s.heap.objs.size+1:=Heap.size_push _ _;have y:A.in1.in1.in1.handled=Vp:=by simp[T]
    have C:t≠(s.heap.push (bD led)).objs.size:=by rw[m];exact DB (Nat.lt_succ_of_lt hlt)
    have G:s.heap.objs.size∉[(s.heap.push (bD led)).objs.size,t]:=by
     intro z;rcases Dw.mp z with z|z
     .rw[m]at z;exact DB (Nat.lt_succ_self _) z
     .exact Nat.ne_of_gt hlt (Dt.mp z)
    have H:∀i:Nat,ys[i]?=(bs[i]?).map Value.ref:=λi=>by rw[<-Array.getElem?_toList,hb,Dj]
    refine sF (B:=λb k=>∃j:Nat,bs[j]?=Vo b/\kk[j]?=Vo k) ((Walks.list y _ t C ys).toS) s.heap.objs.size G (by simp only[Around.in1_units];omega) bs kk U (λj b k I J=>⟨j,I,J⟩) W (λi v hv=>?_) (λi s' hs b K o ho=>?_) (ys.size-0) 0 _ [] (by omega) (Nat.zero_le _) ⟨⟨_,Df _ rfl,rfl,rfl⟩,x.push _⟩ ⟨List.nodup_nil,bD led,#[],0,_,De _ S,⟨rfl,rfl,rfl⟩,rfl,rfl,.inl rfl,(show 0*5<7*3 by decide),rfl,(by rw[Array.map_empty];exact Tb.TOk.nil 7),λe he=>(by simp at he),λk hk=>(by cases hk),λ_=>.inl rfl⟩ (DC _) (λk=>by simp) (λj b k m e2=>?_) λs' D p d hD=>?_
    .have n:ys[i]?=Vo v:=hv;rw[H i]at n;obtain⟨b,e,rfl⟩:=Du.mp n;exact⟨b,rfl,e⟩
    .cases Dt.mp K;obtain⟨o',L,_,M⟩:=hs.1;rw[L]at ho;cases ho;exact⟨_,M⟩
    .obtain⟨o,items,q,ho,r⟩:=f j b k m e2;exact⟨o,items,q,De _ (De _ ho),r⟩
    .obtain⟨h',g',d',N,O⟩:=s';have I:g'=s.gens:=p.gens;have J:d'=s.drawn:=p.drawn;have q3:O=s.os:=p.os;subst I J q3;show Vf _ _ _ _ _ _;refine Dc ?_;show Vf _ _ (ret Value.none) _ _ _;refine Dc ⟨rfl,h',N,D,rfl,d,hD,λb o hb e=>p.heap b o (λz=>?_) (De _ (De _ e))⟩;rcases Dw.mp z with z|z
     .exact DB hb z
     .have z:=Dt.mp z;rw[m]at z;exact DB (Nat.lt_succ_of_lt hb) z
   .cases Z with
    | error e=>exact a
    | ok f2=>
     cases f2 with
     | ret r=>
      obtain⟨rfl,h',tk,D,rfl,d⟩:=a
      repeat (any_goals (first|assumption|wp_step))
      exact h _ _ D d
     | _=>exact a.elim
  | _=>exact u.elim
end
namespace SF
def B7:entryFor table "set.__iter__" = Vo Builtin.«frozenset.__iter__»:=entryFor_alias (id':="frozenset.__iter__") (by kernel_rfl) rfl (by decide +kernel) (by kernel_rfl)
def BE(a:Va):argsOk "set.__iter__" ⟨[a],[]⟩:=by unfold argsOk;kernel_rfl
def slot_next:Slot "set_iterator" "__next__" "set_iterator.__next__":=
 .of (owner:="set_iterator") (n:="__next__") (by rw[typeLookup_type,builtinLookup_eq_fast];kernel_rfl) (by decide +kernel) (by decide +kernel) (by decide +kernel)
  (by first|exact .inl (by decide +kernel)|exact .inr (by decide +kernel)) (by rw[isSubtype_type];kernel_rfl)
def entry_next:entryFor table "set_iterator.__next__" = Vo Builtin.«set_iterator.__next__»:=entryFor_of_fast (by kernel_rfl)
def args_next(a:Va):argsOk "set_iterator.__next__" ⟨[a],[]⟩:=by unfold argsOk;kernel_rfl
def vx:Slot "set_iterator" "__iter__" "set_iterator.__iter__":=
 .of (owner:="set_iterator") (n:="__iter__") (by rw[typeLookup_type,builtinLookup_eq_fast];kernel_rfl) (by decide +kernel) (by decide +kernel) (by decide +kernel)
  (by first|exact .inl (by decide +kernel)|exact .inr (by decide +kernel)) (by rw[isSubtype_type];kernel_rfl)
def yz:entryFor table "set_iterator.__iter__" = Vo Builtin.«dict_keyiterator.__iter__»:=entryFor_alias (id':="dict_keyiterator.__iter__") (by kernel_rfl) rfl (by decide +kernel) (by kernel_rfl)
def ze(a:Va):argsOk "set_iterator.__iter__" ⟨[a],[]⟩:=by unfold argsOk;kernel_rfl
end SF
section
variable {P:Vd} {w:Ve} {A:Vi} {E:Va->Vc->Prop} {s:Vc}
def xE{Q:Nat->Vc->Prop}(a:n≠0)(h:∀i d,i<n->Q i { s with drawn:=d }):Vf (Vg P w) A (choose .order n) Q E s:=λc p b=>by unfold choose;rw[Sem.wp_choose];exact⟨a,by rw[Sem.wp_pure];exact h _ _ (Nat.mod_lt _ (Nat.pos_of_ne_zero a))⟩
theorem nj{α:Type}:∀{l:List α} {i:Nat} (h:i<l.length),(l[i]::l.eraseIdx i).Perm l
 | [],i,h=>by cases h
 | x::l,0,h=>.refl _
 | x::l,i+1,h=>by have:=nj (l:=l) (i:=i) (Nat.lt_of_succ_lt_succ h);exact(List.Perm.swap _ _ _).trans (this.cons x)
theorem qI{α:Type}:∀(n:Nat) (xs:List α) (s:Vc) {Q:List α->Vc->Prop},n=xs.length->(∀ys d,ys.Perm xs->Q ys { s with drawn:=d })->Vf (Vg P w) A (drawOrder n xs) Q E s
 | 0,xs,s,Q,a,h=>by obtain rfl:=List.length_eq_zero_iff.mp a.symm;unfold drawOrder;exact Dc (h [] s.drawn (.refl _))
 | n+1,[],s,Q,a,h=>by cases a
 | n+1,x::xs,s,Q,a,h=>by unfold drawOrder;refine CZ (xE (by simp) λi d hi=>?_);have e:(x::xs)[i]?=some (x::xs)[i]:=Di hi;rw[e];dsimp only;refine CZ (qI n _ { s with drawn:=d } (by rw[List.length_eraseIdx_of_lt hi,<-a];rfl) λys b c=>Dc (h _ b ?_));exact(List.Perm.cons _ c).trans (nj hi)
theorem vf{α:Type}(next:Nat->Nat):∀(fuel k:Nat) (left:List α) (out:Array α),fuel=left.length->(pickOrder.go next fuel k left out).toList.Perm (out.toList++left)
 | 0,k,left,out,h=>by obtain rfl:=List.length_eq_zero_iff.mp h.symm;unfold pickOrder.go;rw[List.append_nil]
 | fuel+1,k,left,out,h=>by
  unfold pickOrder.go;have hlt:next k % left.length<left.length:=Nat.mod_lt _ (by omega)
  rw[Di hlt];dsimp only;refine(vf next fuel (k+1) _ _ (by rw[List.length_eraseIdx_of_lt hlt];omega)).trans ?_;rw[Array.toList_push,List.append_assoc];exact(nj hlt).append_left _
def jL{α:Type}(next:Nat->Nat)(xs:Array α):(pickOrder next xs).toList.Perm xs.toList:=by
 have:=vf next xs.size 0 xs.toList #[] (by simp)
 rw[List.nil_append]at this;exact this
abbrev bM(a:Vb)(first:Va)(i n ep:Nat):Obj:={ cls:=.type "set_iterator",data:=.fields #[first,rawInt i,.ref a,rawInt n,rawInt ep] }
def o7{it:Vb}{Q:Option Va->Vc->Prop}(c:A.handled=Vp)(d:Heap.ExtBut it s.heap h1)(f:∀h',Heap.ExtBut it s.heap h'->Q Vp { s with heap:=h' }):
  Vf (Vg P w) A.in1 (newExc (.type "StopIteration") [] >>= raiseNew) (λr s'=>∃v,r=Fin.done (.ret v)/\Vf (Vg P w) A (pure (some v)) Q E s') (λe s'=>Vf (Vg P w) A (do if <-isInstance e (.type "StopIteration")then pure none else throw e) Q E s') { s with heap:=h1 }:=by
 refine CZ ?_;simp only[newExc,newTuple];refine CZ (wpAny_newObj_type ?_ (by size_fits));refine CZ (m:=firstArgMember _ _) (wpAny_of_eq (a:=Value.none) (by first|rfl|(simp only[firstArgMember];rfl)) ?_);refine wpAny_newObj_type ?_ (by size_fits);simp only[raiseNew];refine CZ (wpAny_handled ?_);rw[show A.in1.handled=Vp from c];refine CZ (Dc (wpAny_throw ?_));refine CZ (wpAny_isInstance (T:="StopIteration") (b:=true) ⟨_,Df _ rfl,rfl⟩ isSubtype_stop ?_);exact Dc (f _ ((d.push _).push _))
def gW{it:Vb}{first x:Va}{i k:Nat}{b:Array Va}(ho:h.get? it=Vo (bM a first i n ep))(c:(#[first,rawInt i,.ref a,rawInt n,rawInt ep]:Array Va).setIfInBounds k x=b):
  (h.update it (Obj.mapFields (·.setIfInBounds k x))).get? it=Vo { cls:=.type "set_iterator",data:=.fields b }:=by
 have:=Heap.get?_update_self (Obj.mapFields (·.setIfInBounds k x)) ho (Obj.isFreed_of_fields (Obj.data_mapFields rfl _));rw[this,<-c];rfl
def xZ{it:Vb}{i:Nat}{es:Array (Int×Va)}{Q:Option Va->Vc->Prop}(e:w.params.followText "set-order" = true)(hit:s.heap.get? it=Vo (bM a (rawInt 0) i es.size ep))(ho:s.heap.get? a=Vo o)(hd:o.data=.set es ep t)(c:t.fits es.size=true)
  {x:Int×Va} (f:(pickOrder (w.params.setOrder a ep) es)[i]?=Vo x) (g:∀h',h'.get? it=Vo (bM a (rawInt 0) (i+1) es.size ep)->Heap.SameBut it s.heap h'->Q (Vo x.2) { s with heap:=h' }):Vf (Vg P w) A (pyNext (.ref it)) Q E s:=by
 have T:s.TypeIs (.ref it) "set_iterator":=⟨_,hit,rfl⟩;unfold pyNext;refine CZ (wpAny_attempt (Ec (name:=DR "__next__") T SF.slot_next (wpAny_call_entry SF.slot_next T SF.entry_next ?_ (SF.args_next _))));show Vf _ _ (fieldsOf (.ref it) >>= _) _ _ s;refine CZ (wpAny_fieldsOf hit rfl ?_);show Vf _ _ (setEntries a >>= _) _ _ s;unfold setEntries;refine CZ (CZ (Eb ho hd c (Dc ?_)));rw[Eg (by simp)];show Vf _ _ (setNext a 0 _ _ >>= _) _ _ s;unfold setNext;refine CZ (CZ (Eb ho hd c ?_));dsimp only;unfold setsByText;refine CZ (CZ (wpAny_askSetting (Dc ?_)));rw[show (Vg P w).w.params.followText "set-order" = true from e];simp only[if_true];rw[Eg (by simp)];unfold setWalk;refine CZ (CZ (Eb ho hd c ?_));dsimp only;unfold setsByText;refine CZ (CZ (wpAny_askSetting (Dc ?_)));rw[show (Vg P w).w.params.followText "set-order" = true from e];simp only[if_true];refine CZ (wpAny_askSetting (Dc ?_));rw[Dv];have d:(pickOrder ((Vg P w).w.params.setOrder a ep) es)[i]?=Vo x:=f;rw[d];refine Dc ?_;dsimp only[Option.map_some,Option.map_none];refine CZ (wpAny_setField hit rfl (by simp) ?_);have h:=gW (k:=0) (x:=rawInt (0:Nat)) hit rfl;have b:(s.heap.update it (Obj.mapFields (·.setIfInBounds 0 (rawInt (0:Nat))))).get? it=Vo (bM a (rawInt 0) i es.size ep):=h;refine CZ (wpAny_setField (s:={ s with heap:=s.heap.update it (Obj.mapFields (·.setIfInBounds 0 (rawInt (0:Nat)))) }) b rfl (by simp) ?_);have j:=gW (k:=1) (x:=rawInt ((i:Int)+1)) b rfl;refine Dc ⟨_,rfl,Dc (g _ ?_ ((Heap.SameBut.update ..).trans (Heap.SameBut.update ..)))⟩;exact j
def BJ{it:Vb}{i:Nat}{es:Array (Int×Va)}{Q:Option Va->Vc->Prop}(e:A.handled=Vp)(d:w.params.followText "set-order" = true)(hit:s.heap.get? it=Vo (bM a (rawInt 0) i es.size ep))(ho:s.heap.get? a=Vo o)(hd:o.data=.set es ep t)(b:t.fits es.size=true)
  (f:(pickOrder (w.params.setOrder a ep) es)[i]?=Vp) (g:∀h',Heap.ExtBut it s.heap h'->Q Vp { s with heap:=h' }):Vf (Vg P w) A (pyNext (.ref it)) Q E s:=by
 have T:s.TypeIs (.ref it) "set_iterator":=⟨_,hit,rfl⟩;unfold pyNext;refine CZ (wpAny_attempt (Ec (name:=DR "__next__") T SF.slot_next (wpAny_call_entry SF.slot_next T SF.entry_next ?_ (SF.args_next _))));show Vf _ _ (fieldsOf (.ref it) >>= _) _ _ s;refine CZ (wpAny_fieldsOf hit rfl ?_);show Vf _ _ (setEntries a >>= _) _ _ s;unfold setEntries;refine CZ (CZ (Eb ho hd b (Dc ?_)));rw[Eg (by simp)];show Vf _ _ (setNext a 0 _ _ >>= _) _ _ s;unfold setNext;refine CZ (CZ (Eb ho hd b ?_));dsimp only;unfold setsByText;refine CZ (CZ (wpAny_askSetting (Dc ?_)));rw[show (Vg P w).w.params.followText "set-order" = true from d];simp only[if_true];rw[Eg (by simp)];unfold setWalk;refine CZ (CZ (Eb ho hd b ?_));dsimp only;unfold setsByText;refine CZ (CZ (wpAny_askSetting (Dc ?_)));rw[show (Vg P w).w.params.followText "set-order" = true from d];simp only[if_true];refine CZ (wpAny_askSetting (Dc ?_));rw[Dv];have c:(pickOrder ((Vg P w).w.params.setOrder a ep) es)[i]?=Vp:=f;rw[c];refine Dc ?_;dsimp only[Option.map_some,Option.map_none];refine CZ (wpAny_setField hit rfl (by simp) ?_);exact o7 (s:=s) (it:=it) e (Heap.SameBut.update ..).extBut g
def yM{it:Vb}{i:Nat}{es:Array (Int×Va)}{Q:Option Va->Vc->Prop}{b:Vb}{ys:List Nat}(c:s.heap.get? b=Vo (seqObj "tuple" (ys.map λ(i:Nat)=>rawInt i).toArray 0))(hit:s.heap.get? it=Vo (bM a (.ref b) i es.size ep))(ho:s.heap.get? a=Vo o)(hd:o.data=.set es ep t)(e:t.fits es.size=true)
  {y:Nat} {x:Int×Va} (f:ys[i]?=Vo y) (g:es[y]?=Vo x) (h:∀h',h'.get? it=Vo (bM a (.ref b) (i+1) es.size ep)->Heap.SameBut it s.heap h'->Q (Vo x.2) { s with heap:=h' }):Vf (Vg P w) A (pyNext (.ref it)) Q E s:=by
 have T:s.TypeIs (.ref it) "set_iterator":=⟨_,hit,rfl⟩;unfold pyNext;refine CZ (wpAny_attempt (Ec (name:=DR "__next__") T SF.slot_next (wpAny_call_entry SF.slot_next T SF.entry_next ?_ (SF.args_next _))));show Vf _ _ (fieldsOf (.ref it) >>= _) _ _ s;refine CZ (wpAny_fieldsOf hit rfl ?_);show Vf _ _ (setEntries a >>= _) _ _ s;unfold setEntries;refine CZ (CZ (Eb ho hd e (Dc ?_)));rw[Eg (by simp)];show Vf _ _ (seqItems? (.ref b) >>= _) _ _ s;refine CZ (wpAny_seqItems c rfl ?_);dsimp only;rw[Dv];have d:((ys.map λ(i:Nat)=>rawInt i).toArray:Array Va)[i]?=Vo (rawInt y):=by rw[List.getElem?_toArray,Dj,f];rfl
 rw[d];show Vf _ _ (setNextDrawn a _ _ >>= _) _ _ s;unfold setNextDrawn;refine CZ (CZ (Eb ho hd e ?_));dsimp only;rw[Eg (by simp)];simp only[Dv];rw[g];refine Dc ?_;refine CZ (wpAny_setField hit rfl (by simp) ?_);have j:=gW (k:=1) (x:=rawInt ((i:Int)+1)) hit rfl;exact Dc ⟨_,rfl,Dc (h _ j (Heap.SameBut.update ..))⟩
def CT{it:Vb}{i:Nat}{es:Array (Int×Va)}{Q:Option Va->Vc->Prop}{b:Vb}{ys:List Nat}(f:A.handled=Vp)(c:s.heap.get? b=Vo (seqObj "tuple" (ys.map λ(i:Nat)=>rawInt i).toArray 0))(hit:s.heap.get? it=Vo (bM a (.ref b) i es.size ep))(ho:s.heap.get? a=Vo o)(hd:o.data=.set es ep t)(g:t.fits es.size=true)
  (h:ys[i]?=Vp) (j:∀h',Heap.ExtBut it s.heap h'->Q Vp { s with heap:=h' }):Vf (Vg P w) A (pyNext (.ref it)) Q E s:=by
 have T:s.TypeIs (.ref it) "set_iterator":=⟨_,hit,rfl⟩;unfold pyNext;refine CZ (wpAny_attempt (Ec (name:=DR "__next__") T SF.slot_next (wpAny_call_entry SF.slot_next T SF.entry_next ?_ (SF.args_next _))));show Vf _ _ (fieldsOf (.ref it) >>= _) _ _ s;refine CZ (wpAny_fieldsOf hit rfl ?_);show Vf _ _ (setEntries a >>= _) _ _ s;unfold setEntries;refine CZ (CZ (Eb ho hd g (Dc ?_)));rw[Eg (by simp)];show Vf _ _ (seqItems? (.ref b) >>= _) _ _ s;refine CZ (wpAny_seqItems c rfl ?_);dsimp only;rw[Dv];have d:((ys.map λ(i:Nat)=>rawInt i).toArray:Array Va)[i]?=Vp:=by rw[List.getElem?_toArray,Dj,h];rfl
 rw[d];refine CZ (wpAny_setField hit rfl (by simp) ?_);have l:=gW (k:=0) (x:=rawInt 0) hit rfl;have e:(s.heap.update it (Obj.mapFields (·.setIfInBounds 0 (rawInt 0)))).get? it=Vo (bM a (rawInt 0) i es.size ep):=l;refine CZ (wpAny_setField (s:={ s with heap:=s.heap.update it (Obj.mapFields (·.setIfInBounds 0 (rawInt 0))) }) e rfl (by simp) ?_);exact o7 (s:=s) (it:=it) f ((Heap.SameBut.update ..).trans (Heap.SameBut.update ..)).extBut j
def m9{it:Vb}{first:Va}{i:Nat}(hit:s.heap.get? it=Vo (bM a first i n ep))(h:Q (.ref it) s):Vf (Vg P w) A (pyIter (.ref it)) Q E s:=by have T:s.TypeIs (.ref it) "set_iterator":=⟨_,hit,rfl⟩;refine wpAny_pyIter_slot T SF.vx (wpAny_call_entry SF.vx T SF.yz ?_ (SF.ze _));show Vf _ _ (ret (.ref it)) _ _ s;exact Dc ⟨_,rfl,"set_iterator",_,T,SF.slot_next.lookup,h⟩
def xY(n:A.handled=Vp)(j:w.params.followText "set-order" = true)(I a:Vb)(f:a≠I){es:Array (Int×Va)}(hd:o.data=.set es ep t)(k:t.fits es.size=true):
  Walks P w A I [I,a] [I] es.size (λi v=>∃x,(pickOrder (w.params.setOrder a ep) es)[i]?=Vo x/\v=x.2) (λi h=>h.get? I=Vo (bM a (rawInt 0) i es.size ep)/\h.get? a=Vo o) where
 sub:=λb hb=>by simp at hb;simp[hb]
 frame:=λ_ _ _ st l=>⟨l I (by simp) _ st.1,l a (by simp) _ st.2⟩
 item:=λi s Q E hi st c=>by
  have p:(pickOrder (w.params.setOrder a ep) es).size=es.size:=by rw[<-Dl,(jL _ es).length_eq,Dl]
  have m:=getElem?_pos (pickOrder (w.params.setOrder a ep) es) i (by omega);refine xZ j st.1 st.2 hd k m λh' d sb=>?_;exact c _ h' s.toks ⟨_,m,rfl⟩ ⟨d,(sb.2 a f).trans st.2⟩ λb o hb e=>sb.extBut b o (λh=>hb (by simp[h])) e
 done:=λs Q E st c=>by
  have p:(pickOrder (w.params.setOrder a ep) es).size=es.size:=by rw[<-Dl,(jL _ es).length_eq,Dl]
  exact BJ n j st.1 st.2 hd k (Array.getElem?_eq_none (by omega)) λh' g=>c h' s.toks λb o hb e=>g b o (λh=>hb (by simp[h])) e
 self:=λ_ _ _ _ st c=>m9 st.1 c
def A0(z:A.handled=Vp)(I a c:Vb)(k:a≠I)(d:c≠I){es:Array (Int×Va)}{ys:List Nat}(hd:o.data=.set es ep t)(r:t.fits es.size=true)(m:ys.Perm (Ed es.size)):
  Walks P w A I [I,a,c] [I] es.size (λi v=>∃y x,ys[i]?=Vo y/\es[y]?=Vo x/\v=x.2) (λi h=>h.get? I=Vo (bM a (.ref c) i es.size ep)/\h.get? a=Vo o/\h.get? c=Vo (seqObj "tuple" (ys.map λ(i:Nat)=>rawInt i).toArray 0)) where
 sub:=λb hb=>by simp at hb;simp[hb]
 frame:=λ_ _ _ st n=>⟨n I (by simp) _ st.1,n a (by simp) _ st.2.1,n c (by simp) _ st.2.2⟩
 item:=λi s Q E hi st f=>by
  have B:ys.length=es.size:=by rw[m.length_eq,List.length_range]
  have g:=Di (l:=ys) (i:=i) (by omega);have hlt:ys[i]<es.size:=List.mem_range.mp (m.mem_iff.mp (DI (by omega)));have u:=getElem?_pos es ys[i] hlt;refine yM st.2.2 st.1 st.2.1 hd r g u λh' j sb=>?_;exact f _ h' s.toks ⟨_,_,g,u,rfl⟩ ⟨j,(sb.2 a k).trans st.2.1,(sb.2 c d).trans st.2.2⟩ λb o hb e=>sb.extBut b o (λh=>hb (by simp[h])) e
 done:=λs Q E st f=>by
  have B:ys.length=es.size:=by rw[m.length_eq,List.length_range]
  exact CT z st.2.2 st.1 st.2.1 hd r (List.getElem?_eq_none (by omega)) λh' p=>f h' s.toks λb o hb e=>p b o (λh=>hb (by simp[h])) e
 self:=λ_ _ _ _ st f=>m9 st.1 f
end
end L2
namespace PyProof.Rows
open PySem
end PyProof.Rows
namespace L2
open PySem PySem.Spec PyProof.Rows
section
variable {P:Vd} {w:Ve} {A:Vi} {E:Va->Vc->Prop} {s:Vc}
def xu:Slot "set" "__len__" "set.__len__":=
 .of (owner:="set") (n:="__len__") (by rw[typeLookup_type,builtinLookup_eq_fast];kernel_rfl) (by decide +kernel) (by decide +kernel) (by decide +kernel)
  (by first|exact .inl (by decide +kernel)|exact .inr (by decide +kernel)) (by rw[isSubtype_type];kernel_rfl)
def sub_set_set:isSubtype (.type "set") (.type "set")=pure true:=by rw[isSubtype_type];kernel_rfl
def split_len:splitId "set.__len__" = Vo ("set","__len__"):=by kernel_rfl
def A4{Q:Bool->Vc->Prop}(T:s.TypeIs (.ref a) "set")(h:Q false s):Vf (Vg P w) A (Builtin.List.listLengthHint (.ref a)) Q E s:=by unfold Builtin.List.listLengthHint;refine CZ (wpAny_specialOf T xu.lookup ?_);dsimp only;rw[split_len];dsimp only;refine CZ (wpAny_isInstance (T:="set") (b:=true) T sub_set_set ?_);simp only[Bool.not_true,DW,if_false];rw[Eh (by first|rfl|decide +kernel|kernel_rfl)];refine CZ (wpAny_typeOf T ?_);exact Dc h
open Classical in
def sr{α:Type}{D ds:List α}(hd:D.Nodup)(hs:∀k∈D,k∈ds)(b:ds.length=D.length):ds.Perm D:=by
 induction D generalizing ds with
 | nil=>
  rw[List.length_nil,List.length_eq_zero_iff]at b;subst b;exact .refl _
 | cons d D f=>
  have c:=hs d Dn;have g:=List.perm_cons_erase c;have a:=List.nodup_cons.mp hd;refine g.trans ((f a.2 (λk e=>?_) ?_).cons d)
  .refine(List.mem_erase_of_ne ?_).mpr (hs k (Dk _ e));rintro rfl;exact a.1 e
  .rw[List.length_erase_of_mem c,b];rfl
def key_inj{b:Vb}{k1 k2:List Key}(h1:IsTupleKey (aN P w) h k1 b)(h2:IsTupleKey (aN P w) h k2 b):k1=k2:=by obtain⟨o1,i1,e,z1,_,z2,z3⟩:=h1;obtain⟨f,i2,g,a,_,c,d⟩:=h2;rw[z1]at a;cases a;rw[z2]at c;cases c;exact z3.inj d
end
abbrev qT(P:Vd)(w:Ve)(x:Vb×List Key):Int×Va:=(tupleKeyHash (aN P w) x.2,.ref x.1)
def jR(P:Vd)(w:Ve)(h:Vh)(a:Vb)(L:List (Vb×List Key)):Prop:=∃o es ep t,h.get? a=Vo o/\o.ExactSet/\o.data=.set es ep t/\t.dummies = #[]/\Tb.Mask t.mask/\es.size*5<t.mask*3/\Tb.TOk t.mask t.place (es.map (·.1))/\es.toList=L.map (qT P w)/\((∀x∈L,∃z,Sum.inr z∈x.2)->L=[]\/t.plain=false)
def i5(P:Vd)(w:Ve)(a:Vb)(L:List (Vb×List Key)):HO:=.ext λh=>jR P w h a L
section
variable {P:Vd} {w:Ve}
theorem vU{h:Vh}{B:Vb->List Key->Prop}{D:List (List Key)}:∀{es:List (Int×Va)},(∀e∈es,∃b k,e=(tupleKeyHash (aN P w) k,Value.ref b)/\k∈D/\IsTupleKey (aN P w) h k b/\B b k)->∃L:List (Vb×List Key),es=L.map (qT P w)/\∀x∈L,x.2∈D/\IsTupleKey (aN P w) h x.2 x.1/\B x.1 x.2
 | [],_=>⟨[],rfl,λx a=>by cases a⟩
 | e::es,hall=>by
  obtain⟨L,h1,h2⟩:=vU (es:=es) λx a=>hall x (Dk _ a);obtain⟨b,k,rfl,f,c,d⟩:=hall e Dn;refine⟨(b,k)::L,by rw[h1];rfl,λx a=>?_⟩;rcases Dw.mp a with rfl|a
  .exact⟨f,c,d⟩
  .exact h2 x a
def dF.obj{D:List (List Key)}(s:dF P w B h a D):∃L,jR P w h a L/\(L.map (·.2)).Perm D/\∀x∈L,B x.1 x.2:=by
 obtain⟨i,o,es,ep,t,ho,hex,hd,j,u,d,hlen,v,hall,g,l⟩:=s;obtain⟨L,h1,h2⟩:=vU hall;have m:L.length=D.length:=by rw[<-hlen,<-Dl,h1,Dh]
 refine⟨L,⟨o,es,ep,t,ho,hex,hd,j,u,d,v,h1,λn=>?_⟩,sr i (λk p=>?_) (by rw[Dh,m]),λx n=>(h2 x n).2.2⟩
 .have c:∀k∈D,∃z,Sum.inr z∈k:=λk p=>by obtain⟨b,hb,f⟩:=g k p;rw[h1]at hb;obtain⟨x,c,e⟩:=List.mem_map.mp hb;have r:Value.ref x.1=Value.ref b:=congrArg Prod.snd e;cases r;rw[key_inj f (h2 x c).2.1];exact n x c
  rcases l c with e|e
  .subst e;rw[List.length_nil,List.length_eq_zero_iff]at m;exact .inl m
  .exact .inr e
 .obtain⟨b,hb,f⟩:=g k p;rw[h1]at hb;obtain⟨x,c,e⟩:=List.mem_map.mp hb;have r:Value.ref x.1=Value.ref b:=congrArg Prod.snd e;cases r;rw[key_inj f (h2 x c).2.1];exact List.mem_map.mpr ⟨x,c,rfl⟩
def zm{L:List (Vb×List Key)}(S:jR P w h a L):bV P w H h a (i5 P w a L):=by
 refine⟨S,?_,λh1 h2 z k=>?_⟩
 .obtain⟨o,es,ep,t,ho,_⟩:=S;exact⟨o,ho⟩
 .obtain⟨o',b,c,e,d,r⟩:=z;exact⟨o',b,c,e,k _ d,r⟩
end
section
variable {X:Cx} {pins:List (Vb×Obj)} {σ:St} {H:Hp} {s:Vc}
def Inv.dr(I:Inv X pins σ H s)(d:Drawn):Inv X pins σ H { s with drawn:=d }:=⟨I.ok,I.os,I.bare,I.base,I.loc,I.cell,I.free,I.freeC,I.pin,I.hok,I.len⟩
theorem lP:∀{bs:List Vb} {us:List Va},Vals (bs.map V.ref) us->us=bs.map Value.ref
 | [],_,.nil=>rfl
 | b::bs,_,.cons r t=>by rw[List.map_cons,<-lP (bs:=bs) t];exact congrArg (· :: _) r
def za(I:Inv X pins σ H s){b:Vb}{k:List Key}(e:H b=Vo (.tup (k.map kV))):IsTupleKey (aN X.prog X.w) s.heap k b:=by obtain⟨_,is,a,o,ho,c,n,hd⟩:=I.hok b _ e;exact⟨o,_,n,ho,c,hd,vR a⟩
def iR(H:Hp)(bs:List Vb)(kk:List (List Key)):Prop:=bs.length=kk.length/\∀(j:Nat) (b:Vb) (k:List Key),bs[j]?=Vo b->kk[j]?=Vo k->H b=Vo (.tup (k.map kV))
def iR.ext{bs:List Vb}(e:Ext H H')(h:iR H bs kk):iR H' bs kk:=⟨h.1,λj b k a c=>e _ _ (h.2 j b k a c)⟩
end
section
variable {X:Cx}
def wq(P:Vd)(w:Ve):List V->Hp->VK->Prop:=λxs H Q=>∃p bs a,xs=[.ref p]/\(H p=Vo (.tup (bs.map V.ref))\/H p=Vo (.lst (bs.map V.ref)))/\iR H bs a/\a.length<1400 ∧
 ∀l L,H l=Vp->(L.map Prod.snd).Nodup->(∀k,k∈L.map Prod.snd↔k∈a)->(∀x∈L,H x.1=Vo (.tup (x.2.map kV)))->Q (.ref l) (upd H l (i5 P w l L))
def tY{k:Nat}(y:Room k X.A):bN X (.type "set") (wq X.prog X.w):=by
 intro pins s σ H xs us Q I r h;obtain⟨p,bs,kk,rfl,a,⟨h2,z⟩,B,q⟩:=h;obtain⟨u,rfl,F⟩:=vals1 r;cases F;have N:=y.units;have C:=y.hd;have keys:∀(j:Nat) (b:Vb) (k:List Key),bs[j]?=Vo b->kk[j]?=Vo k->IsTupleKey (aN X.prog X.w) s.heap k b:=λj b k d f=>za I (z j b k d f);have fin:∀(h':Vh) (tk:Nat) (D:List (List Key)),iM X.prog X.w s bs kk D h'->∃v H',Inv X pins σ H' { s with heap:=h',toks:=tk }/\RelV v (.ref s.heap.objs.size)/\Q v H':=λh' tk D G=>by obtain⟨E,hD,J⟩:=G;obtain⟨L,K,c,g⟩:=E.obj;have i:=I.hok.fresh (DC _);refine⟨.ref s.heap.objs.size,_,I.laid (t':=tk) (λb o e=>J b o (Dg e) e) (DC _) (zm K),rfl,q _ L i (c.nodup_iff.mpr E.1) (λk=>(c.mem_iff.trans (hD k))) λx M=>?_⟩;obtain⟨j,d,f⟩:=g x M;exact z j _ _ d f
 rcases a with a|a
 .obtain⟨_,l,m,gt⟩:=I.hok p _ a;have t:=lP m;subst t;refine xx (kk:=kk) (bs:=bs) C (by omega) (show s.heap.IsTuple p _ from gt) rfl (by simp[h2]) (by simp[h2];exact B) keys fin
 .obtain⟨_,l,n,m,gt⟩:=I.hok p _ a;have t:=lP m;subst t;refine AS (kk:=kk) (bs:=bs) C (by omega) (show s.heap.IsList p _ from⟨_,gt,rfl,n,rfl⟩) rfl (by simp[h2]) (by simp[h2];exact B) keys fin
def CK(P:Vd)(w:Ve):List V->Hp->VK->Prop:=λxs H Q=>∃p L,xs=[.ref p]/\H p=Vo (i5 P w p L)/\L.length<1400/\Q (.int L.length) H
def si:bN X (.builtin "len") (CK X.prog X.w):=by
 intro pins s σ H xs us Q I r h;obtain⟨p,L,rfl,e,j,q⟩:=h;obtain⟨u,rfl,f⟩:=vals1 r;cases f;obtain⟨⟨o,es,ep,t,ho,hex,hd,b,k,c,g,d,_⟩,_⟩:=I.hok p _ e;have a:t.place.size=es.size:=by rw[g.len,Array.size_map]
 have hs:es.size=L.length:=by rw[<-Dl,d,Dh]
 have i:t.fits es.size=true:=by
  simp only[SetTable.fits,DQ,beq_iff_eq,decide_eq_true_eq];refine⟨a,?_⟩;unfold SetTable.fill;rw[b,a];have:es.size<=t.mask:=by omega
  simpa using this
 refine call_len_set ho hex hd i (by omega) ⟨.int L.length,H,I.tok _,⟨s.toks+1,by rw[hs]⟩,q⟩
end
section
variable {X:Cx}
def lB(neg:Bool):R2:=λx y H Q=>∃n p xs d ds,bf H n x d/\y=.ref p/\H p=Vo (.lst xs)/\Paired (bf H n) xs ds/\n<=50/\Q (.bl (if neg then !(ds.any λe=>PyData.eqv e d)else ds.any λe=>PyData.eqv e d)) H
def CW{k:Nat}(b:Room k X.A):bh X (compareOp .In) (lB false):=by intro pins s σ H x y v u Q I c e h;obtain⟨n,p,xs,d,ds,h1,rfl,h2,a,f,q⟩:=h;have g:bf H (n+1) (.ref p) (.list ds):=.inr ⟨p,xs,ds,rfl,.inr ⟨h2,rfl⟩,a⟩;obtain⟨j,ra⟩:=bf.reads I n h1 c;obtain⟨bs,i⟩:=bf.reads I (n+1) g e;have l1:=bf.lay n h1;have l2:=j7 (λ{x d}=>bf.lay (H:=H) n) a;have l:=b.units;have m:min (PyData.depthAll ds) d.depth<=50:=DM (Nat.min_le_right _ _) (DM l1.2 f);exact SeqAt.in_list_reads i ra l2.1 l1.1 (by omega) ⟨.bl _,H,I,rfl,q⟩
def Cz{k:Nat}(b:Room k X.A):bh X (compareOp .NotIn) (lB true):=by intro pins s σ H x y v u Q I c e h;obtain⟨n,p,xs,d,ds,h1,rfl,h2,a,f,q⟩:=h;have g:bf H (n+1) (.ref p) (.list ds):=.inr ⟨p,xs,ds,rfl,.inr ⟨h2,rfl⟩,a⟩;obtain⟨j,ra⟩:=bf.reads I n h1 c;obtain⟨bs,i⟩:=bf.reads I (n+1) g e;have l1:=bf.lay n h1;have l2:=j7 (λ{x d}=>bf.lay (H:=H) n) a;have l:=b.units;have m:min (PyData.depthAll ds) d.depth<=50:=DM (Nat.min_le_right _ _) (DM l1.2 f);exact SeqAt.notIn_list_reads i ra l2.1 l1.1 (by omega) ⟨.bl _,H,I,rfl,q⟩
def zD{neg:Bool}{x:V}{p:Vb}{d:PyData}{ds:List PyData}{Q:VK}(h1:bf H n x d)(h2:H p=Vo (.lst xs))(a:Paired (bf H n) xs ds)(b:n<=50)(q:Q (.bl (if neg then !(ds.any λe=>PyData.eqv e d)else ds.any λe=>PyData.eqv e d)) H):lB neg x (.ref p) H Q:=
 ⟨n,p,xs,d,ds,h1,rfl,h2,a,b,q⟩
end
abbrev Row3:=Vn×Tok×Va
def jx(w:Ve)(e:Row3):DictEntry:=⟨PyData.keyHash w.params e.1,.str e.1 e.2.1,e.2.2⟩
def kN(w:Ve)(l:List Row3)(ep:Nat):Obj:={ cls:=.type "dict",dict:=Vp,data:=.dict (l.map (jx w)).toArray ep,slots:=#[] }
structure GDict(w:Ve)(K:Dd)(a:Vb)(kvs:List (Key×V)):Prop where
 has:∃l ep,K.lookup a=Vo (kN w l ep)/\KV kvs (l.map λe=>((Sum.inr e.1:Key),e.2.2))
 nd:(kvs.map (·.1)).Nodup
 sm:(a == sysModules)=false
theorem tI{P:Vd}{w:Ve}:∀l:List Row3,Pairs (aN P w) (l.map (jx w)) (l.map λe=>((Sum.inr e.1:Key),e.2.2))
 | []=>.nil
 | e::l=>.cons (og P w e.1 e.2.1) rfl (tI l)
def zq(l:List Row3):KeysOf (aN P w) (l.map (jx w)).toArray:=λe b=>by
 have a:e∈l.map (jx w):=by simpa using b
 obtain⟨x,_,rfl⟩:=List.mem_map.mp a;exact⟨.inr x.1,og P w x.1 x.2.1,rfl⟩
def GDict.at{kvs:List (Key×V)}(D:GDict X.w X.K a kvs)(I:Inv X pins σ H s):∃vs,KV kvs vs/\s.heap.DictOf (aN X.prog X.w) a vs:=by obtain⟨l,ep,b,r⟩:=D.has;refine⟨_,r,kN X.w l ep,_,ep,I.kIn _ _ b,⟨rfl,rfl,rfl⟩,rfl,zq l,tI l,?_⟩;rw[<-r.keys];exact D.nd
section
variable {X:Cx} {x:Vn} {a:Vb} {kvs:List (Key×V)} {i:Vk} {ty:TE} {p pos:Pos}
def pV(neg:Bool)(kvs:List (Key×V))(ty:TE):TE:=λσ H Q=>ty σ H λy H1=>∃k,y=kV k/\Q (.bl (if neg then !(cI kvs k).isSome else(cI kvs k).isSome)) H1
def yd(c:Gl X x)(d:X.mg x=some (.ref a))(D:GDict X.w X.K a kvs)(hi:PE X i ty)(hd:(x == ("__debug__":Vn))=false:=by decide):PC X .In i (.Name x p) (pV false kvs ty):=by intro pins s σ H Q I h;refine aw (hi pins s σ H _ I h) λg s1 ⟨y,H1,b,e,k,f,q⟩=>gp b c d ?_ hd;subst f;obtain⟨vs,rel,dd⟩:=D.at b;refine wpAny_in_of (sx e) D.sm dd.mapOf ?_;rw[<-(rel.val k).isSome_eq];exact⟨.bl (cI kvs k).isSome,H1,b.tok _,rfl,q⟩
def rd_gin{neg:Bool}{Q:VK}(h:ty σ H λy H1=>∃k,y=kV k/\Q (.bl (if neg then !(cI kvs k).isSome else(cI kvs k).isSome)) H1):pV neg kvs ty σ H Q:=h
def qN:R2:=λx y H Q=>∃a b,x=.str a/\y=.str b/\Q (.bl (!decide (b.cps.toList<a.cps.toList))) H
def sH:bh X (compareOp .LtE) qN:=by intro pins s σ H x y v u Q I c d h;obtain⟨a,b,rfl,rfl,q⟩:=h;obtain⟨t,rfl⟩:=c;obtain⟨e,rfl⟩:=d;exact PySem.P.le_str ⟨.bl _,H,I,rfl,q⟩
def rd_leS{a b:Vn}{Q:VK}(h:Q (.bl (!decide (b.cps.toList<a.cps.toList))) H):qN (.str a) (.str b) H Q:=⟨a,b,rfl,rfl,h⟩
theorem ni{α β:Type}{f g:α->Option β}:∀{l:List α},(∀x∈l,f x=g x)->l.filterMap f=l.filterMap g
 | [],_=>rfl
 | x::l,h=>by rw[List.filterMap_cons,List.filterMap_cons,h x Dn,ni λy a=>h y (Dk _ a)]
def BX(n:Nat)(xs:List Va)(h:xs.length=n):(Ed n).filterMap (λi:Nat=>xs[((n:Int)-1+(i:Int)*(-1)).toNat]?)=xs.reverse:=by
 refine List.ext_getElem? λi=>?_;have e:(Ed n).filterMap (λi:Nat=>xs[((n:Int)-1+(i:Int)*(-1)).toNat]?)=(Ed n).map (λi:Nat=>xs.reverse.getD i .none):=by
  rw[<-List.filterMap_eq_map];refine ni λi hi=>?_;have hi:=List.mem_range.mp hi;have:((n:Int)-1+(i:Int)*(-1)).toNat=n-1-i:=by omega
  rw[this,Function.comp_apply,List.getD_eq_getElem?_getD,List.getElem?_reverse (by omega),h,Di (show n-1-i<xs.length by omega)];rfl
 rw[e,Dj];by_cases hi:i<n
 .rw[Di (by simpa using hi),Di (by simpa[h]using hi)];simp[List.getD_eq_getElem?_getD,h,hi]
 .rw[List.getElem?_eq_none (by simpa using hi),List.getElem?_eq_none (by simpa[h]using hi)];rfl
def Aq(a:List Va):slicePick a.toArray Vp Vp (Vo (-1))=a.reverse.toArray:=by
 unfold slicePick;have e:sliceBounds Vp Vp (Vo (-1)) a.toArray.size=((a.length:Int)-1,-1,-1):=by unfold sliceBounds;simp
 rw[e];refine congrArg List.toArray ?_;rw[<-BX a.length a rfl];unfold sliceRange;simp only;rw[Eg (by decide),List.filterMap_map];have b:(if(a.length:Int)-1 > -1 then((a.length:Int)-1 - -1 - -1-1) / - -1 else 0).toNat=a.length:=by rw[show (- -1:Int)=1 by decide,Int.ediv_one];split<;>omega
 rw[b];refine ni λi hi=>?_;rw[Function.comp_apply,show (a.length:Int)-1 + -1*(i:Int)=(a.length:Int)-1+(i:Int) * -1 by omega];simp
def Vals.rev{us:List Va}(r:Vals xs us):Vals xs.reverse us.reverse:=by
 induction r with
 | nil=>exact .nil
 | cons h t a=>
  rw[List.reverse_cons,List.reverse_cons];exact Vals.append a (.cons h .nil)
def oV(K:Dd):V->Hp->VK->Prop:=λx H Q=>∃a xs,x=.ref a/\ah K H a xs/\df H (.lst xs.reverse) Q
def ph(K:Dd)(te:TE)(ts:TO):TE:=λσ H Q=>te σ H λx H1=>ts σ H1 λk H2=>k=Vo (-1)/\oV K x H2 Q
def lR{e st:Vk}{te:TE}{ts:TO}{p2:Pos}(K:Dd)(f:PE X e te)(hs:PO X (Vo st) ts)(g:X.K=K:=by rfl):PE X (.Subscript e (.Slice Vp Vp (Vo st) p2) pos) (ph K te ts):=by
 subst g;intro pins s σ H Q I h;refine Subscript_ (aw (f pins s σ H _ I h) λv s1 ⟨x,H1,j,r1,l⟩=>?_);refine wpAny_Slice ?_;rw[evalPart_none];refine Dc (Dc ?_);refine aw (hs pins s1 σ H1 _ j l) λvs s2 ⟨k,H2,m,n,p⟩=>?_;obtain⟨rfl,a,xs,rfl,t,q⟩:=p;cases n with
 | int i tk=>
 cases r1;have c:Inv X pins σ H2 { s2 with heap:=s2.heap.push { cls:=.type "slice",data:=.fields #[.none,.none,.int (-1) tk] } }:=m.kept (t':=s2.toks) λb u q=>De _ q;obtain⟨y,r,d,z⟩:=c.list t;have hlen:=r.length;show Vf (Vg X.prog X.w) X.A (subscriptTail e (.Slice Vp Vp (Vo st) p2) (.ref a) (.ref s2.heap.objs.size)) (EP X pins σ Q) X.xe { s2 with heap:=s2.heap.push { cls:=.type "slice",data:=.fields #[.none,.none,.int (-1) tk] } };refine tail_any (ops:=[.ref a,.ref s2.heap.objs.size]) d.isList.typeIs slot_list_getitem.lookup (wpAny_getItem_list_slice d.isList (Heap.IsSliceOf.new ..) .none .none (.int (-1) tk) (by decide) ?_ (by rw[Dm];omega)) (by with_unfolding_all rfl);rw[Aq];exact⟨.ref _,_,c.laid (t':=s2.toks) (o:=.lst xs.reverse) (λb u e=>De _ e) (DC _) ⟨by rw[List.length_reverse];exact z,_,0,r.rev,Df _ rfl⟩,rfl,q _ (c.hok.fresh (DC _))⟩
def rd_revL{K:Dd}{te:TE}{ts:TO}{Q:VK}(h:te σ H λx H1=>ts σ H1 λk H2=>k=Vo (-1)/\oV K x H2 Q):ph K te ts σ H Q:=h
def nS{K:Dd}{Q:VK}(e:ah K H a xs)(h:df H (.lst xs.reverse) Q):oV K (.ref a) H Q:=⟨a,xs,rfl,e,h⟩
end
def ij(z:Vn):It:=⟨λi _=>i<z.cps.size,λi H x H'=>H'=H/\∃c,z.cps[i]?=Vo c/\x=.str ⟨#[c]⟩,λi _=>z.cps.size<=i⟩
def Bd{K:Dd}(z:Vn)(t:Tok)(it:Vb):Turn P w K tg (ij z) [it] it (λi h=>h.IsStrIter it (strIterType z) z t i) where
 mem:=by simp
 obj:=λi h st b hb=>by
  have e:b=it:=by simpa using hb
  subst e;obtain⟨o,e,c,d⟩:=st;exact⟨o,e,λv z=>by rw[d]at z;cases z⟩
 keep:=λi h h' st k=>by obtain⟨o,e,r⟩:=st;exact⟨o,k it (by simp) o e,r⟩
 item:=by
  intro X l m n p i pins s σ H E I j st y;subst l m n;have g:z.cps[i]?=Vo z.cps[i]:=Array.getElem?_eq_getElem y;obtain⟨B,C,M,F,G,J⟩:=j it (by simp);have fin:∀(ty:String),ty=strIterType z->["enumerate","zip","dict_itemiterator","dict_reverseitemiterator","odict_iterator","itertools.zip_longest","itertools.pairwise"].contains ty=false->∀h',h'.IsStrIter it ty z t (i+1)->Heap.SameBut it s.heap h' ->
    ∃u,Vo (Value.str ⟨#[z.cps[i]]⟩ s.toks)=Vo u/\Vf (Vg X.prog X.w) X.A (letOwnedTupleGo tg (.ref it) u) (λ_ s2=>∃x H',Inv X pins σ H' s2/\RelV x u/\(ij z).yld i H x H'/\s2.heap.IsStrIter it (strIterType z) z t (i+1)/\∀b∈[it],H' b=Vp) E { s with heap:=h',toks:=s.toks+1 }:=by
   intro ty L N h' a sb;have O:Inv X pins σ H { s with heap:=h',toks:=s.toks+1 }:=I.turned (λb o hb e=>(sb.2 b hb).trans e) B C F G J;obtain⟨o,e,c,d⟩:=id a;exact⟨_,rfl,j5 (s:={ s with heap:=h',toks:=s.toks+1 }) e c d N ⟨.str ⟨#[z.cps[i]]⟩,H,O,⟨_,rfl⟩,⟨rfl,_,g,rfl⟩,by rw[<-L];exact a,λb hb=>(j b hb).1⟩⟩
  cases ha:z.cps.all (· < 128)with
  | true=>
   have f:strIterType z = "str_ascii_iterator":=by unfold strIterType;rw[ha];rfl
   rw[f]at st;exact wpAny_pyNext_ascii_item st g λh' a sb=>fin _ f.symm (by decide) h' a sb
  | false=>
   have f:strIterType z = "str_iterator":=by unfold strIterType;rw[ha];rfl
   rw[f]at st;exact wpAny_pyNext_wide_item st g λh' a sb=>fin _ f.symm (by decide) h' a sb
 done:=by
  intro X l m n p i pins s σ H E I j st y;subst l m n;have g:z.cps[i]?=Vp:=Array.getElem?_eq_none y;obtain⟨B,C,M,F,G,J⟩:=j it (by simp);have fin:∀h',Heap.ExtBut it s.heap h'->(Vp:Option Va)=Vp/\Inv X pins σ H { s with heap:=h' }:=λh' R=>⟨rfl,I.turned (t':=s.toks) (λb o hb e=>R b o hb e) B C F G J⟩;cases ha:z.cps.all (· < 128)with
  | true=>
   have f:strIterType z = "str_ascii_iterator":=by unfold strIterType;rw[ha];rfl
   rw[f]at st;exact wpAny_pyNext_ascii_end (I.ok.hd p) st g fin
  | false=>
   have f:strIterType z = "str_iterator":=by unfold strIterType;rw[ha];rfl
   rw[f]at st;exact wpAny_pyNext_wide_end (I.ok.hd p) st g fin
 self:=λA i s Q E st h=>by
  cases ha:z.cps.all (· < 128)with
  | true=>
   have f:strIterType z = "str_ascii_iterator":=by unfold strIterType;rw[ha];rfl
   rw[f]at st;exact wpAny_pyIter_striter_ascii st h
  | false=>
   have f:strIterType z = "str_iterator":=by unfold strIterType;rw[ha];rfl
   rw[f]at st;exact wpAny_pyIter_striter_wide st h
section
variable {X:Cx} {tg:Vk}
def su(tl:TE):TI:=λσ H R=>tl σ H λx H1=>∃z,x=.str z/\R (ij z) H1
def md{l:Vk}(c:PE X l tl):PI X tg l (su tl):=by
 intro pins s σ H R I h;refine aw (c pins s σ H _ I h) λv s1 ⟨x,H1,a,r1,d⟩=>?_;obtain⟨z,rfl,q⟩:=d;obtain⟨t,rfl⟩:=r1;refine wpAny_pyIter_strU ?_;refine⟨s1.heap.objs.size,[s1.heap.objs.size],_,_,H1,rfl,a.kept (t':=s1.toks) λb o e=>De _ e,Bd z t _,⟨_,Df _ rfl,rfl,rfl⟩,λb hb=>?_,q⟩;have e:b=s1.heap.objs.size:=by simpa using hb
 subst e;exact a.fpOk (DC _) (a.hok.fresh (DC _))
end
def rd_iS{te:TE}(h:te σ H λx H1=>∃z,x=.str z/\R (ij z) H1):su te σ H R:=h
def Cj{z:Vn}{D:Ends}(Pv:Nat->St->Hp->Prop)(b:Pv 0 σ H)
  (hs:∀i c σ H,z.cps[i]?=Vo c->Pv i σ H->g (.str ⟨#[c]⟩) σ H λa H2=>tb ⟨Pv (i+1),D.rt,D.nx,Pv (i+1)⟩ a H2) (hd:∀σ H,Pv z.cps.size σ H->D.nx σ H):i7 (ij z) g tb D σ H:=by
 refine⟨λi m σ H=>m=z.cps.size-i/\i<=z.cps.size/\Pv i σ H,⟨_,rfl,Nat.zero_le _,b⟩,?_⟩;rintro i m σ H ⟨rfl,hi,p⟩;rcases DX i z.cps.size with l|l
 .refine .inr ⟨l,Pv (i+1),λd H' q=>⟨z.cps.size-(i+1),by omega,rfl,l,q⟩,?_⟩;rintro x H' ⟨rfl,c,e,rfl⟩;exact hs i c σ H' e p
 .have:i=z.cps.size:=by omega
  subst this;exact .inl ⟨l,hd σ H p⟩
section
variable {X:Cx}
def qY:V->Option Int->Option Int->Hp->VK->Prop:=λx lo hi H Q=>∃z,x=.str z/\z.length<=sizeLine/\Q (.str (Txt.slice z lo hi)) H
def di:iC X qY:=by
 intro pins s σ H x v g m lo hi sl Q I e hs pl pu h;obtain⟨z,rfl,f,q⟩:=h;obtain⟨t,rfl⟩:=e;refine⟨"str",_,F.slot_str_getitem.lookup,typeIs_str _ _ _,?_⟩;have fin:∀c k,EP X pins σ Q (.str (Txt.slice z lo hi) c) { s with toks:=k }:=λc k=>⟨.str (Txt.slice z lo hi),H,I.tok _,⟨_,rfl⟩,q⟩;have hle:(Txt.slice z lo hi).length<=sizeLine:=DM (Txt.slice_le z _ _) f;obtain⟨o,ho,a,hd⟩:=hs;cases pl with
 | none=>cases pu with
  | none=>exact wpAny_getItem_str_slice (l:=Vp) (u:=Vp) (st:=Vp) ⟨o,ho,a,hd⟩ rfl (post_val_or_str ⟨hle,fin⟩)
  | int j b=>exact wpAny_getItem_str_slice (l:=Vp) (u:=Vo (j,b)) (st:=Vp) ⟨o,ho,a,hd⟩ rfl (post_val_or_str ⟨hle,fin⟩)
 | int i d=>cases pu with
  | none=>exact wpAny_getItem_str_slice (l:=Vo (i,d)) (u:=Vp) (st:=Vp) ⟨o,ho,a,hd⟩ rfl (post_val_or_str ⟨hle,fin⟩)
  | int j b=>exact wpAny_getItem_str_slice (l:=Vo (i,d)) (u:=Vo (j,b)) (st:=Vp) ⟨o,ho,a,hd⟩ rfl (post_val_or_str ⟨hle,fin⟩)
def eu(z y:Vn):Int:=match Builtin.Str.occurrences z y 0 z.length 1 with|i::_=>(i:Int)|[]=>-1
def Bf:V->List V->Hp->VK->Prop:=λx vs H Q=>∃z y,x=.str z/\vs=[.str y]/\Q (.int (eu z y)) H
def kY:fF X "str.find" Bf:=by intro pins s σ H x vs v us Q I a b h;obtain⟨z,y,rfl,rfl,q⟩:=h;obtain⟨t,rfl⟩:=a;obtain⟨u,rfl,c,rfl⟩:=vals1 b;exact call_gives F.slot_str_find (typeIs_str _ _ _) F.entry_str_find (F.args_str_find_2 _ _) (gives_str_find z y t c) (show EP X pins σ Q (.int (eu z y) _) _ from⟨.int _,H,I.tok _,⟨_,rfl⟩,q⟩)
theorem jz:∀{zs:List Vn} {us:List Va},Vals (zs.map V.str) us->StrsAre us zs
 | [],_,r=>by cases r;exact .nil
 | z::zs,_,r=>by
  cases r with
  | cons h t=>
   obtain⟨t',rfl⟩:=h;exact .cons z t' (jz t)
def vQ{x:Vn}{k j:Nat}{p pos:Pos}(C:Cal X.prog X.w X.K X.mg X.base x j ps sp)(c:Room k X.A)(a:j<=k:=by decide)(d:Gl X x:=by rfl)(b:(x == ("__debug__":Vn))=false:=by decide):
  PE X (.Call (.Name x p) [] [] pos) (fZ sp [] E0 iD):=by
 obtain⟨f,fd,e,g,hb,F⟩:=C.ex;exact CG F (c.mono a) d e g hb .nil rq b
end
abbrev cC(w:Ve):Bool:=!w.params.followText "set-order"
def zr(t:SetTable)(es:Array (Int×Va))(h:Int)(x:Va):(layNew t es h x).2.1.led=t.led:=by
 unfold layNew;split
 .show((t.put _).1.orStandIn _).led=t.led;unfold SetTable.orStandIn;split<;>rfl
 .rfl
def Bl{mask finger moves:Nat}{led plain:Bool}{hs:Array Int}{o:Array Nat}(h:SetTable.laid mask finger moves led plain hs=Vo (t,o)):t.led=led/\t.plain=plain:=by
 unfold SetTable.laid at h;cases e:SetTable.layClean mask hs with
 | none=>rw[e]at h;cases h
 | some a=>
  rw[e]at h;cases h;exact⟨rfl,rfl⟩
def xi(t:SetTable)(es:Array (Int×Va))(n:Nat):(relayAll t es n).2.1.led=t.led/\(t.plain=false->(relayAll t es n).2.1.plain=false):=by
 unfold relayAll;split
 .rename_i t' o e;have:=Bl e;dsimp only;split
  .exact⟨this.1,λh=>this.2.trans h⟩
  .exact⟨rfl,λ_=>rfl⟩
 .exact⟨rfl,λ_=>rfl⟩
section
variable {P:Vd} {w:Ve} {A:Vi} {E:Va->Vc->Prop} {s:Vc}
def BA(a:Va){Q₁:Va->Vc->Prop}(h:Q₁ (.ref s.heap.objs.size) { s with heap:=s.heap.push (bD (cC w)) }):
  codeAny (Vg P w) A (.call (.builtin "set.__new__") ⟨[.type "set",a],[]⟩) (wants Q₁ E) s:=by
 refine codeAny_of_tree ?_;show Vf _ A.in1 (do checkBuiltinCall "set.__new__" ⟨[.type "set",a],[]⟩;again (.builtin "set.__new__" ⟨[.type "set",a],[]⟩)) _ _ s;refine CZ (wpAny_of_eq (F.newCall_set_1 a) (Dc ⟨plainId_quiet F.plain_set_new _,codeAny_builtin F.entry_set_new ?_⟩));rw[Around.under_plainId F.plain_set_new _];unfold Builtin.«set.__new__» Builtin.Frozenset.newClass;have b:=sub_set_self;obtain⟨c,g,d,tk,os⟩:=s;dsimp only
 wp_walk
 refine wpAny_askSetting (Dc ?_);dsimp only;simp only[newObj];refine CZ (wpAny_alloc (Dc ?_));exact Dc h
end
def Ci{K:Dd}{i:Nat}{tb:Ends->(St->XK)->St->Hp->Prop}{ts:Vb->Vb->Option Vb->TS}{D:Ends}(P:Vb->St->Hp->Prop)(h1:∀E:St->XK,(∀a c H1,P c a H1->E a (.ref c) Vp H1)->tb D E σ H)
  (h2:∀a c H1,P c a H1->PySem.W.exmOne K (.ref c) (.ref C)=Vo true/\ExcK K c/\∀x,H1 x=Vp->ts x c Vp ⟨λb H'=>D.nx (b.set i Vp) H',D.rt,λb H'=>D.bk (b.set i Vp) H',λb H'=>D.ct (b.set i Vp) H'⟩ (a.set i (Vo (.ref x))) H1):pU K C i tb ts D σ H:=
 h1 _ λa c H1 p=>⟨c,rfl,h2 a c H1 p⟩
section
variable {X:Cx}
def A8(K:Dd):V->List V->Hp->VK->Prop:=λx vs H Q=>∃sep l zs,x=.str sep/\vs=[.ref l]/\ah K H l (List.map V.str zs)/\(zs.map (·.length)).sum+zs.length*sep.length<=1000000/\Q (.str (Txt.join sep zs)) H
def kf(K:Dd)(a:X.K=K:=by rfl):fF X "str.join" (A8 K):=by subst a;intro pins s σ H x vs v us Q I b c h;obtain⟨sep,l,zs,rfl,rfl,d,e,q⟩:=h;obtain⟨t,rfl⟩:=b;obtain⟨u,rfl,f⟩:=vals1 c;cases f;obtain⟨g,r,pl,i⟩:=I.list d;exact PyProof.Rows.join_list pl.isList (by simpa using jz r) (DM e (by decide)) λj k=>⟨.str _,H,I.tok _,⟨_,rfl⟩,q⟩
end
def mZ(K:Dd)(x:Vn):Bool:=PySem.W.exmOne K (.ref (cA K x)) (.ref (cA K x)) == Vo true && PySem.W.hasDictIn K (cA K x)
section
variable {P:Vd} {w:Ve} {A:Vi} {E:Va->Vc->Prop} {s:Vc}
def rA(k:Int)(tk:Tok):(PySem.intKind P w).is k (.int k tk)=true:=by show Value.isInt k (.int k tk)=true;simp[Value.isInt]
end
theorem uH:∀{vs:List Va} {zs:List Int},IntsAre vs zs->∀(i:Nat) (v:Va),vs[i]?=Vo v->∃z t,v=.int z t/\zs[i]?=Vo z
 | _,_,.nil,i,v,h=>by simp at h
 | _,_,.cons z t _,0,v,h=>by cases h;exact⟨z,t,rfl,rfl⟩
 | _,_,.cons z t r,i+1,v,h=>uH r i v h
def yI{D ds:List Int}(hd:D.Nodup)(hs:∀k∈D,k∈ds)(b:ds.length=D.length):ds.Perm D:=by
 induction D generalizing ds with
 | nil=>
  rw[List.length_nil,List.length_eq_zero_iff]at b;subst b;exact .refl _
 | cons d D f=>
  have c:=hs d Dn;have g:=List.perm_cons_erase c;have a:=List.nodup_cons.mp hd;refine g.trans ((f a.2 (λk e=>?_) ?_).cons d)
  .refine(List.mem_erase_of_ne ?_).mpr (hs k (Dk _ e));rintro rfl;exact a.1 e
  .rw[List.length_erase_of_mem c,b];rfl
section
variable {P:Vd} {w:Ve} {A:Vi} {E:Va->Vc->Prop} {s:Vc}
theorem rW:∀{l:List (Int×Va)},ElemsOf (PySem.intKind P w) l->∃ds,IntsAre (l.map (·.2)) ds/\∀e∈l,∀k,(PySem.intKind P w).is k e.2=true->k∈ds
 | [],_=>⟨[],.nil,λe f=>by cases f⟩
 | e::l,h=>by
  obtain⟨ds,h1,h2⟩:=rW (l:=l) λx b=>h x (Dk _ b);obtain⟨⟨k,g,_⟩,_⟩:=h e Dn;obtain⟨t,c⟩:=Value.isInt_shape (k:=k) g;refine⟨k::ds,?_,λx b d a=>?_⟩
  .rw[List.map_cons,c];exact .cons k t h1
  .rcases Dw.mp b with rfl|b
   .rw[c]at a;obtain⟨u,i⟩:=Value.isInt_shape (k:=d) (v:=.int k t) a;cases i;exact Dn
   .exact Dk _ (h2 x b d a)
end
theorem sh:∀{us:List Va} {zs:List Int},IntsAre us zs->Vals (zs.map V.int) us
 | _,_,.nil=>.nil
 | _,_,.cons z t r=>.cons ⟨t,rfl⟩ (sh r)
theorem ki{x:Vn}{c:Vb}:∀(names:List (Vn×NameKind)) (n:Nat) (acc:List (Vn×Vb)),(cellsFrom n names acc).lookup x=Vo c->acc.lookup x=Vo c\/(n<=c/\(x,NameKind.cell)∈names)
 | [],_,_,h=>.inl h
 | (y,k)::r,n,acc,h=>by
  unfold cellsFrom at h;by_cases a:(k == NameKind.cell)=true
  .rw[Eh a]at h;have b:k=.cell:=by simpa using a
   subst b;rcases ki r (n+1) ((y,n)::acc) h with h|⟨h1,h2⟩
   .rw[DZ]at h;cases hb:x == y with
    | true=>
     rw[hb]at h;cases h;rw[beq_iff_eq.mp hb];exact .inr ⟨DC _,Dn⟩
    | false=>rw[hb]at h;exact .inl h
   .exact .inr ⟨Nat.le_of_succ_le h1,Dk _ h2⟩
  .rw[Eg a]at h;rcases ki r n acc h with h|⟨h1,h2⟩
   .exact .inl h
   .exact .inr ⟨h1,Dk _ h2⟩
theorem mE{x y:Vn}{c:Vb}:∀(names:List (Vn×NameKind)) (n:Nat) (acc:List (Vn×Vb)),(∀x c,acc.lookup x=Vo c->@LT.lt Nat _ c n)->(∀x y c,acc.lookup x=Vo c->acc.lookup y=Vo c->x=y)->(cellsFrom n names acc).lookup x=Vo c->(cellsFrom n names acc).lookup y=Vo c->x=y
 | [],_,_,_,hi,h1,h2=>hi _ _ _ h1 h2
 | (z,k)::r,n,acc,hb,hi,h1,h2=>by
  unfold cellsFrom at h1 h2;by_cases d:(k == NameKind.cell)=true
  .rw[Eh d]at h1 h2;refine mE r (n+1) ((z,n)::acc) (λx c h=>?_) (λx y c h1 h2=>?_) h1 h2
   .rw[DZ]at h;cases e:x == z with
    | true=>rw[e]at h;cases h;exact Nat.lt_succ_self _
    | false=>rw[e]at h;exact Nat.lt_succ_of_lt (hb x c h)
   .rw[DZ]at h1 h2;cases b:x == z with
    | true=>
     rw[b]at h1;cases h1;cases a:y == z with
     | true=>rw[beq_iff_eq.mp b,beq_iff_eq.mp a]
     | false=>rw[a]at h2;exact absurd (hb _ _ h2) (Nat.lt_irrefl _)
    | false=>
     rw[b]at h1;cases a:y == z with
     | true=>rw[a]at h2;cases h2;exact absurd (hb _ _ h1) (Nat.lt_irrefl _)
     | false=>rw[a]at h2;exact hi _ _ _ h1 h2
  .rw[Eg d]at h1 h2;exact mE r n acc hb hi h1 h2
theorem nQ{x:Vn}{c:Vb}:∀(names:List (Vn×NameKind)) (h:Vh) (acc:List (Vn×Vb)),(cellsFrom h.objs.size names acc).lookup x=Vo c->acc.lookup x=Vo c\/(pushCells h names).IsCell c Vp
 | [],_,_,e=>.inl e
 | (y,k)::r,h,acc,e=>by
  unfold cellsFrom at e;unfold pushCells;by_cases a:(k == NameKind.cell)=true
  .rw[Eh a]at e ⊢;rw[<-Heap.size_push h { cls:=.type "cell",data:=.cell none }]at e;rcases nQ r (h.push { cls:=.type "cell",data:=.cell none }) ((y,h.objs.size)::acc) e with e|e
   .rw[DZ]at e;cases hb:x == y with
    | true=>
     rw[hb]at e;cases e;exact .inr ⟨_,pushCells_keeps _ _ _ _ (Df _ rfl),rfl⟩
    | false=>rw[hb]at e;exact .inl e
   .exact .inr e
  .rw[Eg a]at e ⊢;exact nQ r h acc e
section
variable {M:Model} {A:Vi} {E:Va->Vc->Prop} {s:Vc}
def wy{scope:Scope}{globals:Vb}{closure:List (Vn×Vb)}{func:Option Vb}{code:Va}{outer:Env}{builtins:Vb}{Q:Env->Vc->Prop}
  (b:Q (newEnv scope s.heap.objs.size globals (cellsFrom (s.heap.objs.size+1) scope.names closure) qual func code (Vo outer) builtins) { s with heap:=pushCells (s.heap.push { cls:=.type "dict",data:=.dict #[] }) scope.names }) :
  Vf M A (newFunctionEnv scope globals closure [] qual func code (Vo outer) builtins) Q E s:=by
 simp only[newFunctionEnv,Option.isSome_some,if_true];refine CZ (wpAny_alloc ?_);refine CZ (wpAny_layCells _ (λname kind cells=>by cases a:kind == NameKind.cell<;>simp[a]) _ _ _ _ ?_);rw[show ({ s with heap:=s.heap.push { cls:=.type "dict",data:=.dict #[] } }:Vc).heap.objs.size=s.heap.objs.size+1 from Heap.size_push ..];refine CZ ?_;rw[List.forIn_nil];exact Dc (Dc b)
end
def gM(X:Cx)(sc:Scope)(C:Vb):List (Vn×Vb):=cellsFrom (Nat.succ C) sc.names (cT sc.names X.env.cells)
def cv(X:Cx)(sc:Scope)(own:List Vn)(a:List Nat)(z:Blk):Cx where
 prog:=X.prog
 w:=X.w
 K:=X.K
 mg:=X.mg
 base:=X.base
 A:=X.A
 N:=own++a.map λj=>X.N.getD j ""
 s₀:=z.s
 H₀:=z.H
 env:=compEnvC sc (gM X sc z.C) z.C X.env
 outer:=X.stack
 stack:=X.stack
 ex:=z.fp
 fn:=λx=>sc.names.lookup x == Vo .cell
 calm:=X.calm
 pn:=[]
 xe:=λ_ _=>False
def dH(sc out:Scope):Bool:=sc.names.all λp=>(p.2 != .cell || sc.names.lookup p.1 == Vo .cell) && (p.2 != .local || sc.names.lookup p.1 == Vo .local) && (p.2 != .free || out.names.lookup p.1 == Vo .cell || out.names.lookup p.1 == Vo .free) && (p.2 != .free || sc.names.lookup p.1 == Vo .free)
def jN(h:dH sc out=true)(a:p∈sc.names)(b:p.2=.free):out.names.lookup p.1=Vo .cell\/out.names.lookup p.1=Vo .free:=by have:=DO.mp h p a;simp[b]at this;exact this.1
def zc(h:dH sc out=true){x:Vn}(a:(x,NameKind.free)∈sc.names)(h2:sc.names.lookup x=Vo .cell):False:=by have:=DO.mp h _ a;simp[h2]at this
def Am(h:dH sc out=true)(a:p∈sc.names)(b:p.2=.cell):sc.names.lookup p.1=Vo .cell:=by have:=DO.mp h p a;simp[b]at this;exact this
def sS(h:dH sc out=true)(a:p∈sc.names)(b:p.2=.local):sc.names.lookup p.1=Vo .local:=by have:=DO.mp h p a;simp[b]at this;exact this
section
variable {X:Cx} {pins:List (Vb×Obj)} {σ:St} {H:Hp} {s:Vc}
def iZ(ok:X.Ok)(hb:dH sc X.env.scope=true){x:Vn}(h:(cT sc.names X.env.cells).lookup x=Vo c):X.env.cells.lookup x=Vo c:=by
 rcases j9 X.env.cells sc.names [] x c h with⟨h1,h2⟩|h1
 .obtain⟨d,hd⟩:=ok.has x (jN hb h1 rfl);rw[hd]at h2 ⊢;rw[h2];rfl
 .simp at h1
def hV(ok:X.Ok)(hb:dH sc X.env.scope=true){x:Vn}(h:(gM X sc C).lookup x=Vo c):X.env.cells.lookup x=Vo c\/(@LT.lt Nat _ C c/\sc.names.lookup x=Vo .cell):=by
 rcases ki _ _ _ h with h|⟨h1,h2⟩
 .exact .inl (iZ ok hb h)
 .exact .inr ⟨h1,Am hb h2 rfl⟩
def lQ{x:Vn}(h:(x,NameKind.free)∈sc.names):∃c,(gM X sc C).lookup x=Vo c:=by obtain⟨c,a⟩:=jr (cells:=X.env.cells) h;exact Option.isSome_iff_exists.mp (PySem.W.cellsFrom_some sc.names _ _ (.inr (by rw[a];rfl)))
def Bk(I:Inv X pins σ H s)(hb:dH sc X.env.scope=true){x:Vn}(h:(cT sc.names X.env.cells).lookup x=Vo c):@LT.lt Nat _ c s.heap.objs.size:=I.cell_lt (iZ I.ok hb h)
def yT(I:Inv X pins σ H s){l:List Nat}{C:Nat}(n:sc.kind=.function)(hb:dH sc X.env.scope=true)
  (hfp:∀b∈fp,bL X pins H b) (d:s.heap.objs.size<=C) (hlt:∀b∈fp,b<s.heap.objs.size):(cv X sc own l ⟨s,H,fp,C⟩).Ok where
 mod:=I.ok.mod
 kind:=n
 glob:=I.ok.glob
 blt:=I.ok.blt
 above:=d
 inj:=λx y c h1 h2=>mE sc.names _ _ (λx c e=>Nat.lt_succ_of_le (DM (Nat.le_of_lt (Bk I hb e)) d)) (λx y c f p=>I.ok.inj x y c (iZ I.ok hb f) (iZ I.ok hb p)) h1 h2
 has:=λx g=>by
  have i:(relabel sc X.env).names.lookup x=Vo .cell\/(relabel sc X.env).names.lookup x=Vo .free:=g;have go:∀k,(relabel sc X.env).names.lookup x=Vo k->(k=.cell\/k=.free)->∃c,(gM X sc C).lookup x=Vo c:=λk h j=>by
   obtain⟨u,h1,h2⟩:=gD (sc:=sc) (env:=X.env) h;have m:=jZ h1;rcases h2 with h2|⟨h2,_⟩
   .subst h2;rcases j with e|e
    .rw[e]at h1;exact Option.isSome_iff_exists.mp (PySem.W.cellsFrom_some sc.names _ _ (.inl h1))
    .rw[e]at m;exact lQ m
   .rw[h2]at m;exact lQ m
  rcases i with h|h
  .exact go _ h (.inl rfl)
  .exact go _ h (.inr rfl)
 cab:=λx c h e=>by
  have g:sc.names.lookup x=Vo .cell:=by simpa[cv]using h
  have r:(gM X sc C).lookup x=Vo c:=e;rcases ki _ _ _ r with f|⟨f,_⟩
  .rcases j9 X.env.cells sc.names [] x c f with⟨h1,_⟩|h1
   .exact(zc hb h1 g).elim
   .simp at h1
  .exact DM d (Nat.le_of_succ_le f)
 hd:=I.ok.hd
 frames:=I.ok.frames
 stk:=.inl rfl
 exf:=λb a=>⟨DB (DL (hlt b a) d),λx c e=>by
  rcases hV I.ok hb (C:=C) e with e|⟨e,_⟩
  .exact(hfp b a).2.2.2.2.1 x c e
  .exact Nat.ne_of_gt (Nat.lt_trans (DL (hlt b a) d) e)⟩
 bs:=I.bs
 bsz:=DM I.ok.bsz I.sz
 noex:=λb o e a=>by
  rcases(hfp b a).2.2.2.1 with z|z
  .exact I.ok.noex b o e z
  .exact absurd (DL (Dg e) (DM I.ok.bsz z)) (Nat.lt_irrefl _)
 exfs:=λb a t=>by
  rcases Dw.mp (I.stkSub b t)with e|h
  .exact(hfp b a).2.1 e
  .exact(hfp b a).2.2.1 h
 funs:=I.stack
 frf:=I.stkFree
def xt(I:Inv X pins σ H s){n:List Nat}{C D:Nat}{tk:Nat}{m:Vn->Option Va}(O:sc.kind=.function)(hb:dH sc X.env.scope=true)(P:fX sc X.N n=true)
  (hfp:∀b∈fp,bL X pins H b) (hlt:∀b∈fp,b<s.heap.objs.size) (hD:D=s.heap.objs.size) (Z:C=s.heap.objs.size+1) (old:∀b o,s.heap.get? b=Vo o->h1.get? b=Vo o)
  (y:h1.get? D=Vo o) (A:∀v,o.data≠.cell v) (Q:h1.Ns C m) (B:∀x c,(gM X sc C).lookup x=Vo c->(cT sc.names X.env.cells).lookup x=Vo c\/h1.IsCell c Vp) :
  Inv (cv X sc own n ⟨s,H,fp,C⟩) [(D,o)] (bO own.length n σ) H { s with heap:=h1,toks:=tk } where
 ok:=yT I O hb hfp (show @LE.le Nat _ s.heap.objs.size C by omega) hlt
 os:=rfl
 bare:=I.bare
 base:=Un.kept old
 loc:=by
  refine⟨m,Q,λi x v R S T=>?_⟩;obtain⟨k,j,rfl,K,es⟩:=jD S;have t:(own++n.map λj=>X.N.getD j "")[own.length+k]?=Vo x:=R;rw[DG (by omega),Nat.add_sub_cancel_left,Dj,K]at t;have ex:X.N.getD j "" = x:=by simpa using t
  have g:=DO.mp P j (Ds K);simp only[DQ,decide_eq_true_eq,beq_iff_eq]at g;have E:X.N[j]?=some x:=by rw[<-ex,List.getD_eq_getElem?_getD,Di g.1];rfl
  have a:sc.names.lookup x=some .free:=by rw[<-ex];exact g.2
  have hmem:=jZ a;have f:=jN hb hmem rfl;obtain⟨m0,U,F⟩:=I.loc;obtain⟨u,r,l⟩:=F j x v E es (by rcases f with z|z;exact .inr (.inl z);exact .inr (.inr z));refine⟨u,r,?_⟩;obtain⟨c,L⟩:=lQ (X:=X) (C:=C) hmem;have G:X.env.cells.lookup x=Vo c:=by
   rcases hV I.ok hb L with e|⟨_,e⟩
   .exact e
   .rw[a]at e;cases e
  have h:s.heap.IsCell c (Vo u):=by
   rcases l with⟨z,_⟩|⟨_,c',M,q⟩
   .have W:X.env.scope.names.lookup x=Vo .local:=z;rcases f with w|w<;>(rw[W]at w;cases w)
   .rw[G]at M;cases M;exact q
  have d:h1.IsCell c (Vo u):=by obtain⟨oc,ho,hd⟩:=h;exact⟨oc,old c oc ho,hd⟩
  right;refine⟨?_,c,L,d⟩;have J:(relabel sc X.env).names.lookup x=Vo .local\/(relabel sc X.env).names.lookup x=Vo .cell\/(relabel sc X.env).names.lookup x=Vo .free:=T;rcases J with z|z
  .obtain⟨k',z1,z2⟩:=gD (sc:=sc) (env:=X.env) z;rw[a]at z1;rcases z2 with z2|⟨_,z2⟩
   .rw[z2]at z1;cases z1
   .cases z2
  .exact z
 cell:=λx c e=>by
  rcases B x c e with e|e
  .obtain⟨v,oc,ho,hd⟩:=I.cell x c (iZ I.ok hb e);exact⟨v,oc,old c oc ho,hd⟩
  .exact⟨Vp,e⟩
 free:=I.hok.fresh (show @LE.le Nat _ s.heap.objs.size C by omega)
 freeC:=λx c e=>by
  rcases hV I.ok hb (C:=C) e with e|⟨e,_⟩
  .exact I.freeC x c e
  .exact I.hok.fresh (show @LE.le Nat _ s.heap.objs.size c by omega)
 pin:=λp Y=>by
  have e:p=(D,o):=by simpa[cv]using Y
  subst e;refine⟨y,I.hok.fresh (show @LE.le Nat _ s.heap.objs.size D by omega),?_,λz=>?_,A⟩
  .exact DB (show @LT.lt Nat _ D C by omega)
  .have h9:@LT.lt Nat _ D s.heap.objs.size:=I.stk_lt (b:=D) z;omega
 hok:=I.hok.kept old
 len:=by show(bO own.length n σ).length=(own++n.map λj=>X.N.getD j "").length;simp[bO]
def sX{pos:Pos}{K:List Nat}{te:TE}{J:It}{it:Vb}{RR:Va->Vb->Result->Vc->Prop}{E:Va->Vc->Prop}
  {Q:VK} {W:Nat->Nat->List V->Hp->Prop} (hk:sc.kind=.function) (hb:dH sc X.env.scope=true) (hj:fX sc X.N K=true)
  (hg:∀C,PG (cv X sc own K ⟨s,H,fp,C⟩) tg g) (ht:∀C,fY (cv X sc own K ⟨s,H,fp,C⟩) ifs tc) (he:∀C,PE (cv X sc own K ⟨s,H,fp,C⟩) elt te)
  (I:Inv X pins σ H s) (T:∀C,TurnAt (cv X sc own K ⟨s,H,fp,C⟩) tg J fp it tn) (st:tn 0 s.heap) (hfp:∀b∈fp,bL X pins H b) (w0:∃m,W 0 m [] H)
  (turn:∀i m ys H',W i m ys H'->(J.stop i H'/\∀p,H' p=Vp->Q (.ref p) (upd H' p (.lst ys))) ∨
   (J.go i H'/\ys.length<sizeLine/\∃N:List V->Hp->Prop,(∀ys' H2,N ys' H2->∃m',m'<m/\W (i+1) m' ys' H2)/\∀x H2,J.yld i H' x H2->g x (bO own.length K σ) H2 λa9 L=>tc a9 L λb H4=>
    if b=true then te a9 H4 λv H5=>N (ys++[v]) H5 else N ys H4))
  (fin:∀D C s' ys H',H' D=Vp->Inv X pins σ (upd H' D (.lst ys)) s'->bL X pins (upd H' D (.lst ys)) C->(∃m,s'.heap.Ns C m)->s.heap.objs.size<=C->Q (.ref D) (upd H' D (.lst ys))->RR (.ref D) C (.ok .next) s') :
  Vf (Vg X.prog X.w) X.A (newList []) (λacc B=>Vf (Vg X.prog X.w) X.A (newFunctionEnv sc X.env.globals (cT sc.names X.env.cells) [] X.env.qual Vp .none (Vo X.env)) (λa1 aa=>
   codeAny (Vg X.prog X.w) X.A (.compStart (.ListComp elt [⟨tg,iter,ifs,0⟩] sc pos) 0 (.ref it) acc { a1 with scope:=relabel sc X.env }) (RR acc a1.locals) aa) E B) E s:=by
 have hlt:∀b∈fp,b<s.heap.objs.size:=λb f=>by obtain⟨o,e,_⟩:=(T 0).obj 0 s.heap st b f;exact Dg e
 refine wpAny_newObj_type (wy ?_);dsimp only;generalize a3:s.heap.push { cls:=.type "list",dict:=none,data:=.seq ([]:List Va).toArray }=H2 at *;have b4:H2.objs.size=s.heap.objs.size+1:=by rw[<-a3,Heap.size_push]
 have R:(pushCells (H2.push { cls:=.type "dict",data:=.dict #[] }) sc.names).Ns H2.objs.size (λ_=>none):=(Heap.Ns.new H2 (.type "dict")).keeps (pushCells_keeps _ _);have S:∀x c,(gM X sc H2.objs.size).lookup x=some c->(cT sc.names X.env.cells).lookup x=some c\/(pushCells (H2.push { cls:=.type "dict",data:=.dict #[] }) sc.names).IsCell c none:=λx c e=>by have e':(cellsFrom (H2.objs.size+1) sc.names (cT sc.names X.env.cells)).lookup x=some c:=e;rw[<-Heap.size_push H2 { cls:=.type "dict",data:=.dict #[] }]at e';exact nQ _ _ _ e'
 have old:∀b o,s.heap.get? b=Vo o->(pushCells (H2.push { cls:=.type "dict",data:=.dict #[] }) sc.names).get? b=Vo o:=λb o e=>pushCells_keeps _ _ b o (De _ (a3 ▸ De _ e));have b5:(pushCells (H2.push { cls:=.type "dict",data:=.dict #[] }) sc.names).get? s.heap.objs.size=Vo (bP [] 0):=pushCells_keeps _ _ _ _ (De _ (a3 ▸ Df _ rfl));generalize pushCells (H2.push { cls:=.type "dict",data:=.dict #[] }) sc.names=y at *;generalize c1:H2.objs.size=C at *;have below:∀b:Nat,b<s.heap.objs.size->b≠C:=λb f=>by omega
 generalize Z:s.heap.objs.size=D at *;let Y:Cx:=cv X sc own K ⟨s,H,fp,C⟩;have J0:Inv Y [(D,bP [] 0)] (bO own.length K σ) H { s with heap:=y }:=
  xt I hk hb hj hfp (by rw[Z];exact hlt) Z.symm (by rw[Z];exact b4) old b5 (λv z=>by cases z) R S
 have a4:@Ne Nat D C:=by omega
 have statF:∀{P':List (Vb×Obj)} {H':Hp},(∀b∈fp,H' b=Vp)->(∀p∈P',p.1∉fp)->∀b∈fp,bL Y P' H' b:=λ{P' H'} hn G b f=>by
  obtain⟨f0,f1,f2,f3,f4,f5⟩:=hfp b f;refine⟨hn b f,λz=>below b (hlt b f) z,λz=>?_,.inl f,λx c e=>?_,λp a5 z=>?_⟩
  .rcases Dw.mp (I.stkSub b z)with e|h
   .exact f1 e
   .exact f2 h
  .rcases hV I.ok hb (C:=C) e with e|⟨e,_⟩
   .exact f4 x c e
   .have h9:@LT.lt Nat _ b s.heap.objs.size:=by rw[Z];exact hlt b f
    exact Nat.ne_of_gt (show @LT.lt Nat _ b c by omega)
  .have:p∈P':=by simpa[Y,cv]using a5
   exact G p this (by rw[z];exact f)
 have ab:D∉fp:=λz=>by have h9:@LT.lt Nat _ D D:=hlt D z;omega
 have ac:tn 0 y:=(T 0).keep 0 s.heap y st λb _ o e=>old b o e;have loop:∀B:Vc,B={ s with heap:=y } ->
   codeAny (Vg X.prog X.w) X.A (.compLoop (.ListComp elt [⟨tg,iter,ifs,0⟩] sc pos) 0 (.ref it) (.ref D) Y.env) (RR (.ref D) C) B:=by
  rintro B rfl;obtain⟨m0,w0⟩:=w0;refine Al (λn s'=>∃i ys l q H',Inv Y [(D,bP l q)] (bO own.length K σ) H' s'/\Vals ys l/\ys.length<=sizeLine/\tn i s'.heap/\(∀b∈fp,H' b=Vp)/\W i n ys H') ?_ m0
   ⟨0,[],[],0,H,J0,.nil,Nat.zero_le _,ac,λb f=>(hfp b f).1,w0⟩
  rintro n s3 ⟨i,ys,l,q,L,I3,rv,hz,ad,am,w3⟩;have pD:∀p∈[(D,bP l q)],p.1∉fp:=λp G=>by
   have e:p=(D,bP l q):=by simpa using G
   rw[e];exact ab
  rcases turn i n ys L w3 with⟨stop,qn⟩|⟨go,hlen,N,hN,step⟩
  .refine aw ((T C).done i _ s3 _ L _ I3 (statF am pD) ad stop) λr s4 ⟨hr,I4⟩=>?_;subst hr;show RR (.ref D) C (.ok .next) s4;have M:=I4.pin (D,bP l q) (DT _ (Dt.mpr rfl));have b7:s4.heap.get? D=Vo (bP l q):=M.1;have nD:L D=Vp:=M.2.1;have U:Un (aQ X.stack) fp H L s.heap s4.heap:=I4.base;have neD:∀b o,s.heap.get? b=Vo o->b≠D:=λb o e=>DB (by have h9:@LT.lt Nat _ b s.heap.objs.size:=Dg e;omega);have neDH:∀b o,H b=Vo o->b≠D:=λb o e=>DB (by have h9:@LT.lt Nat _ b s.heap.objs.size:=I.hok.lt e;omega);have U2:Un (aQ X.stack) fp H (upd L D (.lst ys)) s.heap s4.heap:=
    ⟨U.keep,U.slot,λb o e n hx=>by rw[aY (neD b o e)];exact U.free b o e n hx,U.there,λb xs e=>by rw[aY (neDH b _ e)];exact U.tups b xs e,
     λb o u e=>by rw[aY (neDH b _ e)];exact U.frzs b o u e,λb ps e=>by rw[aY (neDH b _ e)];exact U.tbls b ps e⟩
   have an:bC X.prog X.w (upd L D (.lst ys)) s4.heap:=λb o e=>by
    by_cases f:b=D
    .subst f;rw[bg]at e;cases e;exact⟨hz,l,q,rv,b7⟩
    .rw[aY f]at e;exact(I4.hok b o e).stay (λc u _ z=>z) (λc z=>by rw[aY (du z nD)];exact z) λc xs z=>by rw[aY (du z nD)];exact z
   have IX:Inv X pins σ (upd L D (.lst ys)) s4:=I.call' (ch:=fp) I4.os U2 an I4.bare λb f=>by obtain⟨f0,f1,f2,f3,f4,f5⟩:=hfp b f;exact⟨f3,f1,f4,f5⟩
   obtain⟨m4,b8,_⟩:=I4.loc;have nC:L C=Vp:=I4.free;refine fin D C s4 ys L nD IX ?_ ⟨m4,b8⟩ (show @LE.le Nat _ D C by omega) (qn D nD);refine⟨by rw[aY (Ne.symm a4)];exact nC,?_,?_,?_,?_,?_⟩
   .have h9:@LT.lt Nat _ X.env.locals s.heap.objs.size:=I.lt;exact Nat.ne_of_gt (show @LT.lt Nat _ X.env.locals C by omega)
   .exact I.nofs (show @LE.le Nat _ s.heap.objs.size C by omega)
   .right;have h9:@LE.le Nat _ X.s₀.heap.objs.size s.heap.objs.size:=I.sz;exact(show @LE.le Nat _ X.s₀.heap.objs.size C by omega)
   .intro x c e;have h9:@LT.lt Nat _ c s.heap.objs.size:=I.cell_lt e;exact DB (show @LT.lt Nat _ c C by omega)
   .intro p G;have h9:@LT.lt Nat _ p.1 s.heap.objs.size:=I.pin_lt G;exact DB (show @LT.lt Nat _ p.1 C by omega)
  .refine aw ((T C).item i _ s3 _ L _ I3 (statF am pD) ad go) λr s4 ⟨u,hr,h4⟩=>?_;subst hr;refine aw h4 λ_ s5 ⟨x,H5,I5,r5,y5,a6,ba⟩=>?_;have bb:=I5.pinned (statF ba pD) ((T 0).obj _ _ a6);refine aw (hg _ _ s5 _ H5 x u _ bb r5 (step x H5 y5)) λ_ s6 ⟨a0,H6,I6,q6⟩=>?_;refine aw (ht _ _ s6 a0 H6 _ I6 q6) λok s7 ⟨H7,I7,q7⟩=>?_;have back:∀{s':Vc} {ap:St} {H':Hp} {ys':List V} {its':List Va} {q':Nat},Inv Y ([(D,bP its' q')]++dE fp s5.heap) ap H' s'->Vals ys' its'->ys'.length<=sizeLine->N ys' H' ->
     ∃m,m<n/\∃i ys l q H',Inv Y [(D,bP l q)] (bO own.length K σ) H' s'/\Vals ys l/\ys.length<=sizeLine/\tn i s'.heap/\(∀b∈fp,H' b=Vp)/\W i m ys H':=by
    intro s' ap H' ys' its' q' I' bc be nn;obtain⟨m',hm,w'⟩:=hN ys' H' nn;have hpin:∀b∈fp,∀o,s5.heap.get? b=Vo o->s'.heap.get? b=Vo o/\H' b=Vp:=λb f o e=>by have:=I'.pin (b,o) (DT _ (DT _ (kG f e)));exact⟨this.1,this.2.1⟩
    refine⟨m',hm,i+1,ys',its',q',H',?_,bc,be,(T 0).keep _ _ _ a6 λb f o e=>(hpin b f o e).1,λb f=>?_,w'⟩
    .have t:=I'.unpinned;obtain⟨mm,bi,_⟩:=id t.loc;refine⟨t.ok,t.os,t.bare,t.base,⟨mm,bi,λk x v e1 e2 e3=>?_⟩,t.cell,t.free,t.freeC,t.pin,t.hok,?_⟩
     .obtain⟨m1,c2,bl⟩:=J0.loc;obtain⟨u1,r1,l1⟩:=bl k x v e1 e2 e3;refine⟨u1,r1,?_⟩;obtain⟨k',j,rfl,ej,es⟩:=jD e2;have as:(own++K.map λj=>X.N.getD j "")[own.length+k']?=Vo x:=e1;rw[DG (by omega),Nat.add_sub_cancel_left,Dj,ej]at as;have ex:X.N.getD j "" = x:=by simpa using as
      have b0:=DO.mp hj j (Ds ej);simp only[DQ,decide_eq_true_eq,beq_iff_eq]at b0;have O:sc.names.lookup x=some .free:=by rw[<-ex];exact b0.2
      rcases l1 with⟨z,zz⟩|⟨z,c,e,zz⟩
      .exfalso;obtain⟨k2,z1,z2⟩:=gD (sc:=sc) (env:=X.env) (show(relabel sc X.env).names.lookup x=Vo .local from z);rw[O]at z1;rcases z2 with z2|⟨_,z2⟩
       .rw[z2]at z1;cases z1
       .cases z2
      .refine .inr ⟨z,c,e,?_⟩;have a7:X.env.cells.lookup x=Vo c:=by
        rcases hV I.ok hb (C:=C) e with e|⟨_,e⟩
        .exact e
        .rw[O]at e;cases e
       obtain⟨ov,oc,b1,c3⟩:=I.cell x c a7;have b2:=old c oc b1;obtain⟨oz,bm,bn⟩:=zz;have a2:y.get? c=Vo oz:=bm;rw[b2]at a2;cases a2;have cnf:c∉fp:=λz'=>(hfp c z').2.2.2.2.1 x c a7 rfl;obtain⟨sl,hh⟩:=t.base.any b1 (I.freeC x c a7) cnf;exact⟨_,hh,bn⟩
     .show(bO own.length K σ).length=_;exact J0.len
    .obtain⟨o,e,d⟩:=(T 0).obj _ _ a6 b f;exact(hpin b f o e).2
   cases ok with
   | false=>
    rw[Eg Dy]at q7 ⊢;exact back I7 rv hz q7
   | true=>
    rw[Eh rfl]at q7 ⊢;refine aw (he _ _ s7 a0 H7 _ I7 q7) λP s8 ⟨v,H8,I8,r8,q8⟩=>?_;have M:=I8.pin (D,bP l q) (DT _ (DU _ (Dt.mpr rfl)));have a8:s8.heap.get? D=Vo { cls:=.type "list",data:=.seq l.toArray q }:=M.1;have hl:=rv.length;refine call_meets F.slot_list_append ⟨_,a8,rfl⟩ F.entry_list_append (F.args_list_append_2 _ _) (PySem.list_append D l.toArray q P (by rw[Dm];omega)) ⟨a8,?_⟩;have qq:=PySem.IsL.update a8 (λa=>a.push P);have eqs:l.toArray.push P=(l++[P]).toArray:=by simp
    rw[eqs]at qq;obtain⟨q2,bv⟩:∃q2,(s8.heap.update D (Obj.mapSeq λa=>a.push P)).get? D=Vo (bP (l++[P]) q2):=⟨_,qq⟩;have c0:Inv Y (dE fp s5.heap) a0 H8 s8:=I8.pins_of λp G=>I8.pin p (DT _ (DT _ G));have b3:H8 D=Vp:=M.2.1;have I9:Inv Y (dE fp s5.heap) a0 H8 { s8 with heap:=s8.heap.update D (Obj.mapSeq λa=>a.push P),toks:=s8.toks }:=by
     refine c0.turned (it:=D) (λb o f e=>(Heap.get?_update_other s8.heap (Obj.mapSeq λa=>a.push P) (Ne.symm f)).trans e) b3 a4 (.inr (show @LE.le Nat _ s.heap.objs.size D by omega)) (λx c e=>?_) λp G=>?_
     .rcases hV I.ok hb (C:=C) e with e|⟨e,_⟩
      .have h9:@LT.lt Nat _ c s.heap.objs.size:=I.cell_lt e;exact DB (show @LT.lt Nat _ c D by omega)
      .exact Nat.ne_of_gt (show @LT.lt Nat _ D c by omega)
     .have a5:p∈dE fp s5.heap:=by simpa[Y,cv]using G
      obtain⟨h1,_⟩:=ou a5;exact λz=>ab (z ▸ h1)
    refine back (ys':=ys++[v]) (its':=l++[P]) (q':=q2) (I9.pins_of λp G=>?_) (rv.append (.cons r8 .nil)) (by rw[DA,List.length_singleton];omega) q8;rcases DF.mp G with G|G
    .have e:p=(D,bP (l++[P]) q2):=by simpa using G
     subst e;refine⟨bv,b3,a4,λz=>?_,λv z=>by cases z⟩;have h9:@LT.lt Nat _ D s.heap.objs.size:=I.stk_lt (b:=D) z;omega
    .exact I9.pin p (DT _ G)
 exact codeAny_compStart_list (loop _ rfl) ((T 0).self X.A 0 { s with heap:=y } _ _ ac (loop _ rfl))
def dm{pos:Pos}(own:List Vn)(a:List Nat){j:TI}{te:TE}(hi:PI X tg iter j)(n:∀z,PG (cv X sc own a z) tg g)(r:∀z,fY (cv X sc own a z) ifs tc)
  (t:∀z,PE (cv X sc own a z) elt te) (u:X.calm=true:=by rfl) (k:sc.kind=.function:=by rfl) (hb:dH sc X.env.scope=true:=by rfl) (y:fX sc X.N a=true:=by rfl)
  (hs:∀x,foldedSetIterable iter X.env x=pure x:=by intro _;rfl):PE X (.ListComp elt [⟨tg,iter,ifs,0⟩] sc pos) (kE own.length a j g tc te):=by
 intro pins s σ H Q I h;rw[eval_ListComp];refine wpAny_comprehension_free (use:=Vp) rfl hs (oM λp c B=>I.ok.has p.1 (jN hb c B)) k (λp c E=>sS hb c E) (aw (hi pins s σ H _ I h) λv s1 h1=>aw h1 λF s2 h2=>?_);obtain⟨it,fp,tn,J,H2,e,G,T,d,l,W,w0,turn⟩:=h2;subst e;refine sX (RR:=λacc C=>compPost (Vg X.prog X.w) X.A X.xe Vp (EP X pins σ Q) acc C) k hb y (λ_=>n _) (λ_=>r _) (λ_=>t _) G (λC=>Turn.at_ (Y:=cv X sc own a ⟨_,_,_,C⟩) T u) d l w0 turn ?_;intro D C s' ys H' Z K L ⟨m,M⟩ _ q;refine⟨m,M,λh' f=>?_⟩;obtain⟨O,P,l,R,S,U⟩:=L;exact⟨.ref D,_,K.turned (t':=s'.toks) (it:=C) (λb o i e=>(f.2 b i).trans e) O P R S U,rfl,q⟩
end
end L2
namespace L2.Og.Tb
open PySem
end L2.Og.Tb
namespace L2.Og
open PySem PySem.Spec PyProof.Rows
end L2.Og
namespace L2.Og
open PySem PySem.Spec PyProof.Rows
end L2.Og
namespace L2.Og
open PySem PySem.Spec PyProof.Rows
end L2.Og
namespace L2.Ti
open PySem PySem.Spec PyProof.Rows
def dB(t:SetTable):Prop:=t.dummies = #[]/\t.place.toList.Pairwise (· < ·)
def jP(t:SetTable)(n:Nat):dB (t.standIn n):=⟨rfl,by show(Array.range n).toList.Pairwise _;rw[Array.toList_range];exact List.pairwise_lt_range⟩
def AJ{mask finger moves:Nat}{led plain:Bool}{hashes:Array Int}{t':SetTable}(h:SetTable.laid mask finger moves led plain hashes=Vo (t',order)):dB t':=by unfold SetTable.laid at h;obtain⟨owner,_,h⟩:=Option.bind_eq_some_iff.mp h;have h:=DS h;have h1:=(congrArg Prod.fst h).symm;dsimp only at h1;subst h1;refine⟨rfl,?_⟩;show(List.map (λx:Nat×Nat=>x.1) (List.filterMap (λj=>Option.map (λx=>(j,x)) (owner.getD j Vp)) (Ed (mask+1)))).Pairwise (· < ·);rw[List.pairwise_map,List.pairwise_filterMap];refine List.Pairwise.imp ?_ (List.pairwise_lt_range (n:=mask+1));intro a b c x d y e;obtain⟨u,_,rfl⟩:=Du.mp d;obtain⟨v,_,rfl⟩:=Du.mp e;exact c
def zT(t:SetTable)(es:Array (Int×Va))(wanted:Nat):dB (relayAll t es wanted).2.1:=by
 unfold relayAll;cases h:t.relaid (es.map (·.1)) wanted with
 | none=>exact jP _ _
 | some x=>
  obtain⟨a,order⟩:=x;dsimp only;split
  .exact AJ h
  .exact jP _ _
def xR(hd:t.dummies = #[])(j:Nat):t.slot j≠.dummy:=by
 unfold SetTable.slot;dsimp only;split
 .intro z;cases z
 .rw[hd];rw[Eg (by unfold SetTable.has;simp)];intro z;cases z
theorem tf{t:SetTable}(hd:t.dummies = #[])(hash:Nat->Int)(h:Int):∀(fuel:Nat) (p:SetTable.Probe) (j:Nat) (d:Option Nat),p.dummy=Vp->SetTable.probe.go t hash h fuel p=Vo (.empty j d)->d=Vp/\t.slot j=.empty
 | 0,p,j,d,_,e=>by unfold SetTable.probe.go at e;cases e
 | fuel+1,p,j,d,a,e=>by
  unfold SetTable.probe.go at e;cases hs:t.slot p.j with
  | empty=>
   rw[hs]at e;cases e;exact⟨a,hs⟩
  | dummy=>exact absurd hs (xR hd _)
  | live i=>
   rw[hs]at e;dsimp only at e;split at e
   .cases e
   .refine tf hd hash h fuel _ j d ?_ e;unfold SetTable.advance;split<;>exact a
def AQ(hi:dB t){j:Nat}(h:t.slot j=.empty):dB (t.put j).1:=by refine⟨?_,Tb.vA hi.2 (Tb.sE hi.2 h)⟩;show(if SetTable.has t.dummies j then _ else t.dummies) = #[];rw[hi.1,Eg (by unfold SetTable.has;simp)]
def zt(hi:dB t)(es:Array (Int×Va))(h:Int)(x:Va):dB (layNew t es h x).2.1:=by
 unfold layNew;cases a:t.freeSlot h with
 | none=>exact jP _ _
 | some y=>
  obtain⟨slot,b⟩:=y;dsimp only;show dB ((t.put slot).1.orStandIn _);unfold SetTable.orStandIn;split
  .refine AQ hi ?_;unfold SetTable.freeSlot at a;split at a
   .rename_i j d hpr;obtain⟨rfl,h2⟩:=tf hi.1 _ _ _ _ _ _ (show(t.probeStart h).dummy=Vp from rfl) hpr;cases a;exact h2
   .cases a
  .exact jP _ _
def below_at{xs:Array Nat}(hs:xs.toList.Pairwise (· < ·)){i j:Nat}(h:xs[i]?=Vo j):SetTable.below xs (j+1)=i+1:=by
 obtain⟨h1,h2,d⟩:=Tb.iU hs (j+1);have hi:i<SetTable.below xs (j+1):=by
  rcases DX i (SetTable.below xs (j+1))with z|z
  .exact z
  .have:=d i j z h;omega
 rcases DX (i+1) (SetTable.below xs (j+1))with z|z
 .have c:xs[i+1]?=Vo xs[i+1]:=getElem?_pos xs (i+1) (by omega);have a:=h2 (i+1) _ z c;have b:=Tb.kA hs h c (Nat.lt_succ_self i);omega
 .omega
def Ct{xs:Array Nat}(hs:xs.toList.Pairwise (· < ·)):SetTable.below xs 0=0:=by
 obtain⟨h1,h2,a⟩:=Tb.iU hs 0;rcases Nat.eq_zero_or_pos (SetTable.below xs 0)with z|z
 .exact z
 .have:=h2 0 _ z (getElem?_pos xs 0 (by omega));omega
section
variable {P:Vd} {w:Ve} {A:Vi} {E:Va->Vc->Prop} {s:Vc}
def CO{it:Vb}{i slot:Nat}{es:Array (Int×Va)}{Q:Option Va->Vc->Prop}(e:w.params.followText "set-order" = false)(hit:s.heap.get? it=Vo (bM a (rawInt (slot:Int)) i es.size ep))(ho:s.heap.get? a=Vo o)(hd:o.data=.set es ep t)(d:t.fits es.size=true)(h1:(!t.plain && decide (es.size>1))=false)(f:t.led=true)
  {x:Int×Va} {j:Nat} (g:es[SetTable.below t.place slot]?=Vo x) (h:t.place[SetTable.below t.place slot]?=Vo j) (l:∀h',h'.get? it=Vo (bM a (rawInt ((j+1:Nat):Int)) (i+1) es.size ep)->Heap.SameBut it s.heap h'->Q (Vo x.2) { s with heap:=h' }):Vf (Vg P w) A (pyNext (.ref it)) Q E s:=by
 have T:s.TypeIs (.ref it) "set_iterator":=⟨_,hit,rfl⟩;unfold pyNext;refine CZ (wpAny_attempt (Ec (name:=DR "__next__") T SF.slot_next (wpAny_call_entry SF.slot_next T SF.entry_next ?_ (SF.args_next _))));show Vf _ _ (fieldsOf (.ref it) >>= _) _ _ s;refine CZ (wpAny_fieldsOf hit rfl ?_);show Vf _ _ (setEntries a >>= _) _ _ s;unfold setEntries;refine CZ (CZ (Eb ho hd d (Dc ?_)));rw[Eg (by simp)];show Vf _ _ (setNext a slot _ _ >>= _) _ _ s;unfold setNext;refine CZ (CZ (Eb ho hd d ?_));dsimp only;unfold setsByText;refine CZ (CZ (wpAny_askSetting (Dc ?_)));rw[show (Vg P w).w.params.followText "set-order" = false from e];simp only[DW,if_false];have c:¬((!t.plain && decide (es.size>1))=true):=by rw[h1];exact Dy
 split
 .rename_i hh;exact absurd hh c
 .refine CZ ?_;show Vf _ _ (if(!t.led && !es.isEmpty)=true then unsupported _ else pure ()) _ _ _;rw[Eg (by rw[f];exact Dy)];refine Dc (Dc ?_);rw[g,h];dsimp only;refine CZ (wpAny_setField hit rfl (by simp) ?_);have b:(s.heap.update it (Obj.mapFields (·.setIfInBounds 0 (rawInt ((j+1:Nat):Int))))).get? it=Vo (bM a (rawInt ((j+1:Nat):Int)) i es.size ep):=gW (k:=0) (x:=rawInt ((j+1:Nat):Int)) hit rfl;refine CZ (wpAny_setField (s:={ s with heap:=s.heap.update it (Obj.mapFields (·.setIfInBounds 0 (rawInt ((j+1:Nat):Int)))) }) b rfl (by simp) ?_);have m:=gW (k:=1) (x:=rawInt ((i:Int)+1)) b rfl;refine Dc ⟨_,rfl,Dc (l _ ?_ ((Heap.SameBut.update ..).trans (Heap.SameBut.update ..)))⟩;exact m
def xC{it:Vb}{i slot:Nat}{es:Array (Int×Va)}{Q:Option Va->Vc->Prop}(b:A.handled=Vp)(e:w.params.followText "set-order" = false)(hit:s.heap.get? it=Vo (bM a (rawInt (slot:Int)) i es.size ep))(ho:s.heap.get? a=Vo o)(hd:o.data=.set es ep t)(d:t.fits es.size=true)(h1:(!t.plain && decide (es.size>1))=false)(f:t.led=true)
  (g:es[SetTable.below t.place slot]?=Vp) (h:∀h',Heap.ExtBut it s.heap h'->Q Vp { s with heap:=h' }):Vf (Vg P w) A (pyNext (.ref it)) Q E s:=by
 have T:s.TypeIs (.ref it) "set_iterator":=⟨_,hit,rfl⟩;unfold pyNext;refine CZ (wpAny_attempt (Ec (name:=DR "__next__") T SF.slot_next (wpAny_call_entry SF.slot_next T SF.entry_next ?_ (SF.args_next _))));show Vf _ _ (fieldsOf (.ref it) >>= _) _ _ s;refine CZ (wpAny_fieldsOf hit rfl ?_);show Vf _ _ (setEntries a >>= _) _ _ s;unfold setEntries;refine CZ (CZ (Eb ho hd d (Dc ?_)));rw[Eg (by simp)];show Vf _ _ (setNext a slot _ _ >>= _) _ _ s;unfold setNext;refine CZ (CZ (Eb ho hd d ?_));dsimp only;unfold setsByText;refine CZ (CZ (wpAny_askSetting (Dc ?_)));rw[show (Vg P w).w.params.followText "set-order" = false from e];simp only[DW,if_false];have c:¬((!t.plain && decide (es.size>1))=true):=by rw[h1];exact Dy
 split
 .rename_i b;exact absurd b c
 .refine CZ ?_;show Vf _ _ (if(!t.led && !es.isEmpty)=true then unsupported _ else pure ()) _ _ _;rw[Eg (by rw[f];exact Dy)];refine Dc (Dc ?_);rw[g];dsimp only;refine CZ (wpAny_setField hit rfl (by simp) ?_);exact o7 (s:=s) (it:=it) b (Heap.SameBut.update ..).extBut h
def Co(B:A.handled=Vp)(n:w.params.followText "set-order" = false)(I a:Vb)(l:a≠I){es:Array (Int×Va)}(hd:o.data=.set es ep t)(p:t.fits es.size=true)(h1:(!t.plain && decide (es.size>1))=false)(r:t.led=true)(F:t.place.size=es.size)(c:t.place.toList.Pairwise (· < ·)):
  Walks P w A I [I,a] [I] es.size (λi v=>∃x,es[i]?=Vo x/\v=x.2) (λi h=>(∃slot:Nat,h.get? I=Vo (bM a (rawInt (slot:Int)) i es.size ep)/\SetTable.below t.place slot=i)/\h.get? a=Vo o) where
 sub:=λb hb=>by simp at hb;simp[hb]
 frame:=λ_ _ _ st u=>by obtain⟨⟨slot,h1,h2⟩,C⟩:=st;exact⟨⟨slot,u I (by simp) _ h1,h2⟩,u a (by simp) _ C⟩
 item:=λi s Q E hi st d=>by obtain⟨⟨slot,f,g⟩,j⟩:=st;have y:=getElem?_pos es i hi;have z:=getElem?_pos t.place i (by omega);refine CO n f j hd p h1 r (by rw[g];exact y) (by rw[g];exact z) λh' k sb=>?_;refine d _ h' s.toks ⟨_,y,rfl⟩ ⟨⟨_,k,?_⟩,(sb.2 a l).trans j⟩ λb o hb e=>sb.extBut b o (λh=>hb (by simp[h])) e;exact below_at c z
 done:=λs Q E st d=>by obtain⟨⟨slot,f,g⟩,j⟩:=st;exact xC B n f j hd p h1 r (by rw[g];exact Array.getElem?_eq_none (DC _)) λh' m=>d h' s.toks λb o hb e=>m b o (λh=>hb (by simp[h])) e
 self:=λi s Q E st d=>by obtain⟨⟨slot,f,g⟩,j⟩:=st;exact m9 f d
def Ak{es:Array (Int×Va)}(ho:s.heap.get? a=Vo o)(hex:o.ExactSet)(hd:o.data=.set es ep t)(b:t.fits es.size=true)(e:es.size<=sizeLine)
  (k:w.params.followText "set-order" = true\/(!t.plain && decide (es.size>1))=false->Q (.ref s.heap.objs.size) { s with heap:=s.heap.push (bM a (rawInt 0) 0 es.size ep) })
  (hD:∀(ys:List Nat) d,ys.Perm (Ed es.size)->Q (.ref (s.heap.objs.size+1)) { s with heap:=(s.heap.push (seqObj "tuple" (ys.map λ(i:Nat)=>rawInt i).toArray 0)).push (bM a (.ref s.heap.objs.size) 0 es.size ep),drawn:=d }) :
  Vf (Vg P w) A (pyIter (.ref a)) Q E s:=by
 have T:s.TypeIs (.ref a) "set":=⟨o,ho,hex.1⟩;refine wpAny_pyIter_slot T F.slot_set_iter (wpAny_call_entry F.slot_set_iter T SF.B7 ?_ (SF.BE _));show Vf _ _ (Builtin.Frozenset.sizeOf a >>= _) _ _ s;unfold Builtin.Frozenset.sizeOf setEntries;refine CZ (CZ (CZ (Eb ho hd b (Dc (Dc ?_)))));show Vf _ _ (setDrawn a >>= _) _ _ s;unfold setDrawn;refine CZ (CZ (Eb ho hd b ?_));dsimp only;unfold setsByText;refine CZ (CZ (wpAny_askSetting (Dc (Dc ?_))));by_cases c:(!(w.params.followText "set-order") && (!t.plain && decide (es.size>1)))=true
 .rw[Eh (by exact c)];refine CZ (qI _ _ s (by rw[List.length_range]) λys d j=>?_);have f:ys.length=es.size:=by rw[j.length_eq,List.length_range]
  simp only[newTuple];refine CZ (wpAny_newObj_type ?_ (by show(List.map _ ys).toArray.size<=sizeLine;rw[Dm,Dh,f];exact e));unfold setEpoch;refine CZ (CZ (Eb (s:={ s with heap:=s.heap.push (seqObj "tuple" (ys.map λ(i:Nat)=>rawInt i).toArray 0),drawn:=d }) (De _ ho) hd b (Dc ?_)));simp only[newFields];have g:(s.heap.push (seqObj "tuple" (ys.map λ(i:Nat)=>rawInt i).toArray 0)).objs.size=s.heap.objs.size+1:=Heap.size_push _ _;refine CZ (wpAny_newObj_type (Dc ⟨_,rfl,"set_iterator",_,⟨_,Df _ rfl,rfl⟩,SF.slot_next.lookup,?_⟩) (by size_fits));have:=hD ys d j;rw[<-g]at this;exact this
 .rw[Eg (by exact c)];refine CZ (Dc ?_);unfold setEpoch;refine CZ (CZ (Eb ho hd b (Dc ?_)));simp only[newFields];refine CZ (wpAny_newObj_type (Dc ⟨_,rfl,"set_iterator",_,⟨_,Df _ rfl,rfl⟩,SF.slot_next.lookup,?_⟩) (by size_fits));refine k ?_;cases h:w.params.followText "set-order" with
  | true=>exact .inl rfl
  | false=>
   rw[h,Bool.not_false,Bool.true_and]at c;exact .inr (Bool.eq_false_iff.mpr c)
def zN{es:Array (Int×Va)}(u:A.handled=Vp)(ho:s.heap.get? a=Vo o)(hex:o.ExactSet)(hd:o.data=.set es ep t)(l:t.fits es.size=true)(j:t.led=cC w)(N:t.place.size=es.size)(g:t.place.toList.Pairwise (· < ·))(B:es.size<=sizeLine)
  (h:∀(I:Vb) (h1:Vh) d (fp:List Vb) (Pz:Nat->Va->Prop) (St:Nat->Vh->Prop),Walks P w A I fp [I] es.size Pz St->St 0 h1->s.heap.objs.size<=I->(∀c∈fp,c=a\/s.heap.objs.size<=c)->(∀b o',s.heap.get? b=Vo o'->h1.get? b=Vo o')->(∀acc:Array Va,acc.size=es.size->(∀i v,acc[i]?=Vo v->Pz i v)->acc.toList.Perm (es.toList.map (·.2)))->Q (.ref I) { s with heap:=h1,drawn:=d }):Vf (Vg P w) A (pyIter (.ref a)) Q E s:=by
 have hlt:a<s.heap.objs.size:=Dg ho;have inOrder:∀{xs:Array (Int×Va)} {acc:Array Va},acc.size=xs.size->(∀i v,acc[i]?=Vo v->∃x:Int×Va,xs[i]?=Vo x/\v=x.2)->acc.toList=xs.toList.map (·.2):=λ{xs acc} m k=>by
  apply List.ext_getElem
  .rw[Dl,Dh,Dl,m]
  .intro i p X;rw[Dl]at p;obtain⟨x,C,F⟩:=k i acc[i] (getElem?_pos acc i p);rw[Array.getElem_toList,F,List.getElem_map,Array.getElem_toList];obtain⟨_,e⟩:=Array.getElem?_eq_some_iff.mp C;rw[e]
 refine Ak ho hex hd l B (λO=>?_) (λys d f=>?_)
 .have hfp:∀c∈[s.heap.objs.size,a],c=a\/s.heap.objs.size<=c:=λc G=>by
   rcases Dw.mp G with z|z
   .exact .inr (Nat.le_of_eq z.symm)
   .exact .inl (Dt.mp z)
  have r:(s.heap.push (bM a (rawInt 0) 0 es.size ep)).get? s.heap.objs.size=Vo (bM a (rawInt 0) 0 es.size ep):=Df _ rfl;have M:=De (bM a (rawInt 0) 0 es.size ep) ho;cases f:w.params.followText "set-order" with
  | true=>
   refine h _ _ s.drawn _ _ _ (xY u f s.heap.objs.size a (DB hlt) hd l) ⟨r,M⟩ (DC _) hfp (λb o' e=>De _ e) λacc a1 a2=>?_;have H:(pickOrder (w.params.setOrder a ep) es).size=es.size:=by rw[<-Dl,(jL _ es).length_eq,Dl]
   rw[inOrder (a1.trans H.symm) a2];exact(jL (w.params.setOrder a ep) es).map (·.2)
  | false=>
   have H:t.led=true:=by rw[j];show(!w.params.followText "set-order")=true;rw[f];rfl
   refine h _ _ s.drawn _ _ _ (Co u f s.heap.objs.size a (DB hlt) hd l (O.resolve_left (by rw[f];decide)) H N g) ⟨⟨0,r,Ct g⟩,M⟩ (DC _) hfp (λb o' e=>De _ e) λacc a1 a2=>?_;rw[inOrder a1 a2]
 .have J:(s.heap.push (seqObj "tuple" (ys.map λ(i:Nat)=>rawInt i).toArray 0)).objs.size=s.heap.objs.size+1:=Heap.size_push _ _;have r:((s.heap.push (seqObj "tuple" (ys.map λ(i:Nat)=>rawInt i).toArray 0)).push (bM a (.ref s.heap.objs.size) 0 es.size ep)).get? (s.heap.objs.size+1)=some (bM a (.ref s.heap.objs.size) 0 es.size ep):=by rw[<-J];exact Df _ rfl
  refine h _ _ d _ _ _ (A0 u (s.heap.objs.size+1) a s.heap.objs.size (DB (Nat.lt_succ_of_lt hlt)) (DB (Nat.lt_succ_self _)) hd l f) ⟨r,De _ (De _ ho),De _ (Df _ rfl)⟩ (Nat.le_succ _) (λc G=>?_) (λb o' e=>De _ (De _ e)) λacc h1 h2=>?_
  .rcases Dw.mp G with z|z
   .exact .inr (by rw[z];exact Nat.le_succ _)
   .rcases Dw.mp z with z|z
    .exact .inl z
    .exact .inr (Nat.le_of_eq (Dt.mp z).symm)
  .have K:ys.length=es.size:=by rw[f.length_eq,List.length_range]
   have R:acc.toList=(ys.filterMap (es[·]?)).map (·.2):=by
    apply List.ext_getElem?;intro i;rw[Dj,Tb.jf es ys (λy L=>List.mem_range.mp (f.mem_iff.mp L))];by_cases p:i<acc.size
    .have m:=getElem?_pos acc i p;obtain⟨y,x,L,C,F⟩:=h2 i acc[i] m;have k:acc.toList[i]?=Vo acc[i]:=by rw[Array.getElem?_toList];exact m
     rw[k,L,Option.bind_some,C,F];rfl
    .have k:acc.toList[i]?=none:=List.getElem?_eq_none (by rw[Dl];omega);rw[k,List.getElem?_eq_none (by rw[K,<-h1];omega)];rfl
   rw[R];refine List.Perm.map _ ?_;have S:(Ed es.size).filterMap (es[·]?)=es.toList:=by
    apply List.ext_getElem?;intro n;have T:es.toList[n]?=es[n]?:=Array.getElem?_toList;rw[T,Tb.jf es _ (λi hi=>List.mem_range.mp hi)];by_cases U:n<es.size
    .rw[List.getElem?_range U];rfl
    .have W:(Ed es.size)[n]?=Vp:=List.getElem?_eq_none (by rw[List.length_range];omega);rw[W,Array.getElem?_eq_none (by omega)];rfl
   rw[<-S];exact f.filterMap _
def zF{es:Array (Int×Va)}{Q:List Va->Vc->Prop}(G:A.handled=Vp)(ho:s.heap.get? a=Vo o)(hex:o.ExactSet)(hd:o.data=.set es ep t)(H:t.fits es.size=true)(m:t.led=cC w)(J:t.place.size=es.size)
  (n:t.place.toList.Pairwise (· < ·)) (p:es.size<=sizeLine) (K:∀(h':Vh) (tk:Nat) d (vs:List Va),vs.Perm (es.toList.map (·.2))->s.toks<=tk->s.heap.objs.size<h'.objs.size->(∀b o,b<s.heap.objs.size->s.heap.get? b=Vo o->h'.get? b=Vo o)->Q vs { s with heap:=h',toks:=tk,drawn:=d }):Vf (Vg P w) A (collect (.ref a)) Q E s:=by
 have hlt:a<s.heap.objs.size:=Dg ho;unfold collect;refine CZ (wpAny_runValue (codeAny_builtin F.entry_proto_collect ?_));rw[Around.under_plainId F.plain_proto_collect _];show Vf _ A.in1 (newList [] >>= λl=>again (.builtin "list.__iadd__" ⟨[l,.ref a],[]⟩)) _ _ s;refine CZ (wpAny_newObj_type ?_);refine Dc ⟨plainId_quiet F.plain_list_iadd _,codeAny_builtin F.entry_list_iadd ?_⟩;rw[Around.under_plainId F.plain_list_iadd _];show Vf _ A.in1 (Builtin.List.listExtendWith (.ref s.heap.objs.size) (.ref a) (.ref s.heap.objs.size)) _ _ { s with heap:=s.heap.push (seqObj "list" #[] 0) };unfold Builtin.List.listExtendWith;have i:(s.heap.push (seqObj "list" #[] 0)).get? a=Vo o:=De _ ho;have j:(s.heap.push (seqObj "list" #[] 0)).objs.size=s.heap.objs.size+1:=Heap.size_push _ _;refine CZ (wpAny_typeOf (T:="set") ⟨o,i,hex.1⟩ ?_);have L:Builtin.List.listSameRef (.ref s.heap.objs.size) (.ref a)=false:=by have:s.heap.objs.size≠a:=Nat.ne_of_gt hlt;simp[Builtin.List.listSameRef,this]
 have M:(Value.type "set" == Value.type "list")=false:=by decide
 have N:(Value.type "set" == Value.type "tuple")=false:=by decide
 simp only[L,M,N,Bool.or_false,DW,if_false];refine CZ (zN (s:={ s with heap:=s.heap.push (seqObj "list" #[] 0) }) (by simp[G]) i hex hd H m J n p λI h1 d fp Pz St W x O hfp hold hPm=>?_);have y:s.heap.objs.size+1<=I:=by rw[<-j];exact O
 refine CZ (wpAny_holding (A4 (s:={ s with heap:=h1,drawn:=d }) ⟨o,hold _ _ i,hex.1⟩ ?_));rw[Eh (by first|rfl|decide +kernel|kernel_rfl)];refine CZ (wpAny_rule ?_);have f:h1.get? s.heap.objs.size=Vo (seqObj "list" #[] 0):=hold _ _ (Df _ rfl);refine CZ ?_;show Vf _ A.in1 (updateSeq s.heap.objs.size (·.push .none) >>= λ_=>updateSeq s.heap.objs.size (·.pop)) _ _ { s with heap:=h1,drawn:=d };refine CZ (wpAny_updateSeq f rfl ?_);have g:=Heap.get?_update_self (Obj.mapSeq (·.push Value.none)) f rfl;refine wpAny_updateSeq (s:={ s with heap:=h1.update s.heap.objs.size (Obj.mapSeq (·.push Value.none)),drawn:=d }) g rfl ?_;have k:=Heap.get?_update_self (Obj.mapSeq (·.pop)) g rfl;have oth:∀b o,b≠s.heap.objs.size->h1.get? b=Vo o ->
   ((h1.update s.heap.objs.size (Obj.mapSeq (·.push Value.none))).update s.heap.objs.size (Obj.mapSeq (·.pop))).get? b=Vo o:=
  λb o hb e=>(Heap.get?_update_other _ _ (Ne.symm hb)).trans ((Heap.get?_update_other _ _ (Ne.symm hb)).trans e)
 refine Dc ⟨plainId_quiet F.plain_extend_loop _,codeAny_extend_loopS W.toS p _ (λz=>by
  rcases hfp _ z with e|e
  .exact Nat.ne_of_gt hlt e
  .rw[j]at e;exact absurd e (Nat.not_succ_le_self _)) _ es.size 0 { s with heap:=(h1.update s.heap.objs.size (Obj.mapSeq (·.push Value.none))).update s.heap.objs.size (Obj.mapSeq (·.pop)),drawn:=d } _ _ rfl (Nat.zero_le _)
  (W.frame _ _ _ x λc R o' e=>oth c o' (λz=>by
   rcases hfp c R with e|e
   .rw[z]at e;exact Nat.ne_of_gt hlt e
   .rw[z,j]at e;exact absurd e (Nat.not_succ_le_self _)) e) k (ItemsOf.nil _) λs' r c' u v h=>?_⟩
 show Vf _ A (load s.heap.objs.size >>= _) _ _ s';refine CZ (wpAny_load v ?_);obtain⟨h',S,U,B,C⟩:=s';have z1:S=s.gens:=u.gens;have z2:U=d:=u.drawn;have z3:C=s.os:=u.os;subst z1 z2 z3;refine Dc (K h' B _ _ (hPm r h.1 h.2) u.toks (Dg v) λb o' hb e=>u.heap b o' (λz=>?_) (oth b o' (DB hb) ?_))
 .rcases Dw.mp z with z|z
  .exact DB hb z
  .have z:=Dt.mp z;rw[z]at hb;exact absurd hb (Nat.not_lt.mpr (Nat.le_of_succ_le y))
 .exact hold _ _ (De _ e)
def cY(P:Vd)(w:Ve)(h:Vh)(a:Vb)(S:Int->Bool)(n:Nat):Prop:=
 ∃o es ep t,h.get? a=Vo o/\o.ExactSet/\o.data=.set es ep t/\ElemsOf (PySem.intKind P w) es.toList/\(∀k,S k=true↔∃e∈es.toList,(PySem.intKind P w).is k e.2=true)/\es.size<scanBound/\t.fits es.size=true/\es.size=n/\t.led=cC w/\dB t
def cY.store{es b:Array (Int×Va)}{t':SetTable}{S':Int->Bool}(ho:h.get? a=Vo o)(hex:o.ExactSet)(hd:o.data=.set es ep t)
  (c:ElemsOf (PySem.intKind P w) b.toList) (hmem:∀k,S' k=true↔∃e∈b.toList,(PySem.intKind P w).is k e.2=true) (hb:b.size<scanBound) (f:t'.fits b.size=true) (g:t'.led=cC w) (hi:dB t') :
  (h.update a (Obj.putSet b t')).get? a=Vo { o with data:=.set b (ep+1) t' }/\cY P w (h.update a (Obj.putSet b t')) a S' b.size:=by
 have d:(h.update a (Obj.putSet b t')).get? a=Vo { o with data:=.set b (ep+1) t' }:=by have:=Heap.get?_update_self (Obj.putSet b t') ho (by rw[putSet_of b t' hd];rfl);rw[putSet_of b t' hd]at this;exact this
 exact⟨d,_,b,ep+1,t',d,hex,rfl,c,hmem,hb,f,rfl,g,hi⟩
def vF {g : Bool -> Sem Unit} (H : ∀ (b : Bool) (f : Vc) (F : Unit -> Vc -> Prop), F () f -> Vf (Vg P w) A (g b) F E f)
    {a : Vb} {o : Obj} {es c : Array (Int × Va)} {ep : Nat} {t d : SetTable} {S' : Int -> Bool} (ho : s.heap.get? a = Vo o) (hex : o.ExactSet) (hd : o.data = .set es ep t)
    (hel1 : ElemsOf (PySem.intKind P w) c.toList) (hmem1 : ∀ u, S' u = true ↔ ∃ e ∈ c.toList, (PySem.intKind P w).is u e.2 = true) (m : c.size < scanBound) (v : d.fits c.size = true) (n : d.led = cC w) (x : dB d) {I : Bool} {R : Option Bool -> Vc -> Prop}
    (h : ∀ h', Heap.SameBut a s.heap h' -> cY P w h' a S' c.size -> R (Vo true) { s with heap := h' }) :
    Vf (Vg P w) A (do
        storeSet a c d
        if (!I && d.tooFull) = true then do
            g (relayAll d c (SetTable.grown c.size)).2.2
            storeSet a (relayAll d c (SetTable.grown c.size)).1 (relayAll d c (SetTable.grown c.size)).2.1
            pure (Vo true)
          else pure (Vo true)) R E s := by
  refine CZ (wpAny_storeSet_of ho hd ?_ (fits_of_scanBound m));obtain ⟨p, y⟩ := cY.store (P := P) ho hex hd hel1 hmem1 m v n x;have i := Heap.SameBut.update s.heap a (Obj.putSet c d);split
  . have l := relayAll_perm d c (SetTable.grown c.size)
    have j := relayAll_fits d c (SetTable.grown c.size);obtain ⟨l1, l2⟩ := xi d c (SetTable.grown c.size);have k := zT d c (SetTable.grown c.size);generalize relayAll d c (SetTable.grown c.size) = J at l j l1 l2 k ⊢;obtain ⟨z, K, G⟩ := J;dsimp only at l j l1 l2 k ⊢;have B : z.size = c.size := by rw [<- Dl, l.length_eq, Dl]
    refine CZ (H _ _ _ (CZ (wpAny_storeSet_of p rfl ?_ (fits_of_scanBound (by omega)))));obtain ⟨_, r⟩ := cY.store (P := P) (w := w) (S' := S') p hex rfl (hel1.perm l) (λu => (hmem1 u).trans ⟨λ⟨e, C, q⟩ => ⟨e, l.mem_iff.mpr C, q⟩, λ⟨e, C, q⟩ => ⟨e, l.mem_iff.mp C, q⟩⟩) (by omega) j (l1.trans n) k;rw [B] at r;exact Dc (h _ (i.trans (Heap.SameBut.update _ a _)) r)
  . exact Dc (h _ i y)
def xg{S:Int->Bool}{k:Int}{tk:Tok}{Q:Bool->Vc->Prop}(T:cY P w s.heap a S n)(I:n+1<scanBound)
  (h:∀h' b,Heap.SameBut a s.heap h'->cY P w h' a (λg=>S g || decide (g=k)) (if S k then n else n+1)->Q b { s with heap:=h' }) :
  Vf (Vg P w) A (setAddHashed a (.int k tk) ((PySem.intKind P w).hash k)) Q E s:=by
 obtain⟨o,es,ep,t,ho,hex,hd,r,hmem,hb,J,N,i,z⟩:=T;have l:(PySem.intKind P w).is k (.int k tk)=true:=rA k tk;have C:(Value.int k tk).scannable=true:=rfl;unfold setAddHashed setAddHashedIn;refine wpAny_holding (CZ (Eb ho hd J ?_));dsimp only;rw[byScan_of C hb r];simp only[↓reduceIte];unfold setAddByScan;refine CZ (CZ (wpAny_rule (CZ (wpAny_setScan_of l ho hd J r ?_))));cases O:List.findIdx? (λe=>(PySem.intKind P w).is k e.2) es.toList with
 | some j=>
  dsimp only;obtain⟨U,K,_⟩:=List.findIdx?_eq_some_iff_getElem.mp O;have u:S k=true:=(hmem k).mpr ⟨es.toList[j],DI U,K⟩;refine Dc (Dc ?_);have e:s={ s with heap:=s.heap }:=by cases s;rfl
  rw[e];refine h s.heap _ (Heap.SameBut.refl a s.heap) ⟨o,es,ep,t,ho,hex,hd,r,λg=>?_,hb,J,by rw[u];exact N,i,z⟩;rw[Bool.or_eq_true,decide_eq_true_eq,<-hmem g];exact⟨λM=>M.elim id (λe=>e ▸ u),.inl⟩
 | none=>
  dsimp only;have u:S k=false:=by
   cases M:S k with
   | false=>rfl
   | true=>
    obtain⟨e,W,X⟩:=(hmem k).mp M;have:=List.findIdx?_eq_none_iff.mp O e W;rw[X]at this;cases this
  have hgw:∀(b:Bool) {f:Vc} {F:Unit->Vc->Prop},F () f->Vf (Vg P w) A (match b with|true=>rule "set.scan.the-table-gave-way"|false=>pure ()) F E f:=
   λb f F B=>by cases b<;>first|exact Dc B|exact wpAny_rule B
  have c:=layNew_perm t es ((PySem.intKind P w).hash k) (.int k tk);have d:=layNew_fits t es ((PySem.intKind P w).hash k) (.int k tk);have v:=zr t es ((PySem.intKind P w).hash k) (.int k tk);have x:=zt z es ((PySem.intKind P w).hash k) (.int k tk);generalize layNew t es ((PySem.intKind P w).hash k) (.int k tk)=L at c d v x ⊢;obtain⟨y,Y,Z,R⟩:=L;dsimp only at c d v x ⊢;rw[Array.toList_push]at c;have hel1:ElemsOf (PySem.intKind P w) y.toList:=(r.push l C).perm c;have hmem1:∀g,(S g || decide (g=k))=true↔∃e∈y.toList,(PySem.intKind P w).is g e.2=true:=mem_push_iff l hmem c;have G:y.size=n+1:=by rw[<-Dl,c.length_eq,DA,Dl,N];rfl
  refine CZ (hgw _ ?_);have hend:∀h' b,Heap.SameBut a s.heap h'->cY P w h' a (λg=>S g || decide (g=k)) y.size->Q b { s with heap:=h' }:=by intro h' b m p;refine h h' b m ?_;rw[u,Eg Dy,<-G];exact p
  by_cases H:Y.plain=true
  .rw[Eh H];refine CZ ?_;rw[hashByValue_scannable 8 C];refine Dc ?_;rw[show plainKind (.int k tk)=true from rfl];simp only[if_true];refine vF ?_ ho hex hd hel1 hmem1 (by omega) d (v.trans i) x ?_
   .intro b f F B;cases b<;>first|exact Dc B|exact wpAny_rule B
   .intro h' m p;dsimp only;exact Dc (hend h' _ m p)
  .rw[Eg H];refine CZ (Dc ?_);simp only[if_true];refine vF ?_ ho hex hd hel1 hmem1 (by omega) d (v.trans i) x ?_
   .intro b f F B;cases b<;>first|exact Dc B|exact wpAny_rule B
   .intro h' m p;dsimp only;exact Dc (hend h' _ m p)
def dy(P:Vd)(w:Ve)(h:Vh)(a:Vb)(D:List Int):Prop:=D.Nodup/\cY P w h a (λk=>decide (k∈D)) D.length
def dy.elems{D:List Int}(j:dy P w h a D):∃o es ep t ds,h.get? a=Vo o/\o.ExactSet/\o.data=.set es ep t/\t.fits es.size=true/\t.led=cC w/\dB t/\es.size<scanBound/\es.size=D.length/\IntsAre (es.toList.map (·.2)) ds/\ds.Perm D:=by
 obtain⟨d,o,es,ep,t,ho,hex,hd,f,hmem,hb,l,i,b,c⟩:=j;obtain⟨ds,h1,h2⟩:=rW f;refine⟨o,es,ep,t,ds,ho,hex,hd,l,b,c,hb,i,h1,yI d (λk m=>?_) ?_⟩
 .obtain⟨e,n,g⟩:=(hmem k).mp (Ef m);exact h2 e n k g
 .rw[<-IntsAre.length h1,Dh,Dl,i]
def cY.moved{S:Int->Bool}(b:cY P w h a S n)(c:∀o,h.get? a=Vo o->h'.get? a=Vo o):cY P w h' a S n:=by obtain⟨o,es,ep,t,ho,r⟩:=b;exact⟨o,es,ep,t,c _ ho,r⟩
def zB{D:List Int}{k:Int}(hd:D.Nodup)(c:cY P w h a (λb=>decide (b∈D) || decide (b=k)) (if decide (k∈D)then D.length else D.length+1)):∃f,dy P w h a f/\f.length<=D.length+1/\∀x,x∈f↔x∈D\/x=k:=by
 by_cases d:k∈D
 .refine⟨D,⟨hd,?_⟩,Nat.le_succ _,λx=>⟨.inl,λz=>z.elim id λe=>e ▸ d⟩⟩;rw[Ef d,Eh rfl]at c;have e:(λb=>decide (b∈D) || decide (b=k))=λb=>decide (b∈D):=by
   funext b;by_cases e:b=k
   .subst e;simp[d]
   .simp[e]
  rw[e]at c;exact c
 .refine⟨k::D,⟨List.nodup_cons.mpr ⟨d,hd⟩,?_⟩,DC _,λx=>by rw[Dw];exact⟨λz=>z.symm,λz=>z.symm⟩⟩;rw[Ee d,Eg Dy]at c;have e:(λb=>decide (b∈D) || decide (b=k))=λb=>decide (b∈k::D):=by funext b;simp only[Dw];by_cases e:b=k<;>by_cases g:b∈D<;>simp[e,g]
  rw[e]at c;exact c
def wm{I:Vb}{wr:List Vb}{G:Array GenState->Array GenState->Prop}{Pz:Nat->Va->Prop}{St:Nat->Vc->Prop}(W:WalksS P w A.in1 I fp wr G n Pz St)(S:Vb)(K:S∉fp)(zs:List Int)(r:zs.length=n)(M:n+1<scanBound)
  (h:∀i v,Pz i v->∃z t,v=.int z t/\zs[i]?=Vo z) {R:Result->Vc->Prop} :
  ∀(m i:Nat) (s:Vc) (D:List Int),n-i=m->i<=n->St i s->dy P w s.heap S D->D.length<=i->(∀k,k∈D↔k∈zs.take i) ->
   (∀s' D,Moved (S::wr) G s s'->dy P w s'.heap S D->(∀k,k∈D↔k∈zs)->R (.ok (.ret .none)) s') ->
   codeAny (Vg P w) A (.builtin "set.update.loop" ⟨[.ref S,.ref I],[]⟩) R s:=by
 have j:S∉wr:=λz=>K (W.sub _ z);have more:∀b∈wr,b∈S::wr:=λb z=>Dk _ z;intro m;induction m with
 | zero=>
  intro i s D N hi d a _ hD u;obtain rfl:i=n:=by omega
  refine codeAny_builtin F.entry_set_update_loop ?_;rw[Around.under_plainId F.plain_set_update_loop _];show Vf _ A.in1 (pyNext (.ref I) >>= _) _ _ s;refine CZ (W.done s _ _ d λs' l=>?_);rw[<-r,DK]at hD;exact Dc (u s' D (l.mono more) ⟨a.1,a.2.moved λo=>l.heap S o j⟩ hD)
 | succ m O=>
  intro i s D N hi d a Q hD u;have hlt:i<n:=by omega
  refine codeAny_builtin F.entry_set_update_loop ?_;rw[Around.under_plainId F.plain_set_update_loop _];show Vf _ A.in1 (pyNext (.ref I) >>= _) _ _ s;refine CZ (W.item i s _ _ hlt d λv s' T p l=>?_);obtain⟨z,t,rfl,U⟩:=h i v T;have f:cY P w s'.heap S (λk=>decide (k∈D)) D.length:=a.2.moved λo=>l.heap S o j;show Vf _ A.in1 (holding [Value.int z t] (setAdd S (.int z t)) >>= _) _ _ s';refine CZ (wpAny_holding ?_);unfold setAdd;refine wpAny_holding (CZ ((PySem.intKind P w).pyHash (k:=z) (rA z t) ?_));refine xg (s:={ s' with toks:=s'.toks+1 }) f (by omega) λh' b sb g=>?_;obtain⟨L,x,X,y⟩:=zB a.1 g;have B:∀k,k∈L↔k∈zs.take (i+1):=λk=>by rw[y,hD k,List.take_add_one,U,DF];simp
  refine Dc ⟨plainId_quiet F.plain_set_update_loop _,O (i+1) _ L (by omega) hlt (W.frame _ s' _ _ p (Nat.le_succ _) λc C o e=>?_) x (by omega) B λE Y H J=>u E Y (Moved.trans W.gtrans ((l.mono more).then_heap (Nat.le_succ _) λc o C e=>?_) H) J⟩
  .rw[sb.2 c (λz:c=S=>K (z ▸ C))];exact e
  .rw[sb.2 c (λz:c=S=>C (by rw[z];exact Dn))];exact e
def BZ{l:Vb}{zs:List Int}(J:A.handled=Vp)(gt:s.heap.IsList l ys)(H:IntsAre ys.toList zs)(m:ys.size+1<scanBound)
  (h:∀(h':Vh) (tk:Nat) (D:List Int),dy P w h' s.heap.objs.size D->(∀k,k∈D↔k∈zs)->(∀b o,b<s.heap.objs.size->s.heap.get? b=Vo o->h'.get? b=Vo o)->Q (.ref s.heap.objs.size) { s with heap:=h',toks:=tk }):Vf (Vg P w) A (call (.type "set") [.ref l]) Q E s:=by
 have x1:=F.called_set.notType;have x2:=F.called_set.canCreate;have x3:=F.typeCall_set_1 (.ref l);have x4:=F.called_set.made;have x5:=F.called_set.sub;obtain⟨c,tl,x6⟩:=F.called_set.mro;refine wpAny_call (codeAny_of_tree ?_);show Vf _ _ (callAny (.type "set") _) _ _ _;refine Dc ⟨Code.quiet_builtin _ (by decide +kernel),codeAny_builtin F.entry_type_call ?_⟩;rw[Around.under_plain (weight_type_call_type "set" [.ref l] []) rfl]
 repeat (any_goals (first|assumption|wp_step))
 refine codeAny_mono (BA (.ref l) (E:=E) (Q₁:=λv s1=>v=.ref s.heap.objs.size/\s1={ s with heap:=s.heap.push (bD (cC w)) }) ⟨rfl,rfl⟩) λr s1 n=>?_;cases r with
 | error e=>exact n
 | ok K=>
  cases K with
  | ret v=>
   obtain⟨rfl,rfl⟩:=n;have I:(s.heap.push (bD (cC w))).get? s.heap.objs.size=Vo (bD (cC w)):=Df _ rfl;have L:Shared.TypeIs { s with heap:=s.heap.push (bD (cC w)) } (.ref s.heap.objs.size) "set":=⟨_,I,rfl⟩;have x7:=F.called_set.init.lookup;have x8:=F.called_set.init.bind (.ref s.heap.objs.size)
   repeat (any_goals (first|assumption|wp_step))
   refine codeAny_mono (codeAny_call_builtin (R:=wants (λr s2=>r=.none/\∃h' tk D,s2={ s with heap:=h',toks:=tk }/\dy P w h' s.heap.objs.size D/\(∀k,k∈D↔k∈zs)/\∀b o,b<s.heap.objs.size->s.heap.get? b=Vo o->h'.get? b=Vo o) E) F.called_set.init.plain F.entry_set_init (check_set_init_1 L ?_)) λM s2 a=>?_
   .have p:(s.heap.push (bD (cC w))).IsList l ys:=gt.push _;have hlt:l<s.heap.objs.size:=by obtain⟨o,ho,_⟩:=gt;exact Dg ho
    obtain⟨ol,N,f,nl,g⟩:=id p;obtain⟨c0,d0,dt,sl⟩:=ol;simp only at f g;subst f g;have y1:=F.sub_list_set;have y2:=F.sub_list_frozenset;have y3:(Value.type "list" == Value.type "dict")=false:=by decide
    unfold Builtin.«set.__init__» noKeywords Builtin.Frozenset.updateFrom;generalize hit:pyIter=PI
    wp_walk
    subst hit;refine wpAny_pyIter_list p ?_;refine CZ (wpAny_runValue ?_);have t:(s.heap.push (bD (cC w))).objs.size=s.heap.objs.size+1:=Heap.size_push _ _;have u:A.in1.in1.in1.handled=Vp:=by simp[J]
    have x:l≠(s.heap.push (bD (cC w))).objs.size:=by rw[t];exact DB (Nat.lt_succ_of_lt hlt)
    have y:s.heap.objs.size∉[(s.heap.push (bD (cC w))).objs.size,l]:=by
     intro z;rcases Dw.mp z with z|z
     .rw[t]at z;exact DB (Nat.lt_succ_self _) z
     .exact Nat.ne_of_gt hlt (Dt.mp z)
    have B:zs.length=ys.size:=by rw[<-IntsAre.length H,Dl]
    refine wm ((Walks.list u _ l x ys).toS) s.heap.objs.size y zs B m (λi v O=>?_) (ys.size-0) 0 _ [] (by omega) (Nat.zero_le _) ⟨⟨_,Df _ rfl,rfl,rfl⟩,p.push _⟩
     ⟨List.nodup_nil,bD (cC w),#[],0,_,De _ I,⟨rfl,rfl,rfl⟩,rfl,λe S=>by simp at S,λk=>by simp,by decide,by rfl,rfl,rfl,rfl,.nil⟩ (DC _) (λk=>by simp) λs' D j d hD=>?_
    .exact uH H i v (by rw[Array.getElem?_toList];exact O)
    .obtain⟨h',T,U,C,G⟩:=s';have W:T=s.gens:=j.gens;have X:U=s.drawn:=j.drawn;have Y:G=s.os:=j.os;subst W X Y;show Vf _ _ _ _ _ _;refine Dc ?_;show Vf _ _ (ret Value.none) _ _ _;refine Dc ⟨rfl,h',C,D,rfl,d,hD,λb o hb e=>j.heap b o (λz=>?_) (De _ (De _ e))⟩;rcases Dw.mp z with z|z
     .exact DB hb z
     .have z:=Dt.mp z;rw[t]at z;exact DB (Nat.lt_succ_of_lt hb) z
   .cases M with
    | error e=>exact a
    | ok Z=>
     cases Z with
     | ret r=>
      obtain⟨rfl,h',tk,D,rfl,d,hD,hk⟩:=a
      repeat (any_goals (first|assumption|wp_step))
      exact h _ _ D d hD hk
     | _=>exact a.elim
  | _=>exact n.elim
end
def intOf:Va->Int
 | .int z _=>z
 | _=>0
theorem ints_map:∀(vs:List Va),(∀v∈vs,∃z t,v=Value.int z t)->IntsAre vs (vs.map intOf)
 | [],_=>.nil
 | v::vs,h=>by obtain⟨z,t,rfl⟩:=h v Dn;exact .cons z t (ints_map vs λu a=>h u (Dk _ a))
theorem rB:∀{vs:List Va} {zs:List Int},IntsAre vs zs->∀v∈vs,∃z t,v=Value.int z t
 | _,_,.nil,v,h=>by cases h
 | _,_,.cons z t r,v,h=>by
  rcases Dw.mp h with rfl|h
  .exact⟨z,t,rfl⟩
  .exact rB r v h
theorem sD:∀{vs:List Va} {zs:List Int},IntsAre vs zs->vs.map intOf=zs
 | _,_,.nil=>rfl
 | _,_,.cons z t r=>by show z::_=_;rw[sD r]
section
variable {P:Vd} {w:Ve} {A:Vi} {E:Va->Vc->Prop} {s:Vc}
def Cf{D:List Int}{Q:List Va->Vc->Prop}(k:A.handled=Vp)(l:dy P w s.heap a D)
  (m:∀(h':Vh) (tk:Nat) d (vs:List Va) (ds:List Int),IntsAre vs ds->ds.Perm D->s.toks<=tk->s.heap.objs.size<h'.objs.size->(∀b o,b<s.heap.objs.size->s.heap.get? b=Vo o->h'.get? b=Vo o)->Q vs { s with heap:=h',toks:=tk,drawn:=d }):Vf (Vg P w) A (collect (.ref a)) Q E s:=by
 obtain⟨o,es,ep,t,ds,ho,hex,hd,f,c,e,hb,x,hs,g⟩:=l.elems;have n:t.place.size=es.size:=by simp only[SetTable.fits,DQ,beq_iff_eq,decide_eq_true_eq]at f;exact f.1
 have h:es.size<=sizeLine:=DM (Nat.le_of_lt hb) (by decide);have key:∀(h':Vh) (tk:Nat) d (vs:List Va),vs.Perm (es.toList.map (·.2))->s.toks<=tk->s.heap.objs.size<h'.objs.size->(∀b o,b<s.heap.objs.size->s.heap.get? b=Vo o->h'.get? b=Vo o)->Q vs { s with heap:=h',toks:=tk,drawn:=d }:=λh' tk d vs j p r u=>by refine m h' tk d vs _ (ints_map vs λv i=>rB hs v (j.mem_iff.mp i)) ?_ p r u;refine((j.map intOf).trans (List.Perm.of_eq ?_)).trans g;exact sD hs
 exact zF k ho hex hd f c n e.2 h key
def xp{D:List Int}(u:A.handled=Vp)(v:dy P w s.heap a D)(x:D.length<64)
  (h:∀(h':Vh) (tk:Nat) d (l:Vb) (vs:List Va) (n:List Int),s.heap.objs.size<=l->(∃e,h'.get? l=Vo (seqObj "list" vs.toArray e))->IntsAre vs n->n.Perm D->n.Pairwise (λa b:Int=>a<=b)->s.toks<=tk ->
   (∀b o,b<s.heap.objs.size->s.heap.get? b=Vo o->h'.get? b=Vo o)->Q (.ref l) { s with heap:=h',toks:=tk,drawn:=d }) :
  Vf (Vg P w) A (call (.builtin "sorted") [.ref a]) Q E s:=by
 refine Calls.call_function_entry kind_sorted plain_sorted entry_sorted (args_sorted1 _) ?_;unfold Builtin.«sorted»;refine CZ (m:=checkCount "sorted" 1 1 _) (Dc ?_);refine CZ (Cf (by simp[u]) v λh1 tk d vs ds g i p c r=>?_);have y:vs.length=D.length:=(IntsAre.length g).trans i.length_eq;refine CZ (wpAny_newList ?_ (DM (show vs.length<=64 by omega) (by decide)));have f:(h1.push (seqObj "list" vs.toArray 0)).get? h1.objs.size=Vo (seqObj "list" vs.toArray 0):=Df _ rfl;refine CZ (wpAny_holding (wpAny_call_entry slot_list_sort ⟨_,f,rfl⟩ entry_list_sort (list_sort_tree (s:={ s with heap:=h1.push (seqObj "list" vs.toArray 0),toks:=tk,drawn:=d }) f g (by omega) λout t z B C=>⟨_,rfl,?_⟩) (args_list_sort _)));refine Dc ⟨_,rfl,?_⟩;refine h _ tk d h1.objs.size out.toList t (Nat.le_of_lt c) ?_ z (B.trans i) C p λb o' hb e=>?_
 .obtain⟨j,r1⟩:∃j,((h1.push (seqObj "list" vs.toArray 0)).update h1.objs.size (Obj.mapSeq λ_=>#[])).get? h1.objs.size=Vo (seqObj "list" #[] j):=⟨_,get?_update_seq f (λ_=>#[])⟩;have F:(((((h1.push (seqObj "list" vs.toArray 0)).update h1.objs.size (Obj.mapSeq λ_=>#[])).push (seqObj "tuple" vs.toArray 0)).push (seqObj "list" #[] 0))).get? h1.objs.size=Vo (seqObj "list" #[] j):=De _ (De _ r1);have G:=get?_update_seq F (λ_=>out);exact⟨_,by rw[Array.toArray_toList];exact G⟩
 .have k:b<h1.objs.size:=Nat.lt_trans hb c;have j:=r b o' hb e;unfold sortedHeap;refine(Heap.get?_update_other _ _ (Nat.ne_of_gt k)).trans (De _ (De _ ((Heap.get?_update_other _ _ (Nat.ne_of_gt k)).trans (De _ j))))
end
def setIO(P:Vd)(w:Ve)(a:Vb)(D:List Int):HO:=.ext λh=>dy P w h a D
def Bg{D:List Int}(S:dy P w h a D):bV P w H h a (setIO P w a D):=by
 refine⟨S,?_,λh1 h2 z k=>?_⟩
 .obtain⟨_,o,es,ep,t,ho,_⟩:=S;exact⟨o,ho⟩
 .exact⟨z.1,z.2.moved k⟩
section
variable {X:Cx}
def yk(P:Vd)(w:Ve):List V->Hp->VK->Prop:=λxs H Q=>∃p zs,xs=[.ref p]/\H p=Vo (.lst (List.map V.int zs))/\zs.length<=4000 ∧
 ∀l D,H l=Vp->D.Nodup->(∀z,z∈D↔z∈zs)->Q (.ref l) (upd H l (setIO P w l D))
def call_setJ{k:Nat}(g:Room k X.A):bN X (.type "set") (yk X.prog X.w):=by intro pins s σ H xs us Q I r h;obtain⟨p,zs,rfl,i,j,q⟩:=h;obtain⟨u,rfl,l⟩:=vals1 r;cases l;obtain⟨_,a,n,m,gt⟩:=I.hok p _ i;have c:=intsAre_of m;have t:a.length=zs.length:=IntsAre.length c;refine BZ g.hd (ys:=a.toArray) (zs:=zs) (show s.heap.IsList p _ from⟨_,gt,rfl,n,rfl⟩) c (by rw[Dm,t];exact Nat.lt_of_le_of_lt (Nat.succ_le_succ j) (by decide)) λh' tk D f hD v=>?_;have d:=I.hok.fresh (DC _);exact⟨.ref s.heap.objs.size,_,I.laid (t':=tk) (λb o e=>v b o (Dg e) e) (DC _) (Bg f),rfl,q _ D d f.1 hD⟩
def rSortJ(P:Vd)(w:Ve):List V->Hp->VK->Prop:=λxs H Q=>∃(p:Vb) (D:List Int),xs=[.ref p]/\H p=Vo (setIO P w p D)/\D.length<64 ∧
 ∀l c,H l=Vp->c.Perm D->c.Pairwise (λa b:Int=>a<=b)->Q (.ref l) (upd H l (.lst (List.map V.int c)))
def call_sortJ{k:Nat}(n:Room k X.A):bN X (.builtin "sorted") (rSortJ X.prog X.w):=by intro pins s σ H xs us Q I r h;obtain⟨p,D,rfl,t,j,q⟩:=h;obtain⟨u,rfl,v⟩:=vals1 r;cases v;obtain⟨x,_⟩:=I.hok p _ t;refine xp n.hd (show dy X.prog X.w s.heap p D from x) j λh' tk d l vs m hle a f c g y z=>?_;have i:=I.hok.fresh hle;obtain⟨e,B⟩:=a;refine⟨.ref l,_,((I.dr d).laid (t':=tk) (o:=.lst (m.map V.int)) (λb o e=>z b o (Dg e) e) hle ?_),rfl,q l m i c g⟩;exact⟨by rw[Dh,c.length_eq];exact DM (Nat.le_of_lt j) (by decide),vs,e,sh f,B⟩
end
end L2.Ti
namespace L2
open PySem PySem.Spec PyProof.Rows
section
variable {X:Cx} {pins:List (Vb×Obj)} {σ:St} {H:Hp} {s:Vc}
def iJ{i:Nat}{py:Pos}{pos c:Pos}(own:List Vn)(d:List Nat){K:TI}{te:TE}(R:X.N.Nodup)(f:X.N[i]?=Vo y)(S:Loc X.env.scope y)
  (hi:PI X tg iter K) (U:∀z,PG (cv X sc own d z) tg g) (Z:∀z,fY (cv X sc own d z) ifs tc)
  (he:∀z,PE (cv X sc own d z) elt te) (j:swapsWith (.ListComp elt [⟨tg,iter,ifs,0⟩] sc pos) (Vo (.Name y py)) c.line X.env=pure true:=by rfl) (hc:X.calm=true:=by rfl) (L:sc.kind=.function:=by rfl) (hb:dH sc X.env.scope=true:=by rfl) (hj:fX sc X.N d=true:=by rfl)
  (hs:∀x,foldedSetIterable iter X.env x=pure x:=by intro _;rfl) (k:X.fn y=true\/X.env.scope.names.lookup y=Vo .local:=by first|exact .inl rfl|exact .inr rfl|assumption) :
  PS X (.Assign [.Name y py] (.ListComp elt [⟨tg,iter,ifs,0⟩] sc pos) c) (gX (kE own.length d K g tc te) (gL i)):=by
 intro pins s σ H l I h;rw[exec_Assign_Name_used _ _ _ _ j];refine CZ (wpAny_standAt (CZ ?_));show Vf _ X.A (do let _ <-comprehension (.ListComp elt [⟨tg,iter,ifs,0⟩] sc pos) sc X.env _ (newList []) false (eval iter X.env) (some (assign (.Name y py) X.env))) _ _ s;refine CZ (wpAny_mono (wpAny_comprehension_free (use:=some (assign (.Name y py) X.env)) (Q:=λ_ s'=>SP X pins l .next s') rfl hs (oM λp n k=>I.ok.has p.1 (jN hb n k)) L (λp n hl=>sS hb n hl)
  (aw (hi pins s σ H _ I h) λv s1 h1=>aw h1 λa0 s2 h2=>?_)) (λ_ s' hq=>Dc (Dc hq)) λ_ _ e=>e)
 obtain⟨it,fp,tn,J,H2,e,I2,T,r,M,W,w0,turn⟩:=h2;subst e;refine sX (Q:=λx H1=>gL i x σ H1 l.nx) (RR:=λacc C=>compPost (Vg X.prog X.w) X.A X.xe (Vo (assign (.Name y py) X.env)) (λ_ s'=>SP X pins l .next s') acc C) L hb hj (λ_=>U _) (λ_=>Z _) (λ_=>he _) I2 (λC=>Turn.at_ (Y:=cv X sc own d ⟨_,_,_,C⟩) T hc) r M w0 turn ?_;intro D C s' ys H' nD I' hC ⟨m,hm⟩ a1 q;show Vf _ X.A (assign (.Name y py) X.env (.ref D)) _ _ _;refine wpAny_assign_Name (rE I' R f S (v:=.ref D) rfl (λt u ⟨a,B,ha⟩=>?_) k);obtain⟨f0,O,M,f3,P,f5⟩:=hC;have E:a≠C:=by
  rcases ha with rfl|ha
  .exact Ne.symm O
  .exact P y a ha
 refine⟨m,hm.sameBut B (Ne.symm E),λh' F=>?_⟩;exact⟨_,_,u.turned (t':=t.toks) (it:=C) (λb o G e=>(F.2 b G).trans e) f0 O f3 P f5,q⟩
end
section
variable {X:Cx}
theorem qt:∀(l:List (Vn×Tok)),Vals ((l.map (·.1)).map V.str) (strValues l)
 | []=>.nil
 | (x,t)::l=>.cons ⟨t,rfl⟩ (qt l)
def rm:V->List V->Hp->VK->Prop:=λx vs H Q=>∃z y:Vn,x=.str z/\vs=[.str y]/\(y.length == 0)=false/\z.length+2<=sizeLine/\∀l,H l=Vp->Q (.ref l) (upd H l (.lst ((Txt.split z y).map V.str)))
def eV:fF X "str.split" rm:=by
 intro pins s σ H x vs v us Q I d f h;obtain⟨z,y,rfl,rfl,c,j,q⟩:=h;obtain⟨t,rfl⟩:=d;obtain⟨u,rfl,t',rfl⟩:=vals1 f;have fin:∀(l:List (Vn×Tok)) (k:Nat),l.map (·.1)=Txt.split z y->EP X pins σ Q (.ref s.heap.objs.size) { s with toks:=k,heap:=s.heap.push { cls:=.type "list",data:=.seq (strValues l).toArray } }:=λl k e=>by
  have m:=split_le z y;have rel:=qt l;have g:l.length=(Txt.split z y).length:=by rw[<-e,Dh]
  rw[e]at rel;refine⟨.ref s.heap.objs.size,_,I.laid (t':=k) (o:=.lst ((Txt.split z y).map V.str)) (λb o i=>De _ i) (DC _) ⟨by rw[Dh];omega,_,_,rel,Df _ rfl⟩,rfl,q _ (I.hok.fresh (DC _))⟩
 cases h1:(decide (z.length<y.length) || decide (Builtin.Str.strKind z<Builtin.Str.strKind y))
 .cases a:(Builtin.Str.occurrences z y 0 z.length (z.length+1)).isEmpty
  .have e:Txt.split z y=Builtin.Str.partsBetween z (Builtin.Str.occurrences z y 0 z.length (z.length+1)) y.length:=(Eg (ne_true_of_eq_false h1)).trans (Eg (ne_true_of_eq_false a));refine call_meets F.slot_str_split (typeIs_str _ _ _) F.entry_str_split (F.args_str_split_2 _ _) (meets_str_split_sep z y t t' h1 c a (by omega) (by rw[<-e];have:=split_le z y;omega)) ?_;show wants (EP X pins σ Q) X.xe _ { s with toks:=_,heap:=s.heap.push { cls:=.type "list",data:=.seq (strsFrom s.toks (Builtin.Str.partsBetween z (Builtin.Str.occurrences z y 0 z.length (z.length+1)) y.length)).toArray } };rw[strsFrom_eq];exact fin _ _ ((numbered_texts _ _).trans e.symm)
  .exact call_meets F.slot_str_split (typeIs_str _ _ _) F.entry_str_split (F.args_str_split_2 _ _) (meets_str_split_not_found z y t t' h1 c a) (fin [(z,t)] s.toks ((Eg (ne_true_of_eq_false h1)).trans (Eh a)).symm)
 .exact call_meets F.slot_str_split (typeIs_str _ _ _) F.entry_str_split (F.args_str_split_2 _ _) (meets_str_split_cannot_occur z y t t' h1) (fin [(z,t)] s.toks (Eh h1).symm)
def Bh:bN X (.type "int") (λxs H Q=>∃z n,xs=[.str z]/\PySem.intText? z=Vo n/\z.length<=640/\Q (.int n) H):=by intro pins s σ H xs us Q I r h;obtain⟨z,n,rfl,a,b,q⟩:=h;obtain⟨u,rfl,t,rfl⟩:=vals1 r;exact PySem.W.KIN.call_text a b ⟨.int n,H,I.tok _,⟨_,rfl⟩,q⟩
end
def q9{z:Vn}{e:List Nat}{te:TE}{Q:VK}(Pv:Nat->List V->Hp->Prop)(u:z.cps.size<=sizeLine)(h:Pv 0 [] H)(j:∀i ys H,i<=z.cps.size->Pv i ys H->ys.length<=i)
  (hs:∀i c ys H,z.cps[i]?=Vo c->Pv i ys H->g (.str ⟨#[c]⟩) (bO n e σ) H λa k=>tc a k λb f=>if b=true then te a f λv o=>Pv (i+1) (ys++[v]) o else Pv (i+1) ys f)
  (hd:∀ys H p,Pv z.cps.size ys H->H p=Vp->Q (.ref p) (upd H p (.lst ys))):gG (ij z) n e g tc te σ H Q:=by
 refine⟨λi m ys H=>m=z.cps.size-i/\i<=z.cps.size/\Pv i ys H,⟨_,rfl,Nat.zero_le _,h⟩,?_⟩;rintro i m ys H ⟨rfl,hi,p⟩;have q:=j i ys H hi p;rcases DX i z.cps.size with l|l
 .refine .inr ⟨l,by omega,Pv (i+1),λr H' d=>⟨z.cps.size-(i+1),by omega,rfl,l,d⟩,?_⟩;rintro x H' ⟨rfl,c,s,rfl⟩;exact hs i c ys H' s p
 .have:i=z.cps.size:=by omega
  subst this;exact .inl ⟨l,λd t=>hd ys H d p t⟩
end L2
namespace L2
open PySem PySem.Spec PyProof.Rows PySem.SeqAt PySem.MeetsSeq
def wQ(l:Vb)(items:Array Va)(n:Nat)(dd:Option Vb)(sl:Array (Option Va))(x:Va)(e:Va->Bool)(st j:Nat)(t:Tok)(b:st<=j)(k:j<items.size)(a:(j:Int)<2 ^ 63-1)
  (hit:e items[j]=true) (c:∀m (p:m<items.size),st<=m->m<j->e items[m]=false) :
  Meets (Builtin.«list.index» ⟨[.ref l,x,.int (st:Nat) t],[]⟩)
   (λA R s=>s.heap.get? l=Vo { cls:=.type "list",dict:=dd,data:=.seq items n,slots:=sl }/\(∀y,y∈items->EqAt A.in1 s y x (e y))/\R (.ok (.ret (.int j s.toks))) { s with toks:=s.toks+1 }):=by
 intro prog w A R s h;obtain⟨r,g,d,tk,os⟩:=s;obtain⟨f,o,h⟩:=h
 wp_walk using wpAny_loadPart' f
 have a1:((λi:Int=>if i<0 then max 0 (i+(items.size:Int))else i) ((Vo (st:Int)).getD 0))=((st:Nat):Int):=Eg (by show ¬(st:Int)<0;omega);have a2:((λi:Int=>if i<0 then max 0 (i+(items.size:Int))else i) ((Vp:Option Int).getD (2 ^ 63-1)))=2 ^ 63-1:=by simp
 rw[a1,a2];exact⟨plainId_quiet plain_index_loop _,codeAny_builtin entry_index_loop (by rw[Around.under_plainId plain_index_loop _];exact index_loopAt l items n dd sl x e (2 ^ 63-1) j k a hit _ st rfl b c prog w A R _ ⟨f,o,h⟩)⟩
theorem countIn_strs(k:Vn):∀ys:List Vn,countIn (.str k) (ys.map PyData.str)=(ys.count k:Nat)
 | []=>rfl
 | y::ys=>by rw[List.map_cons,countIn,List.count_cons,countIn_strs k ys];simp only[same];rcases Bool.eq_false_or_eq_true (y == k)with hb|hb<;>simp only[hb,DW,if_true,if_false]<;>push_cast<;>omega
section
variable {X:Cx}
def yh(K:Dd):V->List V->Hp->VK->Prop:=λx vs H Q=>∃l zs y,x=.ref l/\vs=[.str y]/\ah K H l (List.map V.str zs)/\Q (.int (zs.count y:Nat)) H
def xn(K:Dd)(a:X.K=K:=by rfl):fF X "list.count" (yh K):=by subst a;intro pins s σ H x vs v us Q I b c h;obtain⟨l,zs,y,rfl,rfl,d,q⟩:=h;cases b;obtain⟨u,rfl,t,rfl⟩:=vals1 c;obtain⟨e,r,pl,f⟩:=I.list d;refine count_list_strs pl.isList (jz r) ?_;rw[countIn_strs];exact⟨.int _,H,I.tok _,⟨_,rfl⟩,q⟩
def A5(K:Dd):V->List V->Hp->VK->Prop:=λx vs H Q=>∃l zs y,∃st j:Nat,x=.ref l/\(vs=[.str y]/\st=0\/vs=[.str y,.int (st:Nat)])/\ah K H l (List.map V.str zs)/\st<=j/\zs[j]?=Vo y/\(∀m,st<=m->m<j->zs[m]?≠Vo y)/\Q (.int (j:Nat)) H
def qW(K:Dd)(J:X.K=K:=by rfl):fF X "list.index" (A5 K):=by
 subst J;intro pins s σ H x vs v us Q I L w h;obtain⟨l,zs,y,st,j,rfl,b,M,g,B,k,q⟩:=h;cases L;obtain⟨a,r,pl,o⟩:=I.list M;have N:=jz r;obtain⟨⟨cls,dd,data,sl⟩,ho,C,n,hd⟩:=pl.isList;simp only at C hd;subst C hd;have hlen:zs.length=a.length:=by have:=r.length;simpa using this
 have O:a.toArray.size=a.length:=Dm;have at_:∀m (c:m<a.toArray.size),∃z u,zs[m]?=Vo z/\a.toArray[m]=Value.str z u:=λm c=>by have E:zs[m]?=Vo (zs[m]'(by omega)):=Di (by omega);obtain⟨u,h1,t,rfl⟩:=Vals.get (i:=m) (x:=.str (zs[m]'(by omega))) r (by rw[Dj,E];rfl);refine⟨_,t,E,?_⟩;rw[List.getElem_toArray];rw[Di (by omega)]at h1;exact DS h1
 have p:j<a.toArray.size:=by have:=(Dr.mp B).1;omega
 have d:a.length<=sizeLine:=by rw[Dh]at o;omega
 rw[sizeLine_eq]at d;have hit:isStrOf y a.toArray[j]=true:=by obtain⟨z,u,h1,h2⟩:=at_ j p;rw[B]at h1;cases h1;rw[h2];simp[isStrOf]
 have G:∀m (c:m<a.toArray.size),st<=m->m<j->isStrOf y a.toArray[m]=false:=λm c h1 h2=>by obtain⟨z,u,P,R⟩:=at_ m c;rw[R];have:z≠y:=λe=>k m h1 h2 (by rw[P,e]);simpa[isStrOf]using this
 have eqs:∀f,∀v∈a.toArray,EqAt X.A.in1 s v (.str y f) (isStrOf y v):=λf v b=>(eq_isStrOf y f N v (by simpa using b)).at _ _;rcases b with⟨rfl,rfl⟩|rfl
 .obtain⟨u,rfl,t,rfl⟩:=vals1 w;exact call_meets PySem.F.slot_list_index ⟨_,ho,rfl⟩ PySem.F.entry_list_index (PySem.F.args_list_index_2 _ _) (list_indexAt l a.toArray n dd sl (.str y t) (isStrOf y) j p (by omega) hit λm c h=>G m c (Nat.zero_le _) h) ⟨ho,λv b=>eqs _ v b,.int _,H,I.tok _,⟨_,rfl⟩,q⟩
 .obtain⟨u,S,rfl,⟨t,rfl⟩,⟨f,rfl⟩⟩:=vals2 w;exact call_meets PySem.F.slot_list_index ⟨_,ho,rfl⟩ PySem.F.entry_list_index (PySem.F.args_list_index_3 _ _ _) (wQ l a.toArray n dd sl (.str y t) (isStrOf y) st j f g p (by omega) hit G) ⟨ho,λv b=>eqs _ v b,.int _,H,I.tok _,⟨_,rfl⟩,q⟩
end
section
variable {M:Model} {A:Vi} {E:Va->Vc->Prop} {s:Vc} {dd:Option Vb}
def Ag{B:Vh}{e:Vb}{v:Va}{Q:Unit->Vc->Prop}(l:A.frames=Vo (env::outer))(w:env.frame=Vo L)
  (k:B.StaysIn s.heap) (g:B.get? e=Vp) (x:s.heap.FunFrames B (env::outer)) (y:s.heap.TracedAtW B e cls a0 v) (al:cb s.heap e dd)
  (q:∀h',Heap.FlyingW B outer e cls a0 h'->s.heap.UpToSlots h'->cb h' e dd->Q () { s with heap:=h' }):Vf M A (leaving env (.ref e)) Q E s:=by
 obtain⟨oe,vs,T,oT,ts,m,⟨rfl,I⟩,n,C,J,K,p,r,F⟩:=id y;have h2:vs[2]?=Vo .none/\∀d,dd=Vo d->oe.dict=Vo d:=by obtain⟨o',O,i,j,t⟩:=al;rw[m]at i;cases i;rw[n]at j;cases j;exact t
 have z:3<ts.size:=(Array.getElem?_eq_some_iff.mp F).1;have S:=Heap.SameBut.update s.heap T (Obj.mapFields (·.setIfInBounds 3 Value.none));have G:∀b o,s.heap.get? b=Vo o->(∀us,o.data≠.fields us)->b≠T:=by rintro b o hb h rfl;rw[p]at hb;cases hb;exact h ts r
 have P:(Value.ref T != Value.none)=true:=by simp
 unfold leaving noteFrame;simp only[w];refine CZ (CZ (wpAny_field m n C ?_));rw[Eh P];refine CZ (wpAny_field p r F ?_);by_cases H:(v == rawInt L)=true
 .rw[Eh H];refine Dc ?_;exact jh k x y al λh' a b c d f=>q h' ⟨a,g,b.2.2,c⟩ d f
 .rw[Eg H];refine CZ (wpAny_setField p r z ?_);refine ml l (x.of_keeps λb o hb h=>⟨o,(S.2 b (G b o hb h)).trans hb,rfl⟩) w ((S.2 e (Ne.symm K)).trans m) (λb o hb=>(S.2 b ?_).trans (k b o hb)) g n (Array.getElem?_eq_some_iff.mp C).1 I h2.1 h2.2 λh' N u=>?_
  .rintro rfl;rw[J]at hb;cases hb
  .obtain⟨i,j,t,R⟩:=N;refine jh (s:={ s with heap:=h' }) i j t u λh2 U W X Y Z=>?_;exact q h2 ⟨U,g,W.2.2,X⟩ (λb o hb h=>Heap.UpToSlots.trans R Y b o ((S.2 b (G b o hb h)).trans hb) h) Z
end
theorem vi{h h' base f:Vh}(k:∀L o,base.get? L=Vp->h.get? L=Vo o->(∀vs,o.data≠.fields vs)->f.get? L=Vp/\∃o',h'.get? L=Vo o'/\∀vs,o'.data≠.fields vs):∀{l:List Env},h.FunFrames base l->h'.FunFrames f l
 | [],_=>trivial
 | _::_,⟨a,⟨L,o,b,c,d,e⟩,r⟩=>by obtain⟨c',o',d',g⟩:=k L o c d e;exact⟨a,⟨L,o',b,c',d',g⟩,vi k r⟩
section
variable {P:Vd} {w:Ve} {K:Dd} {mg:Vn->Option Va} {base:Vh} {N:List Vn} {qual:Vn} {scope:Scope} {f:Vb} {cd:Va} {A:Vi} {outer:List Env} {s₀:Vc} {H₀:Hp} {E:XK}
def xG{E':XK}(a8:∀cls da H,E' cls da H->E cls da H){s':Vc}{e:Va}{m:Vn->Option Va}{use:Option (Va->Sem Unit)}
  (I:Inv (aS (aR P w) P w K mg base N qual scope f cd A outer s₀ H₀ E) pins σ H s) (h:aR P w (aS (aR P w) P w K mg base N qual scope f cd A outer s₀ H₀ E).stack H s E' e s')
  (hC:s.heap.Ns C m) (O:H C=Vp) (R:C∉aQ (envOfC qual scope s₀.heap.objs.size f cd::outer)) (a9:s₀.heap.get? C=Vp) (aa:ce.frame=(aS (aR P w) P w K mg base N qual scope f cd A outer s₀ H₀ E).env.frame) :
  notedBy (Vg P w) (aS (aR P w) P w K mg base N qual scope f cd A outer s₀ H₀ E).A ce (λe ab=>compPost (Vg P w) (aS (aR P w) P w K mg base N qual scope f cd A outer s₀ H₀ E).A (aS (aR P w) P w K mg base N qual scope f cd A outer s₀ H₀ E).xe use Q acc C (.error e) ab) e s':=by
 obtain⟨x,cls,da,H',rfl,hE,F⟩:=h;obtain⟨B,a0,fl,f1,f2⟩:=F.fly;have no:∀b:Vb,b∉([]:List Vb):=λb z=>by cases z
 obtain⟨p,es,ep,v,S,ac⟩:=hC;have ad:s'.heap.get? C=Vo p:=F.un.keep C p v O R (no C);have BC:B.get? C=Vo p:=f2 C p p v R ad;have W:∀us,p.data≠.fields us:=λus z=>by rw[S]at z;cases z
 show Vf _ _ (noteFrame (.ref x) ce) _ _ s';have en:noteFrame (.ref x) ce=noteFrame (.ref x) (aS (aR P w) P w K mg base N qual scope f cd A outer s₀ H₀ E).env:=by unfold noteFrame PySem.frameOf;rw[aa]
 rw[en];refine lW I.ok.frames rfl fl F.alone λh1 H1 u1 a1=>?_;obtain⟨k1,am,an,ap⟩:=H1;have k:h1.get? C=Vo p:=k1 C p BC;refine⟨m,⟨p,es,ep,k,S,ac⟩,λh2 l X _=>?_⟩;obtain⟨oe,vs,T,oT,ts,g1,⟨rfl,h0⟩,g3,g4,g5,g6,g7,Y,g9⟩:=ap;have Z:x≠C:=by rintro rfl;rw[g1]at k;cases k;exact W vs g3
 have as:T≠C:=by rintro rfl;rw[g7]at k;cases k;exact W ts Y
 have y:=(l.2 x Z).trans g1;have a2:=(l.2 T as).trans g7;have z:3<ts.size:=(Array.getElem?_eq_some_iff.mp g9).1;have n1:(Value.ref T != Value.none)=true:=by simp
 have n2:¬((Value.ref T == Value.none)=true):=by simp
 unfold PySem.passOn;refine CZ (wpAny_field y g3 g4 ?_);rw[Eg n2];refine CZ ?_;unfold setFlight;refine CZ (wpAny_field y g3 g4 ?_);rw[Eh n1];refine wpAny_setField a2 Y z ?_;generalize b3:(X.frame.elim Value.none λf=>rawInt f)=fv;refine wpAny_throw ?_;have S3:=Heap.SameBut.update h2 T (Obj.mapFields (·.setIfInBounds 3 fv));have a3:=Heap.get?_update_self (Obj.mapFields (·.setIfInBounds 3 fv)) a2 (Obj.isFreed_of_fields (Obj.data_mapFields Y _));generalize h2.update T (Obj.mapFields (·.setIfInBounds 3 fv))=h3 at S3 a3;have hid:∀{b o},(B.hide C).get? b=Vo o->b≠C/\B.get? b=Vo o:=λ{b o} hb=>⟨λe=>(by rw[e,Heap.hide_self]at hb;cases hb),Heap.of_hide hb⟩;have up3:∀b o,b≠C->h1.get? b=Vo o->(∀us,o.data≠.fields us)->h3.get? b=Vo o:=λb o nb hb G=>by
  have nT:b≠T:=by rintro rfl;rw[g7]at hb;cases hb;exact G ts Y
  exact(S3.2 b nT).trans ((l.2 b nb).trans hb)
 have k3:(B.hide C).StaysIn h3:=λb o hb=>by
  obtain⟨nb,hb⟩:=hid hb;have nT:b≠T:=by rintro rfl;rw[g5]at hb;cases hb
  exact(S3.2 b nT).trans ((l.2 b nb).trans (k1 b o hb))
 have hidN:∀{b},B.get? b=Vp->(B.hide C).get? b=Vp:=λ{b} hb=>by
  cases q:(B.hide C).get? b with
  | none=>rfl
  | some o=>rw[(hid q).2]at hb;cases hb
 have b0:h3.FunFrames (B.hide C) (envOfC qual scope s₀.heap.objs.size f cd::outer):=vi (λL o b c d=>⟨hidN b,o,up3 L o (λz=>by rw[z,BC]at b;cases b) c d,d⟩) an;have b1:h3.TracedAtW (B.hide C) x oe.cls a0 fv:=⟨oe,vs,T,_,_,(S3.2 x (Ne.symm g6)).trans y,⟨rfl,h0⟩,g3,g4,hidN g5,g6,a3,Obj.data_mapFields Y _,by simp[z]⟩;show Vf _ _ (leaving (envOfC qual scope s₀.heap.objs.size f cd) (.ref x)) _ _ _;refine Ag (s:={ s' with heap:=h3 }) I.ok.frames rfl k3 (hidN am) b0 b1 (a1.eq ((S3.2 x (Ne.symm g6)).trans (l.2 x Z))) λh4 J x2 x3=>?_;have a4:∀b o,b≠C->s'.heap.get? b=Vo o->(∀us,o.data≠.fields us)->∃sl,h4.get? b=Vo { o with slots:=sl }:=λb o nb hb G=>by obtain⟨sl,g⟩:=u1 b o hb G;exact x2 b { o with slots:=sl } (up3 b { o with slots:=sl } nb g G) G
 have hL:∀b∈aQ (envOfC qual scope s₀.heap.objs.size f cd::outer),b∈aQ outer\/b=s₀.heap.objs.size:=λb hb=>by
  rcases Dw.mp (I.stkSub b hb)with z|z
  .exact .inr z
  .exact .inl z
 have low:∀b o,s₀.heap.get? b=Vo o->b∉aQ outer->b∉aQ (envOfC qual scope s₀.heap.objs.size f cd::outer):=λb o hb G hm=>by
  rcases hL b hm with z|z
  .exact G z
  .exact absurd (Dg hb) (by rw[z];exact Nat.lt_irrefl _)
 have U:=I.base;have two:∀b o,s₀.heap.get? b=Vo o->b≠C/\∃o1 j,s.heap.get? b=Vo o1/\s'.heap.get? b=Vo j:=λb o q=>by obtain⟨o1,g⟩:=U.there b o q (no b);obtain⟨j,i⟩:=F.un.there b o1 g (no b);exact⟨λz=>(by rw[z,a9]at q;cases q),o1,j,g,i⟩
 have stay:∀b o j,s₀.heap.get? b=Vo o->b∉aQ outer->s'.heap.get? b=Vo j->(B.hide C).get? b=Vo j:=λb o j q hb q2=>by obtain⟨nb,o1,b4,g,i⟩:=two b o q;exact(Heap.hide_ne B nb).trans (f2 b o1 j g (low b o q hb) q2)
 have b2:H' C=Vp:=F.un.free C p v O (no C);have a5:∀b o,s'.heap.get? b=Vo o->H' b≠Vp->(B.hide C).get? b=Vo o:=λb o q hb=>(Heap.hide_ne B λz=>hb (by rw[z];exact b2)).trans (f1 b o q hb);have a6:=fl.2.2.1;refine⟨x,oe.cls,da,H',rfl,a8 _ _ _ hE,F.os.trans I.os,F.bare,⟨λb o q n hb _=>?_,λb o q n hb _=>?_,λb o q n _=>?_,λb o q _=>?_,λb xs q=>F.un.tups b xs (U.tups b xs q),λb o u q=>F.un.frzs b o u (U.frzs b o u q),λb ps q=>?_⟩,λa o q=>?_,F.new,x3,B.hide C,a0,J,λb o q hb=>?_,λb o o' q hb q'=>?_⟩
 .have g:=U.keep b o q n hb (no b);have i:=F.un.keep b o g (U.free b o q n (no b)) (low b o q hb) (no b);exact J.1 b o (stay b o o q hb i)
 .obtain⟨sl,g⟩:=U.slot b o q n hb (no b);have r:b∈aQ (envOfC qual scope s₀.heap.objs.size f cd::outer):=by show b∈List.filterMap _ (_::_);exact Dk _ hb
  obtain⟨b5,i⟩:=F.un.slot b _ g (U.free b o q n (no b)) r (no b);obtain⟨_,o',t,hd⟩:=a6.mem r;rw[i]at t;cases t;obtain⟨a7,M⟩:=a4 b _ (two b o q).1 i hd;exact⟨a7,M⟩
 .obtain⟨o1,g⟩:=U.there b o q (no b);exact F.un.free b o1 g (U.free b o q n (no b)) (no b)
 .obtain⟨nb,o1,j,g,i⟩:=two b o q;by_cases hb:b∈aQ outer
  .have r:b∈aQ (envOfC qual scope s₀.heap.objs.size f cd::outer):=by show b∈List.filterMap _ (_::_);exact Dk _ hb
   obtain⟨_,o',t,hd⟩:=a6.mem r;obtain⟨a7,M⟩:=a4 b _ nb t hd;exact⟨_,M⟩
  .exact⟨_,J.1 b j (stay b o j q hb i)⟩
 .obtain⟨m1,g⟩:=U.tbls b ps q;obtain⟨m2,i⟩:=F.un.tbls b _ g;exact⟨m1++m2,by rw[i,Array.append_assoc]⟩
 .refine(F.hok a o q).stay (λb u hb z=>J.1 b u (a5 b u z ?_)) (λ_ z=>z) λ_ _ z=>z;rcases hb with rfl|hb
  .rw[q];intro z;cases z
  .rw[hb];intro z;cases z
 .obtain⟨o1,g⟩:∃o1,s'.heap.get? b=Vo o1:=by
   cases hq:H' b with
   | none=>exact absurd hq hb
   | some u=>exact(F.hok b u hq).obj
  have i:=a5 b o1 g hb;have:=J.1 b o1 i;rw[q]at this;cases this;exact i
 .obtain⟨nb,o1,j,g,i⟩:=two b o q;have M:=stay b o j q hb i;have:=J.1 b j M;rw[q']at this;cases this;exact M
end
def iy(Y:Cx)(a:XK)(e:Va)(s2:Vc):Prop:=∃pins σ H1 s1,Inv Y pins σ H1 s1/\aR Y.prog Y.w Y.stack H1 s1 a e s2
def AL{R:Result->Vc->Prop}{n:Vc}{elt a iter:Vk}{ifs:List Vk}{sc:Scope}{ps:Pos}{b acc:Va}{Ex:Va->Vc->Prop}(i:∀e s2,Ex e s2->notedBy (Vg prog w) A ce (λx y=>R (.error x) y) e s2)(d:Nat->Vc->Prop)
  (step:∀k t,d k t->Vf (Vg prog w) A (pyNext b) (λgot j=>
   match got with
   | none=>R (.ok .next) j
   | some u=>Vf (Vg prog w) A (letOwnedTupleGo a b u) (λ_ o=>Vf (Vg prog w) A (assign a ce u) (λ_ p=>
     Vf (Vg prog w) A (forIn ifs true λc r=>if r=true then do let ok <-isTrue c ce (eval c ce);pure (ForInStep.yield ok)else pure (ForInStep.yield r)) (λyes l=>
      if yes=true then Vf (Vg prog w) A (eval elt ce) (λval s=>Vf (Vg prog w) A (call (.builtin "list.append") [acc,val]) (λ_ v=>∃m,m<k/\d m v) (λ_ _=>False) s) Ex l
      else ∃m,m<k/\d m l) (λ_ _=>False) p) (λ_ _=>False) o) (λ_ _=>False) j) (λ_ _=>False) t)
  (k0:Nat) (start:d k0 n):codeAny (Vg prog w) A (.compLoop (.ListComp elt [⟨a,iter,ifs,0⟩] sc ps) 0 b acc ce) R n:=by
 refine codeAny_loop rfl d (λk t B=>?turn) k0 start
 case turn=>
  have nox:∀{α:Type} {m:Sem α} {Q:α->Vc->Prop} {E:Va->Vc->Prop} {z:Vc},Vf (Vg prog w) A m Q (λ_ _=>False) z->Vf (Vg prog w) A m Q E z:=λh=>wpAny_mono h (λ_ _ q=>q) λ_ _ f=>f.elim;show Vf _ A ((compTurn (.ListComp elt [⟨a,iter,ifs,0⟩] sc ps) 0 b acc ce).onRaise (λx=>do noteFrame x ce;theTreesLotGoes x)) _ _ t;apply wpAny_noted;rw[compTurn_list];refine CZ (wpAny_standAt (CZ (nox (wpAny_mono (step k t B) (λgot j h1=>?_) λ_ _ f=>f))));cases got with
  | none=>exact Dc h1
  | some u=>
   refine CZ (nox (wpAny_mono h1 (λ_ o h2=>?_) λ_ _ f=>f));refine CZ (nox (wpAny_mono h2 (λ_ p C=>?_) λ_ _ f=>f));refine CZ (nox (wpAny_mono C (λyes l g=>?_) λ_ _ f=>f));cases yes with
   | false=>
    rw[Eg Dy]at g;exact Dc ⟨rfl,g⟩
   | true=>
    rw[Eh rfl]at g;refine CZ (CZ (wpAny_mono g (λval s F=>?_) i));exact CZ (nox (wpAny_mono F (λ_ v G=>Dc (Dc ⟨rfl,G⟩)) λ_ _ f=>f))
section
variable {X:Cx} {pins:List (Vb×Obj)} {σ:St} {H:Hp} {s:Vc}
def BO{E1:XK}{pos:Pos}{O:List Nat}{te:TE}{J:It}{it:Vb}{RR:Va->Vb->Result->Vc->Prop}{E:Va->Vc->Prop}
  {Q:VK} {W:Nat->Nat->List V->Hp->Prop} (hk:sc.kind=.function) (hb:fU sc X.env.scope=true) (hj:fX sc X.N O=true)
  (hg:∀C,PG (cz X sc own O ⟨s,H,fp,C⟩) tg g) (ht:∀C,fY (cz X sc own O ⟨s,H,fp,C⟩) ifs tc) (he:∀C,PE ((cz X sc own O ⟨s,H,fp,C⟩).wish (iy (cz X sc own O ⟨s,H,fp,C⟩) E1)) elt te)
  (ab:∀D C H1 s1 e s2,Inv X pins σ H1 s1->(∃m,s1.heap.Ns C m)->H1 C=Vp->s.heap.objs.size<=C->aR X.prog X.w X.stack H1 s1 E1 e s2->notedBy (Vg X.prog X.w) X.A (compEnvC sc (cT sc.names X.env.cells) C X.env) (λx s3=>RR (.ref D) C (.error x) s3) e s2)
  (I:Inv X pins σ H s) (T:∀C,TurnAt (cz X sc own O ⟨s,H,fp,C⟩) tg J fp it tn) (st:tn 0 s.heap) (hfp:∀b∈fp,bL X pins H b) (w0:∃m,W 0 m [] H)
  (turn:∀i m ys H',W i m ys H'->(J.stop i H'/\∀p,H' p=Vp->Q (.ref p) (upd H' p (.lst ys))) ∨
   (J.go i H'/\ys.length<sizeLine/\∃N:List V->Hp->Prop,(∀ys' H2,N ys' H2->∃m',m'<m/\W (i+1) m' ys' H2)/\∀x H2,J.yld i H' x H2->g x (bO own.length O σ) H2 λac P=>tc ac P λb H4=>
    if b=true then te ac H4 λv H5=>N (ys++[v]) H5 else N ys H4))
  (fin:∀D C s' ys H',H' D=Vp->Inv X pins σ (upd H' D (.lst ys)) s'->bL X pins (upd H' D (.lst ys)) C->(∃m,s'.heap.Ns C m)->s.heap.objs.size<=C->Q (.ref D) (upd H' D (.lst ys))->RR (.ref D) C (.ok .next) s') :
  Vf (Vg X.prog X.w) X.A (newList []) (λacc L=>Vf (Vg X.prog X.w) X.A (newFunctionEnv sc X.env.globals (cT sc.names X.env.cells) [] X.env.qual Vp .none (Vo X.env)) (λa0 ad=>
   codeAny (Vg X.prog X.w) X.A (.compStart (.ListComp elt [⟨tg,iter,ifs,0⟩] sc pos) 0 (.ref it) acc { a0 with scope:=relabel sc X.env }) (RR acc a0.locals) ad) E L) E s:=by
 have hlt:∀b∈fp,b<s.heap.objs.size:=λb f=>by obtain⟨o,e,_⟩:=(T 0).obj 0 s.heap st b f;exact Dg e
 refine wpAny_newObj_type (wpAny_newFunctionEnv (λy hy=>ve hb hy) (by intro y hy;simp at hy) (λt K B=>?_) hk);dsimp only at K B ⊢;generalize a2:s.heap.push { cls:=.type "list",dict:=none,data:=.seq ([]:List Va).toArray }=H2 at K B ⊢;have b8:H2.objs.size=s.heap.objs.size+1:=by rw[<-a2,Heap.size_push]
 generalize c6:H2.objs.size=C at *;have below:∀b:Nat,b<s.heap.objs.size->b≠C:=λb f=>by omega
 have old:∀b o,s.heap.get? b=Vo o->t.get? b=Vo o:=λb o e=>B.extBut b o (below b (Dg e)) (De _ (a2 ▸ De _ e));have ba:t.get? s.heap.objs.size=Vo (bP [] 0):=B.extBut _ _ (show @Ne Nat s.heap.objs.size C by omega) (De _ (a2 ▸ Df _ rfl));generalize a3:s.heap.objs.size=D at *;let Y:Cx:=cz X sc own O ⟨s,H,fp,C⟩;have J0:Inv Y [(D,bP [] 0)] (bO own.length O σ) H { s with heap:=t,toks:=s.toks+([]:List (Vn×Va)).length }:=
  A2 I hk hb hj hfp (by rw[a3];exact hlt) a3.symm (by rw[a3];exact b8) old ba (λv z=>by cases z) K
 have a4:@Ne Nat D C:=by omega
 have statF:∀{P':List (Vb×Obj)} {H':Hp},(∀b∈fp,H' b=Vp)->(∀p∈P',p.1∉fp)->∀b∈fp,bL Y P' H' b:=λ{P' H'} hn M b f=>by
  obtain⟨f0,f1,f2,f3,f4,f5⟩:=hfp b f;refine⟨hn b f,λz=>below b (hlt b f) z,λz=>?_,.inl f,λx c e=>f4 x c (fb I.ok hb e),λp a5 z=>?_⟩
  .rcases Dw.mp (I.stkSub b z)with e|h
   .exact f1 e
   .exact f2 h
  .have:p∈P':=by simpa[Y,cz]using a5
   exact M p this (by rw[z];exact f)
 have am:D∉fp:=λz=>by have h9:@LT.lt Nat _ D D:=hlt D z;omega
 have an:tn 0 t:=(T 0).keep 0 s.heap t st λb _ o e=>old b o e;have loop:∀L:Vc,L={ s with heap:=t,toks:=s.toks+([]:List (Vn×Va)).length } ->
   codeAny (Vg X.prog X.w) X.A (.compLoop (.ListComp elt [⟨tg,iter,ifs,0⟩] sc pos) 0 (.ref it) (.ref D) Y.env) (RR (.ref D) C) L:=by
  rintro L rfl;obtain⟨m0,w0⟩:=w0;refine AL (Ex:=iy Y E1) (λe s2 h=>?_) (λn s'=>∃i ys l q H',Inv Y [(D,bP l q)] (bO own.length O σ) H' s'/\Vals ys l/\ys.length<=sizeLine/\tn i s'.heap/\(∀b∈fp,H' b=Vp)/\W i n ys H') ?_ m0
   ⟨0,[],[],0,H,J0,.nil,Nat.zero_le _,an,λb f=>(hfp b f).1,w0⟩
  .obtain⟨bb,a6,H1,s1,I1,hx⟩:=h;have U1:Un (aQ X.stack) fp H H1 s.heap s1.heap:=I1.base;have IX:Inv X pins σ H1 s1:=I.call' (ch:=fp) I1.os U1 I1.hok I1.bare λb f=>by obtain⟨f0,f1,f2,f3,f4,f5⟩:=hfp b f;exact⟨f3,f1,f4,f5⟩
   obtain⟨m1,ap,_⟩:=I1.loc;exact ab D C H1 s1 e s2 IX ⟨m1,ap⟩ I1.free (by omega) hx
  rintro n s3 ⟨i,ys,l,q,P,I3,rv,hz,as,b0,w3⟩;have pD:∀p∈[(D,bP l q)],p.1∉fp:=λp M=>by
   have e:p=(D,bP l q):=by simpa using M
   rw[e];exact am
  rcases turn i n ys P w3 with⟨stop,qn⟩|⟨go,hlen,N,hN,step⟩
  .refine aw ((T C).done i _ s3 _ P _ I3 (statF b0 pD) as stop) λr s4 ⟨hr,I4⟩=>?_;subst hr;show RR (.ref D) C (.ok .next) s4;have R:=I4.pin (D,bP l q) (DT _ (Dt.mpr rfl));have bc:s4.heap.get? D=Vo (bP l q):=R.1;have nD:P D=Vp:=R.2.1;have U:Un (aQ X.stack) fp H P s.heap s4.heap:=I4.base;have neD:∀b o,s.heap.get? b=Vo o->b≠D:=λb o e=>DB (by have h9:@LT.lt Nat _ b s.heap.objs.size:=Dg e;omega);have neDH:∀b o,H b=Vo o->b≠D:=λb o e=>DB (by have h9:@LT.lt Nat _ b s.heap.objs.size:=I.hok.lt e;omega);have U2:Un (aQ X.stack) fp H (upd P D (.lst ys)) s.heap s4.heap:=
    ⟨U.keep,U.slot,λb o e n hx=>by rw[aY (neD b o e)];exact U.free b o e n hx,U.there,λb xs e=>by rw[aY (neDH b _ e)];exact U.tups b xs e,
     λb o u e=>by rw[aY (neDH b _ e)];exact U.frzs b o u e,λb ps e=>by rw[aY (neDH b _ e)];exact U.tbls b ps e⟩
   have b1:bC X.prog X.w (upd P D (.lst ys)) s4.heap:=λb o e=>by
    by_cases f:b=D
    .subst f;rw[bg]at e;cases e;exact⟨hz,l,q,rv,bc⟩
    .rw[aY f]at e;exact(I4.hok b o e).stay (λc u _ z=>z) (λc z=>by rw[aY (du z nD)];exact z) λc xs z=>by rw[aY (du z nD)];exact z
   have IX:Inv X pins σ (upd P D (.lst ys)) s4:=I.call' (ch:=fp) I4.os U2 b1 I4.bare λb f=>by obtain⟨f0,f1,f2,f3,f4,f5⟩:=hfp b f;exact⟨f3,f1,f4,f5⟩
   obtain⟨m4,be,_⟩:=I4.loc;have nC:P C=Vp:=I4.free;refine fin D C s4 ys P nD IX ?_ ⟨m4,be⟩ (show @LE.le Nat _ D C by omega) (qn D nD);refine⟨by rw[aY (Ne.symm a4)];exact nC,?_,?_,?_,?_,?_⟩
   .have h9:@LT.lt Nat _ X.env.locals s.heap.objs.size:=I.lt;exact Nat.ne_of_gt (show @LT.lt Nat _ X.env.locals C by omega)
   .exact I.nofs (show @LE.le Nat _ s.heap.objs.size C by omega)
   .right;have h9:@LE.le Nat _ X.s₀.heap.objs.size s.heap.objs.size:=I.sz;exact(show @LE.le Nat _ X.s₀.heap.objs.size C by omega)
   .intro x c e;have h9:@LT.lt Nat _ c s.heap.objs.size:=I.cell_lt e;exact DB (show @LT.lt Nat _ c C by omega)
   .intro p M;have h9:@LT.lt Nat _ p.1 s.heap.objs.size:=I.pin_lt M;exact DB (show @LT.lt Nat _ p.1 C by omega)
  .refine aw ((T C).item i _ s3 _ P _ I3 (statF b0 pD) as go) λr s4 ⟨u,hr,h4⟩=>?_;subst hr;refine aw h4 λ_ s5 ⟨x,H5,I5,r5,y5,a7,bi⟩=>?_;have bl:=I5.pinned (statF bi pD) ((T 0).obj _ _ a7);refine aw (hg _ _ s5 _ H5 x u _ bl r5 (step x H5 y5)) λ_ s6 ⟨Z,H6,I6,q6⟩=>?_;refine aw (ht _ _ s6 Z H6 _ I6 q6) λok s7 ⟨H7,I7,q7⟩=>?_;have back:∀{s':Vc} {a6:St} {H':Hp} {ys':List V} {its':List Va} {q':Nat},Inv Y ([(D,bP its' q')]++dE fp s5.heap) a6 H' s'->Vals ys' its'->ys'.length<=sizeLine->N ys' H' ->
     ∃m,m<n/\∃i ys l q H',Inv Y [(D,bP l q)] (bO own.length O σ) H' s'/\Vals ys l/\ys.length<=sizeLine/\tn i s'.heap/\(∀b∈fp,H' b=Vp)/\W i m ys H':=by
    intro s' a6 H' ys' its' q' I' bm bn nn;obtain⟨m',hm,w'⟩:=hN ys' H' nn;have hpin:∀b∈fp,∀o,s5.heap.get? b=Vo o->s'.heap.get? b=Vo o/\H' b=Vp:=λb f o e=>by have:=I'.pin (b,o) (DT _ (DT _ (kG f e)));exact⟨this.1,this.2.1⟩
    refine⟨m',hm,i+1,ys',its',q',H',?_,bm,bn,(T 0).keep _ _ _ a7 λb f o e=>(hpin b f o e).1,λb f=>?_,w'⟩
    .have G:=I'.unpinned;obtain⟨mm,bv,_⟩:=id G.loc;refine⟨G.ok,G.os,G.bare,G.base,⟨mm,bv,λk x v e1 e2 e3=>?_⟩,G.cell,G.free,G.freeC,G.pin,G.hok,?_⟩
     .obtain⟨m1,ap,c0⟩:=J0.loc;obtain⟨u1,r1,l1⟩:=c0 k x v e1 e2 e3;refine⟨u1,r1,?_⟩;rcases l1 with⟨z,zz⟩|⟨z,c,e,zz⟩
      .exfalso;obtain⟨k',j,rfl,ej,es⟩:=jD e2;have b2:(own++O.map λj=>X.N.getD j "")[own.length+k']?=Vo x:=e1;rw[DG (by omega),Nat.add_sub_cancel_left,Dj,ej]at b2;have ex:X.N.getD j "" = x:=by simpa using b2
       have b3:=DO.mp hj j (Ds ej);simp only[DQ,decide_eq_true_eq,beq_iff_eq]at b3;have a8:sc.names.lookup x=some .free:=by rw[<-ex];exact b3.2
       obtain⟨k2,z1,z2⟩:=gD (sc:=sc) (env:=X.env) (show(relabel sc X.env).names.lookup x=Vo .local from z);rw[a8]at z1;rcases z2 with z2|⟨_,z2⟩
       .rw[z2]at z1;cases z1
       .cases z2
      .refine .inr ⟨z,c,e,?_⟩;have a9:X.env.cells.lookup x=Vo c:=fb I.ok hb e;obtain⟨ov,oc,b4,c7⟩:=I.cell x c a9;have b5:=old c oc b4;obtain⟨oz,c1,c2⟩:=zz;have a1:t.get? c=Vo oz:=c1;rw[b5]at a1;cases a1;have cnf:c∉fp:=λz'=>(hfp c z').2.2.2.2.1 x c a9 rfl;obtain⟨sl,hh⟩:=G.base.any b4 (I.freeC x c a9) cnf;exact⟨_,hh,c2⟩
     .show(bO own.length O σ).length=_;exact J0.len
    .obtain⟨o,e,d⟩:=(T 0).obj _ _ a7 b f;exact(hpin b f o e).2
   cases ok with
   | false=>
    rw[Eg Dy]at q7 ⊢;exact back I7 rv hz q7
   | true=>
    rw[Eh rfl]at q7 ⊢;refine aw (he _ _ s7 Z H7 _ (I7.wish _) q7) λS s8 ⟨v,H8,c3,r8,q8⟩=>?_;have I8:=c3.unwish;have R:=I8.pin (D,bP l q) (DT _ (DU _ (Dt.mpr rfl)));have aa:s8.heap.get? D=Vo { cls:=.type "list",data:=.seq l.toArray q }:=R.1;have hl:=rv.length;refine call_meets F.slot_list_append ⟨_,aa,rfl⟩ F.entry_list_append (F.args_list_append_2 _ _) (PySem.list_append D l.toArray q S (by rw[Dm];omega)) ⟨aa,?_⟩;have qq:=PySem.IsL.update aa (λa=>a.push S);have eqs:l.toArray.push S=(l++[S]).toArray:=by simp
    rw[eqs]at qq;obtain⟨q2,c4⟩:∃q2,(s8.heap.update D (Obj.mapSeq λa=>a.push S)).get? D=Vo (bP (l++[S]) q2):=⟨_,qq⟩;have c5:Inv Y (dE fp s5.heap) Z H8 s8:=I8.pins_of λp M=>I8.pin p (DT _ (DT _ M));have b7:H8 D=Vp:=R.2.1;have I9:Inv Y (dE fp s5.heap) Z H8 { s8 with heap:=s8.heap.update D (Obj.mapSeq λa=>a.push S),toks:=s8.toks }:=by
     refine c5.turned (it:=D) (λb o f e=>(Heap.get?_update_other s8.heap (Obj.mapSeq λa=>a.push S) (Ne.symm f)).trans e) b7 a4 (.inr (show @LE.le Nat _ s.heap.objs.size D by omega)) (λx c e=>?_) λp M=>?_
     .have h9:@LT.lt Nat _ c s.heap.objs.size:=I.cell_lt (fb I.ok hb e);exact DB (show @LT.lt Nat _ c D by omega)
     .have a5:p∈dE fp s5.heap:=by simpa[Y,cz]using M
      obtain⟨h1,_⟩:=ou a5;exact λz=>am (z ▸ h1)
    refine back (ys':=ys++[v]) (its':=l++[S]) (q':=q2) (I9.pins_of λp M=>?_) (rv.append (.cons r8 .nil)) (by rw[DA,List.length_singleton];omega) q8;rcases DF.mp M with M|M
    .have e:p=(D,bP (l++[S]) q2):=by simpa using M
     subst e;refine⟨c4,b7,a4,λz=>?_,λv z=>by cases z⟩;have h9:@LT.lt Nat _ D s.heap.objs.size:=I.stk_lt (b:=D) z;omega
    .exact I9.pin p (DT _ M)
 exact codeAny_compStart_list (loop _ rfl) ((T 0).self X.A 0 { s with heap:=t,toks:=s.toks+([]:List (Vn×Va)).length } _ _ an (loop _ rfl))
end
def uc{a:XK}{x:Vn}{k j:Nat}{e:Vk}{es:List Vk}{t:TA}{p pos:Pos}(C:CalX Y.prog Y.w Y.K Y.mg Y.base x j ps sp)(f:Room k Y.A)
  (ha:PA (Y.wish (iy Y a)) (e::es) t) (b:j<=k:=by decide) (g:Gl Y x:=by rfl) (c:(x == ("__debug__":Vn))=false:=by decide)
  (i:starEach (e::es) Y.env=(false,eval e Y.env)::starEach es Y.env:=by rfl) (d:(backTo pos (starEach es Y.env)).any (·.1)=false:=by rfl) :
  PE (Y.wish (iy Y a)) (.Call (.Name x p) (e::es) [] pos) (fZ sp [] a t):=by
 obtain⟨n,fd,l,m,hb,F⟩:=C.ex;exact kR (X:=Y.wish (iy Y a)) F (f.mono b) g l m hb .nil (λpins σ H s e s' I h=>⟨pins,σ,H,s,I.unwish,h⟩) ha c i d
section
variable {P:Vd} {w:Ve} {K:Dd} {mg:Vn->Option Va} {base:Vh} {N:List Vn} {qual:Vn} {scope:Scope} {f:Vb} {cd:Va} {A:Vi} {outer:List Env} {s₀:Vc} {H₀:Hp} {E:XK}
def vv{pos:Pos}(own:List Vn)(a:List Nat){t:TI}{te:TE}(hi:PI (aS (aR P w) P w K mg base N qual scope f cd A outer s₀ H₀ E) tg iter t)
  (B:∀z,PG (cz (aS (aR P w) P w K mg base N qual scope f cd A outer s₀ H₀ E) sc own a z) tg g) (F:∀z,fY (cz (aS (aR P w) P w K mg base N qual scope f cd A outer s₀ H₀ E) sc own a z) ifs tc)
  (G:∀z,PE ((cz (aS (aR P w) P w K mg base N qual scope f cd A outer s₀ H₀ E) sc own a z).wish (iy (cz (aS (aR P w) P w K mg base N qual scope f cd A outer s₀ H₀ E) sc own a z) E)) elt te)
  (u:sc.kind=.function:=by rfl) (hb:fU sc (aS (aR P w) P w K mg base N qual scope f cd A outer s₀ H₀ E).env.scope=true:=by rfl) (L:fX sc N a=true:=by rfl)
  (hs:∀x,foldedSetIterable iter (aS (aR P w) P w K mg base N qual scope f cd A outer s₀ H₀ E).env x=pure x:=by intro _;rfl):PE (aS (aR P w) P w K mg base N qual scope f cd A outer s₀ H₀ E) (.ListComp elt [⟨tg,iter,ifs,0⟩] sc pos) (kE own.length a t g tc te):=by
 intro pins s σ H Q I h;have M:(aS (aR P w) P w K mg base N qual scope f cd A outer s₀ H₀ E).calm=true:=rfl;rw[eval_ListComp];refine wpAny_comprehension_free (use:=Vp) rfl hs (oM λp i O=>I.ok.has p.1 (oD hb i O)) u (λp i R=>xl hb i R) (aw (hi pins s σ H _ I h) λv s1 h1=>aw h1 λS s2 h2=>?_);obtain⟨it,fp,tn,J,H2,e,d,T,j,y,W,w0,turn⟩:=h2;subst e;refine BO (RR:=λacc C=>compPost (Vg P w) (aS (aR P w) P w K mg base N qual scope f cd A outer s₀ H₀ E).A (aS (aR P w) P w K mg base N qual scope f cd A outer s₀ H₀ E).xe Vp (EP (aS (aR P w) P w K mg base N qual scope f cd A outer s₀ H₀ E) pins σ Q) acc C) u hb L (λ_=>B _) (λ_=>F _) (λ_=>G _)
  (λD C H3 s3 e s4 U k l c X=>?_) d (λC=>Turn.at_ (Y:=cz (aS (aR P w) P w K mg base N qual scope f cd A outer s₀ H₀ E) sc own a ⟨_,_,_,C⟩) T M) j y w0 turn ?_
 .obtain⟨m,k⟩:=k;refine xG (λ_ _ _ h=>h) U X k l (λz=>?_) ?_ rfl
  .have hlt:@LT.lt Nat _ s₀.heap.objs.size s2.heap.objs.size:=d.lt;rcases Dw.mp (d.stkSub C z)with z|z
   .exact absurd (show @Eq Nat C s₀.heap.objs.size from z) (Nat.ne_of_gt (DL hlt c))
   .exact d.nofs c z
  .cases q:s₀.heap.get? C with
   | none=>rfl
   | some o=>
    have h1:@LT.lt Nat _ C s₀.heap.objs.size:=Dg q;have h2:@LE.le Nat _ s₀.heap.objs.size s2.heap.objs.size:=d.sz;exact absurd h1 (Nat.not_lt.mpr (DM h2 c))
 intro D C s' ys H' nD Z hC ⟨m,hm⟩ _ q;refine⟨m,hm,λh' n=>?_⟩;obtain⟨f0,f1,y,f3,f4,f5⟩:=hC;exact⟨.ref D,_,Z.turned (t':=s'.toks) (it:=C) (λb o r e=>(n.2 b r).trans e) f0 f1 f3 f4 f5,rfl,q⟩
end
section
variable {X:Cx}
def wL:V->List V->Hp->VK->Prop:=λx vs H Q=>∃z y:Vn,x=.str z/\vs=[.str y]/\∀r:Int,-1<=r->r<=z.length->Q (.int r) H
def Bs:fF X "str.rfind" wL:=by
 intro pins s σ H x vs v us Q I b c h;obtain⟨z,y,rfl,rfl,q⟩:=h;obtain⟨t,rfl⟩:=b;obtain⟨u,rfl,d,rfl⟩:=vals1 c;refine call_gives F.slot_str_rfind (typeIs_str _ _ _) F.entry_str_rfind (F.args_str_rfind_2 _ _) (gives_str_rfind z y t d) ?_;rcases StrLaws.last_spec z y with⟨e,_⟩|⟨i,e,a,_⟩
 .rw[e];exact⟨.int (-1),H,I.tok _,⟨_,rfl⟩,q _ (by omega) (by omega)⟩
 .rw[e];have:=a.1;exact⟨.int (i:Int),H,I.tok _,⟨_,rfl⟩,q _ (by omega) (by omega)⟩
def dQ(X:Cx)(e:Vk)(t:TE):Prop:=
 ∀(pins:List (Vb×Obj)) (s:Vc) (σ:St) (H:Hp) (Q:VK),Inv X pins σ H s->0<s.toks->t σ H Q->Vf (Vg X.prog X.w) X.A (eval e X.env) (λu s'=>EP X pins σ Q u s'/\0<s'.toks) X.xe s
def jQ(X:Cx)(es:List Vk)(t:TA):Prop:=
 ∀(pos:Pos) (pins:List (Vb×Obj)) (s:Vc) (σ:St) (H:Hp) (Q:List V->Hp->Prop),Inv X pins σ H s->0<s.toks->t σ H Q->Vf (Vg X.prog X.w) X.A (spliced (backTo pos (starEach es X.env))) (λus s'=>AP X pins σ Q us s'/\0<s'.toks) X.xe s
def kC(X:Cx)(st:List Vl)(t:TS):Prop:=
 ∀(pins:List (Vb×Obj)) (s:Vc) (σ:St) (H:Hp) (D:Ends),Inv X pins σ H s->0<s.toks->t D σ H->Vf (Vg X.prog X.w) X.A (execs st X.env) (SP X pins D) X.xe s
theorem b9.q{st:List Vl}{t:TS}(h:b9 X st t):kC X st t:=λpins s σ H D I _ q=>h pins s σ H D I q
variable {a b e o:Vk} {es:List Vk} {ta tb te to:TE} {t:TA} {pos:Pos}
def dk{i:Nat}{x:Vn}(g:X.N[i]?=Vo x:=by rfl)(j:ky X.env.scope x:=by first|exact Or.inl rfl|exact Or.inr (Or.inl rfl)|exact Or.inr (Or.inr rfl))(hd:(x == ("__debug__":Vn))=false:=by decide)(d:(x == ("__classdict__":Vn))=false:=by decide):dQ X (.Name x pos) (kL i):=by
 intro pins s σ H Q I k h;obtain⟨v,e,h⟩:=h;obtain⟨m,n,o⟩:=I.loc;obtain⟨u,r,l⟩:=o i x v g e j;have fin:EP X pins σ Q u s/\0<s.toks:=⟨⟨v,H,I,r,h⟩,k⟩;rcases l with⟨b,p⟩|⟨b,c,f,a⟩
 .exact wpAny_Name (wpAny_loadName_local I.ok.kind b n p fin) hd
 .rcases b with b|b
  .exact wpAny_Name (wpAny_loadName_cell I.ok.kind b f a fin) hd
  .exact wpAny_Name (wpAny_loadName_free I.ok.kind b f a fin d) hd
def ik{x:Vn}{j}:dQ X (.Constant (.str x) j pos) (tC (.str x)):=λ_ _ _ H _ I _ h=>Calls.Constant_str ⟨⟨.str x,H,I.tok _,⟨_,rfl⟩,h⟩,Nat.succ_pos _⟩
def oE:R2:=λx y H Q=>∃i j:Vn,x=.str i/\y=.str j/\i.length+j.length<=sizeLine/\Q (.str (i++j)) H
def fP:bh X (binaryOp .Add) oE:=dR
def hJ(ha:dQ X a ta)(hb:dQ X b tb):dQ X (.BinOp a .Add b pos) (gE oE ta tb):=by
 intro pins s σ H Q I f h;refine wpAny_BinOp (aw (ha pins s σ H _ I f h) λv s1 ⟨⟨x,H1,g,r1,l⟩,m⟩=>aw (hb pins s1 σ H1 _ g m l) λu s2 ⟨⟨y,H2,n,o,p⟩,p2⟩=>?_);obtain⟨i,j,rfl,rfl,r,q⟩:=p;obtain⟨t,rfl⟩:=r1;obtain⟨c,rfl⟩:=o;refine PySem.P.add_str ?_;have fin:∀(z:Vn) c k,z=i++j->0<k->EP X pins σ Q (.str z c) { s2 with toks:=k }/\0<k:=λz c k e w=>⟨⟨.str (i++j),H2,n.tok _,⟨c,by rw[e]⟩,q⟩,w⟩;cases A:i.length == 0
 .cases B:j.length == 0
  .exact⟨by rw[Str.length_append];exact r,fin _ _ _ rfl (Nat.succ_pos _)⟩
  .refine fin i t s2.toks ?_ p2;have d:j.cps = #[]:=Array.eq_empty_of_size_eq_zero (by simpa[Str.length]using B);show i=Str.append i j;cases i;simp[Str.append,d]
 .refine fin j c s2.toks ?_ p2;have d:i.cps = #[]:=Array.eq_empty_of_size_eq_zero (by simpa[Str.length]using A);show j=Str.append i j;cases j;simp[Str.append,d]
def rL(to:TE)(y b:Vn):TE:=λσ H Q=>to σ H λx H1=>∃z:Vn,x=.str z/\z.length<=100000/\∀a:Vn,a.length<=2*z.length->Q (.str a) H1
def AR{z a:Vn}(b:a.length<=2)(h1:1<=y.length):(Builtin.Str.glued a (Builtin.Str.partsBetween z (Builtin.Str.occurrences z y 0 z.length (z.length+1)) y.length)).length<=2*z.length:=by
 have e:(Builtin.Str.glued y (Builtin.Str.partsBetween z (Builtin.Str.occurrences z y 0 z.length (z.length+1)) y.length)).length=z.length:=by rw[StrLaws.glued_between_self]
 rw[size_glued,length_partsBetween,Nat.add_sub_cancel]at e ⊢;generalize (Builtin.Str.occurrences z y 0 z.length (z.length+1)).length=n at e ⊢;have h2:n*a.length<=n*2:=Nat.mul_le_mul_left n b;have c:n*1<=n*y.length:=Nat.mul_le_mul_left n h1;omega
def jM{apos cpos m n:Pos}{a:Vn}{j j'}(ho:dQ X o to)(f:(y == a)=false:=by rfl)(p:a.length<=2:=by decide)(g:1<=y.length:=by decide)
  (b:attributeBase o "replace" X.env (eval o X.env)=eval o X.env:=by rfl)
  (c:(apos.endLine == cpos.line)=true:=by rfl) :
  dQ X (.Call (.Attribute o "replace" apos) [.Constant (.str y) j m,.Constant (.str a) j' n] [] cpos) (rL to y a):=by
 intro pins s σ H Q I u h;refine wpAny_Call_method_late b rfl c rfl (aw (ho pins s σ H _ I u h) λv s1 ⟨⟨x,H1,r,r1,w⟩,B⟩=>?_);obtain⟨z,rfl,C,q⟩:=w;obtain⟨t,rfl⟩:=r1;obtain⟨h1,h2⟩:=wb (T:="str") r (show RelV (.str z) (.str z t)from⟨t,rfl⟩) rfl;refine⟨"str","str.replace",PySem.F.plainAttrs_str,PySem.F.slot_str_replace,PySem.F.type_str_replace,h1,h2,?_⟩;refine Calls.callWith_builtin rfl (Calls.evalArgs_plain ?_);show Vf _ _ (spliced [(false,eval (.Constant (.str y) j m) X.env),(false,eval (.Constant (.str a) j' n) X.env)]) _ _ s1;refine Calls.spliced_cons (Calls.Constant_str ?_);refine Calls.spliced_cons (Calls.Constant_str ?_);refine Calls.spliced_nil ?_;have hle:=AR (z:=z) (y:=y) p g;have i:(Builtin.Str.glued a (Builtin.Str.partsBetween z (Builtin.Str.occurrences z y 0 z.length (z.length+1)) y.length)).length<=sizeLine:=by rw[sizeLine_eq];omega
 refine call_gives F.slot_str_replace (typeIs_str _ _ _) F.entry_str_replace (F.args_str_replace_3 _ _ _)
  (gives_str_replace z y a t s1.toks (s1.toks+1) λ_=>⟨?_,?_,f,?_⟩) ?_
 .have:s1.toks≠0:=by omega
  simp[this]
 .simp
 .have h1:=StrLaws.occ_length_le z y 0 z.length (z.length+1);have h2:=Nat.mul_le_mul h1 p;unfold Builtin.Str.tooLong;rw[sizeLine_eq];exact Ee (by omega)
 have fin:∀(d:Vn) l k,d.length<=2*z.length->0<k->EP X pins σ Q (.str d l) { s1 with toks:=k }/\0<k:=λd l k e A=>⟨⟨.str d,H1,r.tok _,⟨l,rfl⟩,q d e⟩,A⟩;split
 .exact fin z t _ (by omega) (Nat.succ_pos _)
 .exact⟨i,fin _ _ _ hle (Nat.succ_pos _)⟩
def lX:jQ X [] iD:=λ_ _ _ _ H Q I a h=>Calls.spliced_nil ⟨⟨[],H,I,.nil,h⟩,a⟩
def ef(ha:dQ X e te)(a:jQ X es t)(hs:starEach (e::es) X.env=(false,eval e X.env)::starEach es X.env:=by rfl):jQ X (e::es) (j8 te t):=by intro pos pins s σ H Q I b h;rw[hs];show Vf _ _ (spliced ((false,eval e X.env)::backTo pos (starEach es X.env))) _ _ s;refine Calls.spliced_cons (aw (ha pins s σ H _ I b h) λu s1 ⟨⟨x,H1,c,r1,d⟩,f⟩=>?_);exact aw (a pos pins s1 σ H1 _ c f d) λus s2 ⟨⟨xs,H2,g,i,j⟩,p2⟩=>⟨⟨x::xs,H2,g,.cons r1 i,j⟩,p2⟩
def nK(h:jQ X es t):dQ X (.List es pos) (lU t):=by intro pins s σ H Q I c d;refine wpAny_List_spliced (aw (h pos pins s σ H _ I c d) λus s1 ⟨⟨xs,H1,a,r,z,q⟩,f⟩=>⟨by rw[<-r.length];exact z,?_⟩);have g:H1 s1.heap.objs.size=none:=a.hok.fresh (DC _);exact⟨⟨.ref s1.heap.objs.size,upd H1 s1.heap.objs.size (.lst xs),a.laid (t':=s1.toks) (λb u e=>De _ e) (DC _) ⟨z,us,0,r,Df _ rfl⟩,rfl,q _ g⟩,f⟩
def vm(X:Cx)(e:Vk)(t:TE):Prop:=
 ∀(pins:List (Vb×Obj)) (s:Vc) (σ:St) (H:Hp) (Q:VK),Inv X pins σ H s->0<s.toks->t σ H Q->Vf (Vg X.prog X.w) X.A (eval e X.env) (EP X pins σ Q) X.xe s
def m5{op:Operator}{r:R2}(c:bh X (binaryOp op) r)(ha:dQ X a ta)(hb:dQ X b tb):vm X (.BinOp a op b pos) (gE r ta tb):=by intro pins s σ H Q I d h;exact wpAny_BinOp (aw (ha pins s σ H _ I d h) λv s1 ⟨⟨x,H1,e,r1,f⟩,g⟩=>aw (hb pins s1 σ H1 _ e g f) λu s2 ⟨⟨y,H2,i,j,k⟩,p2⟩=>c pins s2 σ H2 x y v u Q i r1 j k)
def sU{i:Nat}{x:Vn}{Q:Unit->Vc->Prop}(I:Inv X pins σ H s)(K:X.N.Nodup)(hi:X.N[i]?=Vo x)(F:X.env.kindOf x=Vo .local)(r:RelV v u)
  (h:∀s',Inv X pins (σ.set i (Vo v)) H s'->0<s'.toks->Q () s'):Vf M A (storeName X.env x u) Q E s:=by
 obtain⟨m,G,L⟩:=id I.loc;have f:(X.env.scope.kind == .class || (X.env.scope.kind == .module && X.env.locals != X.env.globals))=false:=by rw[I.ok.kind];rfl
 have g:i<σ.length:=by rw[I.len];exact(Dr.mp hi).1
 have cne:=I.cne;refine wpAny_storeName_local F G (λh' B hs=>?_) f;obtain⟨Z,_,_,O,_⟩:=id G;have far:∀{b o},X.s₀.heap.get? b=Vo o->h'.get? b=s.heap.get? b:=λe=>hs.2 _ (DB (DL (Dg e) I.ok.above));refine h _ ⟨I.ok,I.os,I.bare,⟨λb o e n hb l=>(far e).trans (I.base.keep b o e n hb l),λb o e n hb l=>?_,I.base.free,λb o e l=>?_,I.base.tups,I.base.frzs,I.base.tbls⟩,⟨_,B,λj y P a t R=>?_⟩,λy c e=>?_,I.free,I.freeC,λp S=>?_,λb T e=>?_,by simpa using I.len⟩ (Nat.succ_pos _)
 .obtain⟨sl,a⟩:=I.base.slot b o e n hb l;exact⟨sl,(far e).trans a⟩
 .obtain⟨o',a⟩:=I.base.there b o e l;exact⟨o',(far e).trans a⟩
 .by_cases C:j=i
  .subst C;rw[hi]at a;cases a;rw[List.getElem?_set_self g]at t;cases t;exact⟨u,r,.inl ⟨F,by simp⟩⟩
  .rw[List.getElem?_set_ne (Ne.symm C)]at t;obtain⟨U,W,q⟩:=L j y P a t R;refine⟨U,W,?_⟩;rcases q with⟨k,e⟩|⟨k,c,e,z⟩
   .refine .inl ⟨k,?_⟩;have:y≠x:=λe=>C (jS K a (e ▸ hi));simp[this,e]
   .exact .inr ⟨k,c,e,z.sameBut hs (cne y c e)⟩
 .obtain⟨J,z⟩:=I.cell y c e;exact⟨J,z.sameBut hs (cne y c e)⟩
 .obtain⟨e,n,ne,Y,d⟩:=I.pin p S;exact⟨(hs.2 p.1 ne).trans e,n,ne,Y,d⟩
 .refine(I.hok b T e).stay (λc J w q=>(hs.2 c ?_).trans q) (λ_ q=>q) λ_ _ q=>q;rintro rfl;rcases w with rfl|w
  .rw[I.free]at e;cases e
  .rw[I.free]at w;cases w
def nJ{i:Nat}{x:Vn}{e:Vk}{te:TE}{pos' pos:Pos}{u:TS}(a:vm X e te)(h2:kC X rest u)(b:X.N.Nodup:=by assumption)(hi:X.N[i]?=Vo x:=by rfl)(c:X.env.kindOf x=Vo .local:=by rfl)(hs:swapsWith e (Vo (.Name x pos')) pos.line X.env=pure false:=by rfl):
  kC X (.Assign [.Name x pos'] e pos::rest) (iX (gX te (gL i)) u):=by
 intro pins s σ H D I d h;refine wpAny_execs_cons (wpAny_Assign_Name (aw (a pins s σ H _ I d h) λv s1 ⟨y,H1,f,r1,g⟩=>?_) hs);exact sU f b hi c r1 (λs2 j p2=>h2 pins s2 _ H1 D j p2 g)
def yQ{i:Nat}{x:Vn}{e:Vk}{te:TE}{pos' pos:Pos}{u:TS}(a:PE X e te)(h2:kC X rest u)(b:X.N.Nodup:=by assumption)(hi:X.N[i]?=Vo x:=by rfl)(c:X.env.kindOf x=Vo .local:=by rfl)(hs:swapsWith e (Vo (.Name x pos')) pos.line X.env=pure false:=by rfl):
  b9 X (.Assign [.Name x pos'] e pos::rest) (iX (gX te (gL i)) u):=by
 intro pins s σ H D I h;refine wpAny_execs_cons (wpAny_Assign_Name (aw (a pins s σ H _ I h) λv s1 ⟨y,H1,d,r1,f⟩=>?_) hs);exact sU d b hi c r1 (λs2 g p2=>h2 pins s2 _ H1 D g p2 f)
def rd_repl{b:Vn}{Q:VK}(h:to σ H λx H1=>∃z:Vn,x=.str z/\z.length<=100000/\∀a:Vn,a.length<=2*z.length->Q (.str a) H1):rL to y b σ H Q:=h
end
def vw(i:Nat)(c:Vn)(sp:Sp)(t:TA):Ends->(St->XK)->St->Hp->Prop:=λD E σ H=>t σ H λvs H1=>sp vs H1 (λv H2=>df H2 (.tup [.str c,v]) λq a=>D.nx (σ.set i (Vo q)) a) (E σ)
def ro{x c:Vn}{i k j:Nat}{e:Vk}{es:List Vk}{t:TA}{p pc pt pos d g:Pos}{jc x1}(C:CalX Y.prog Y.w Y.K Y.mg Y.base x j ps sp)(P:Room k Y.A)(R:Y.N.Nodup)(hi:Y.N[i]?=Vo y)(S:Loc Y.env.scope y)(ha:PA Y.nox (e::es) t)(B:j<=k:=by decide)(T:Gl Y x:=by rfl)(G:(x == ("__debug__":Vn))=false:=by decide)
  (U:starEach (e::es) Y.env=(false,eval e Y.env)::starEach es Y.env:=by rfl) (J:(backTo pos (starEach es Y.env)).any (·.1)=false:=by rfl) (hs:swapsWith (.Tuple [.Constant (.str c) jc pc,.Call (.Name x p) (e::es) [] pos] x1 pt) (Vo (.Name y g)) d.line Y.env=pure false:=by rfl)
  (Z:Y.fn y=true\/Y.env.scope.names.lookup y=Vo .local:=by first|exact .inl rfl|exact .inr rfl|assumption) :
  PB Y (.Assign [.Name y g] (.Tuple [.Constant (.str c) jc pc,.Call (.Name x p) (e::es) [] pos] x1 pt) d) (vw i c sp t):=by
 intro pins s0 σ H D E I h;obtain⟨f,fd,hm,hk,hb,F⟩:=C.ex;refine wpAny_Assign_Name (wpAny_Tuple_spliced ?_) hs;show Vf _ _ (spliced [(false,eval (.Constant (.str c) jc pc) Y.env),(false,eval (.Call (.Name x p) (e::es) [] pos) Y.env)]) _ _ s0;refine Calls.spliced_cons (Calls.Constant_str ?_);have I0:=I.tok (s0.toks+1);generalize a0:({ s0 with toks:=s0.toks+1 }:Vc)=s at I0;refine Calls.spliced_cons (wpAny_Call_Name_kw (gp (X:=Y.nox) I0 T hm ?_ G));refine PySem.W.callWith_K (h₀:=Y.base) I.ok.mod.kin hk (wpAny_mono (ha pos pins s σ H _ I0 h) (λus s1 ⟨vs,H1,l,r,q⟩=>⟨l.kIn,?_⟩) λ_ _ z=>z.elim) U J;have hl:us.length=ps.length:=by rw[<-r.length];exact F.len _ _ _ _ q
 have m:=hb s1 us l.kIn (by rw[List.append_nil];exact hl);rw[List.append_nil]at m;refine wpAny_call (codeAny_mono (F.run Y.A Y.stack s1 H1 ⟨us,[]⟩ us vs _ (E σ) (P.mono B) l.env0 m r q) λr s' n=>?_);cases r with
 | error e=>exact⟨σ,H1,s1,l,n⟩
 | ok fl=>
  cases fl with
  | ret u=>
   obtain⟨v,H2,M,r2,q2⟩:=l.after n;refine Calls.spliced_nil ⟨by show 2<=sizeLine;decide,?_⟩;have L:H2 s'.heap.objs.size=Vp:=M.hok.fresh (DC _);have I3:=M.laid (t':=s'.toks) (h':=s'.heap.push { cls:=.type "tuple",data:=.seq [.str c s0.toks,u].toArray }) (a:=s'.heap.objs.size) (o:=.tup [.str c,v]) (λb u e=>De _ e) (DC _) ⟨by show 2<=sizeLine;decide,_,.cons ⟨_,rfl⟩ (.cons r2 .nil),⟨_,Df _ rfl,rfl,_,rfl⟩⟩;exact wpAny_mono (ir (X:=Y.nox) (Q:=λ_ O=>SP Y.nox pins D .next O) (E:=λ_ _=>False) I3 R hi S (show RelV (.ref s'.heap.objs.size) (.ref s'.heap.objs.size)from rfl) (λO I4=>⟨_,_,I4,q2 _ L⟩) Z) (λ_ _ z=>z) λ_ _ z=>z.elim
  | next=>exact False.elim n
  | brk=>exact False.elim n
  | cont=>exact False.elim n
def rd_basgT{i:Nat}{c:Vn}{a:TA}{D:Ends}{E:St->XK}(h:a σ H λvs H1=>sp vs H1 (λv H2=>df H2 (.tup [.str c,v]) λq b=>D.nx (σ.set i (Vo q)) b) (E σ)):vw i c sp a D E σ H:=h
end L2
namespace Tx
open PySem
abbrev bF(n:Int):Vn:=DR (toString n)
theorem q5{c:Nat}:∀{p q X Y:List Nat},c∉p->c∉q->p++c::X=q++c::Y->p=q/\X=Y
 | [],[],_,_,_,_,h=>⟨rfl,(List.cons.inj h).2⟩
 | [],b::q,_,_,_,d,h=>absurd (show c∈b::q by rw[(List.cons.inj h).1];exact Dn) d
 | a::p,[],_,_,f,_,h=>absurd (show c∈a::p by rw[<-(List.cons.inj h).1];exact Dn) f
 | a::p,b::q,_,_,f,d,h=>by obtain⟨e,h⟩:=List.cons.inj h;obtain⟨g,i⟩:=q5 (λz=>f (Dk _ z)) (λz=>d (Dk _ z)) h;exact⟨by rw[e,g],i⟩
def fH(c:Nat)(p q:Vn)(r:List Vn):(Str.join ⟨#[c]⟩ (p::q::r)).cps.toList=p.cps.toList++c::(Str.join ⟨#[c]⟩ (q::r)).cps.toList:=by show((p++(⟨#[c]⟩:Vn))++Str.join ⟨#[c]⟩ (q::r)).cps.toList=_;rw[Str.cps_append,Str.cps_append];simp
def gm{p q:Vn}(h:p.cps.toList=q.cps.toList):p=q:=Str.ext' (Array.toList_inj.mp h)
theorem tG{c:Nat}:∀{ps a:List Vn},ps≠[]->a≠[]->(∀p∈ps,c∉p.cps.toList)->(∀q∈a,c∉q.cps.toList)->Str.join ⟨#[c]⟩ ps=Str.join ⟨#[c]⟩ a->ps=a
 | [],_,h,_,_,_,_=>absurd rfl h
 | _::_,[],_,h,_,_,_=>absurd rfl h
 | [p],[q],_,_,_,_,h=>by rw[show p=q from h]
 | [p],q::f::a,_,_,b,_,h=>by have e:p.cps.toList=_:=(congrArg (λz:Vn=>z.cps.toList) h).trans (fH c q f a);exact absurd (by rw[e];simp) (b p Dn)
 | p::p2::ps,[q],_,_,_,d,h=>by have e:q.cps.toList=_:=(congrArg (λz:Vn=>z.cps.toList) h.symm).trans (fH c p p2 ps);exact absurd (by rw[e];simp) (d q Dn)
 | p::p2::ps,q::f::a,_,_,b,d,h=>by have e:=(fH c p p2 ps).symm.trans ((congrArg (λz:Vn=>z.cps.toList) h).trans (fH c q f a));obtain⟨i,j⟩:=q5 (b p Dn) (d q Dn) e;rw[gm i,tG (List.cons_ne_nil _ _) (List.cons_ne_nil _ _) (λz g=>b z (Dk _ g)) (λz g=>d z (Dk _ g)) (gm j)]
def nB{c:Nat}(a:ps≠[])(b:∀p∈ps,c∉p.cps.toList):Txt.split (Str.join ⟨#[c]⟩ ps) ⟨#[c]⟩=ps:=
 tG (λh=>by have:=PyProof.Rows.split_pos (Str.join ⟨#[c]⟩ ps) ⟨#[c]⟩;rw[h]at this;cases this) a (StrLaws.split_free _ c) b (StrLaws.join_split _ _)
def oQ(c:Nat)(ps:List Vn):Txt.join ⟨#[c]⟩ ps=Str.join ⟨#[c]⟩ ps:=StrLaws.glued_eq_join _ _
def fj{n:Int}(h:0<=n)(a:n<1000000):(bF n).length<=6:=by obtain⟨m,rfl⟩:=Int.eq_ofNat_of_zero_le h;have:(bF (m:Nat)).cps.toList.length=(bF (m:Nat)).length:=Dl;rw[<-this,W.KIN.signs_num,Dh];exact PyProof.Rows.digits10_le (by decide) (show m<10 ^ 6 by omega)
end Tx
namespace St
def fS(lo hi:Int)(xs:List Int):Prop:=xs.Pairwise (· < ·)/\∀x∈xs,lo<=x/\x<hi
structure Ok(b s:Int)(o a:List Int):Prop where
 hb:0<=b
 hs:1<=s
 ho:fS 0 b o
 ha:fS b (b+s) a
end St
namespace St
end St
namespace St
end St
namespace St
end St
namespace St
end St
namespace Bfs
end Bfs
namespace Bfs
end Bfs
namespace Bfs
end Bfs
namespace My
open PySem L2 St
def stq (i : Nat) : Vl := PySem.Challenge.pw_stairrooms_k18_read_or_refused.main.body.getD i (.Pass ⟨0, 0, 0, 0⟩)
local macro_rules|`(tactic| walk_at "cond") => `(tactic| first|decide|omega|(dsimp only; omega)|(unfold kI; omega)|(unfold vM; exact ⟨by decide, by decide, by decide⟩)|(dsimp only; exact ⟨by omega, by omega⟩)|exact .inr ⟨by decide, by decide⟩|exact .inl ⟨by decide, by decide⟩|(unfold SmallR; omega))
local macro_rules|`(tactic| walk_at"") => do
 let ts <- ("seq ret retN asg drop ifS next name var c op un CB cons nil ints test B exb not and or andV orV notV ifE yes I0 I U EqI NeI EqB NeB call BM tup lst sl noPart part exi chain comp iL iT i1 i2 i3 for tTru intB max2 min2 sub gcons gnil aug ipI zip rev par par2 lam calV raise fs try bseq bnext bplain bif bcall enum gget gin revL leS disp dget lrev disp1 din dnin dput min3 iS iD bm0 revS iD2 iLT thaw iD3 iDL dgt2 fs3 fs5 basgT repl".splitOn " ").toArray.mapM λn =>
  let i := Lean.mkIdent (.mkSimple ("rd_" ++ n))
  if n == "var" || n == "aug" then `(tacticSeq| ((with_reducible apply $i); (exact rfl)))
  else if n == "I" then `(tacticSeq| ((with_reducible apply $i); (walk_at "cond")))
  else `(tacticSeq| with_reducible refine $i ?_)
 `(tactic| repeat (first $[| $ts]*|dsimp only))
structure Blt(mg:Vn->Option Va):Prop where
 len_:mg "len" = Vp
 isinstance_:mg "isinstance" = Vp
 tuple_:mg "tuple" = Vp
 list_:mg "list" = Vp
 int_:mg "int" = Vp
 bool_:mg "bool" = Vp
 range_:mg "range" = Vp
 zip_:mg "zip" = Vp
 max_:mg "max" = Vp
 min_:mg "min" = Vp
 abs_:mg "abs" = Vp
 all_:mg "all" = Vp
 ValueError_:mg "ValueError" = Vp
 set_:mg "set" = Vp
 str_:mg "str" = Vp
 sorted_:mg "sorted" = Vp
abbrev fR:List Vn:=["Endless","NoDeed","NoHouse","NoLine","NoPlace","NoStair","NoText","NoWalk","NoWay","NotBare","StairError","TooGreat"]
abbrev gh:List Vn:=["NoText"]
def isInt:V->Bool
 | .int _=>true
 | _=>false
def isStr:V->Bool
 | .str _=>true
 | _=>false
def isTup(H:Hp):V->Bool
 | .ref p=>match H p with
  | some (.tup _)=>true
  | _=>false
 | _=>false
def qz{H:Hp}{v:V}{n:String}(h:cp H v n):∃b c,ft n "int" = Vo b/\ft n "bool" = Vo c/\(b && !c)=isInt v:=by
 cases v with
 | non=>cases(show n = "NoneType" from h);exact⟨_,_,rfl,rfl,rfl⟩
 | bl b=>cases(show n = "bool" from h);exact⟨_,_,rfl,rfl,rfl⟩
 | int i=>cases(show n = "int" from h);exact⟨_,_,rfl,rfl,rfl⟩
 | str z=>cases(show n = "str" from h);exact⟨_,_,rfl,rfl,rfl⟩
 | ref a=>rcases h with⟨rfl,xs,e⟩|⟨rfl,xs,e⟩<;>exact⟨_,_,rfl,rfl,rfl⟩
 | _=>exact False.elim h
def jV{H:Hp}{v:V}{n:String}(h:cp H v n):ft n "str" = Vo (isStr v):=by
 cases v with
 | non=>cases(show n = "NoneType" from h);rfl
 | bl b=>cases(show n = "bool" from h);rfl
 | int i=>cases(show n = "int" from h);rfl
 | str z=>cases(show n = "str" from h);rfl
 | ref a=>rcases h with⟨rfl,xs,e⟩|⟨rfl,xs,e⟩<;>rfl
 | _=>exact False.elim h
def gP{H:Hp}{v:V}{n:String}(h:cp H v n):ft n "tuple" = Vo (isTup H v):=by
 cases v with
 | non=>cases(show n = "NoneType" from h);rfl
 | bl b=>cases(show n = "bool" from h);rfl
 | int i=>cases(show n = "int" from h);rfl
 | str z=>cases(show n = "str" from h);rfl
 | ref a=>rcases h with⟨rfl,xs,e⟩|⟨rfl,xs,e⟩<;>(unfold isTup;dsimp only;rw[e];rfl)
 | _=>exact False.elim h
def bx(H:Hp):Nat->V->Prop
 | _,.non=>True
 | _,.bl _=>True
 | _,.int _=>True
 | _,.str z=>z.length<=1000
 | 0,.ref _=>False
 | n+1,.ref p=>∃xs,(H p=Vo (.tup xs)\/H p=Vo (.lst xs))/\xs.length<=2000/\∀x∈xs,bx H n x
 | _,_=>False
def bx.ext{H H':Hp}(e:Ext H H'):∀{n:Nat} {v:V},bx H n v->bx H' n v:=by
 intro n;induction n with
 | zero=>intro v h;cases v<;>exact h
 | succ n a=>
  intro v h;cases v with
  | ref p=>
   obtain⟨xs,h1,h2,b⟩:=h;exact⟨xs,h1.imp (e _ _) (e _ _),h2,λx c=>a (b x c)⟩
  | _=>exact h
def bx.kind{H:Hp}{n:Nat}{v:V}(h:bx H n v):∃k,cp H v k:=by
 cases v with
 | non=>exact⟨_,rfl⟩
 | bl b=>exact⟨_,rfl⟩
 | int i=>exact⟨_,rfl⟩
 | str z=>exact⟨_,rfl⟩
 | ref p=>
  cases n with
  | zero=>exact h.elim
  | succ n=>
   obtain⟨xs,h1,_⟩:=h;rcases h1 with h1|h1
   .exact⟨"tuple",.inr ⟨rfl,xs,h1⟩⟩
   .exact⟨"list",.inl ⟨rfl,xs,h1⟩⟩
 | _=>cases n<;>exact h.elim
def gH{H:Hp}{v:V}(h:isTup H v=true):∃p xs,v=.ref p/\H p=Vo (.tup xs):=by
 cases v with
 | ref p=>
  unfold isTup at h;dsimp only at h;split at h
  .rename_i xs e;exact⟨p,xs,rfl,e⟩
  .cases h
 | _=>cases h
def bx.items{H:Hp}{n:Nat}{p:Vb}{xs:List V}(h:bx H (n+1) (.ref p))(e:H p=Vo (.tup xs)):xs.length<=2000/\∀x∈xs,bx H n x:=by obtain⟨ys,h1,h2,a⟩:=h;rcases h1 with h1|h1<;>rw[e]at h1<;>cases h1;exact⟨h2,a⟩
def ie{n:Nat}(h:n<=2000):n<=sizeLine:=DM h (by decide)
def iQ(K:Dd):Sp:=λvs H Q _=>∃v n,vs=[v]/\cp H v n/\Q (.bl (isInt v)) H
abbrev oo:Vl:=stq 14
def ur:FnScope ["thing"] ["thing"] (aK oo):=⟨rfl,rfl,rfl,by decide +kernel,rfl,by decide +kernel,by decide +kernel⟩
def A7{P:Vd}{w:Ve}{K:Dd}{mg:Vn->Option Va}{base:Vh}(D:Dfn K mg "is_whole" oo ["thing"])(T:Blt mg):Cal P w K mg base "is_whole" 1 ["thing"] (iQ K):=by
 have nd:=(ur).nd;refine D.ok ur (λvs H Q E h=>?_) (λX d H vs Q E h=>?_)
 .obtain⟨v,n,rfl,_⟩:=h;rfl
 .obtain⟨f,cdv,A,outer,s,H0,E0,rfl,i⟩:=d;obtain⟨v,n,rfl,a,q⟩:=h;obtain⟨b,c,hb,g,e⟩:=qz a;refine⟨_,(au (ax (cM (aF cw rfl T.isinstance_ PyProof.Rows.boot_isinstance (ae (pv 0) (ae (cq (v:=.ty "int") rfl T.int_ PyProof.Rows.boot_int rfl) af))) (dg (oY (aF cw rfl T.isinstance_ PyProof.Rows.boot_isinstance (ae (pv 0) (ae (cq (v:=.ty "bool") rfl T.bool_ PyProof.Rows.boot_bool rfl) af)))))))),?_⟩;walk_at"";refine bY a hb ?_;walk_at"";cases b with
  | false=>refine av ?_;rw[<-e]at q;exact q
  | true=>
   refine ao ?_;walk_at"";refine bY a g ?_;walk_at"";rw[<-e]at q;exact q
def bR(m:Int):V->Bool
 | .int i=>decide (0<=i) && decide (i<m)
 | _=>false
def gn:List (Key×V):=[(.inr "up",.str "down"),(.inr "down",.str "up"),(.inr "stay",.str "stay"),(.inr "zero",.str "zero")]
def Ca{w:Ve}{K:Dd}{a:Vb}{b c d e f g i j:Tok}{ep:Nat}(h:K.lookup a=Vo (kN w [("up",b,.str "down" c),("down",d,.str "up" e),("stay",f,.str "stay" g),("zero",i,.str "zero" j)] ep))(hs:(a == sysModules)=false):GDict w K a gn:=
 ⟨⟨_,_,h,.cons ⟨rfl,⟨_,rfl⟩⟩ (.cons ⟨rfl,⟨_,rfl⟩⟩ (.cons ⟨rfl,⟨_,rfl⟩⟩ (.cons ⟨rfl,⟨_,rfl⟩⟩ .nil)))⟩,by decide +kernel,hs⟩
def dY:V->Bool
 | .str z=>(cI gn (.inr z)).isSome
 | _=>false
def fQ(z:Vn):Bool:=!decide (z.cps.toList<(DR "a").cps.toList) && !decide ((DR "z").cps.toList<z.cps.toList)
def dI:V->Bool
 | .str z=>decide (z.length=1) && fQ z
 | _=>false
def dN{v:V}(h:isInt v=true):∃i,v=.int i:=by cases v<;>first|exact ⟨_,rfl⟩|cases h
def isStr_of{v:V}(h:isStr v=true):∃z,v=.str z:=by cases v<;>first|exact ⟨_,rfl⟩|cases h
def ji{m:Int}{v:V}(h:isInt v=false):bR m v=false:=by cases v<;>first|rfl|cases h
def vP{v:V}(h:isStr v=false):dY v=false:=by cases v<;>first|rfl|cases h
def tR{v:V}(h:isStr v=false):dI v=false:=by cases v<;>first|rfl|cases h
def uk(K:Dd):Sp:=λvs H Q _=>∃v m n,vs=[v,.int m]/\cp H v n/\Q (.bl (bR m v)) H
abbrev nq:Vl:=stq 22
def tV:FnScope ["thing","many"] ["thing","many"] (aK nq):=⟨rfl,rfl,rfl,by decide +kernel,rfl,by decide +kernel,by decide +kernel⟩
def Bp{P:Vd}{w:Ve}{K:Dd}{mg:Vn->Option Va}{base:Vh}(D:Dfn K mg "is_room" nq ["thing","many"])(T:Blt mg)(a:Cal P w K mg base "is_whole" 1 ["thing"] (iQ K)):Cal P w K mg base "is_room" 2 ["thing","many"] (uk K):=by
 have nd:=(tV).nd;refine D.ok tV (λvs H Q E h=>?_) (λX d H vs Q E h=>?_)
 .obtain⟨i,m,n,rfl,_⟩:=h;rfl
 .obtain⟨f,cdv,A,outer,s,H0,E0,rfl,e⟩:=d;obtain⟨v,m,n,rfl,g,q⟩:=h;refine⟨_,(au (ax (cM (aC a e (ae (pv 0) af)) (dg (km ju cW ag (pv 0) (pv 1)))))),?_⟩;walk_at"";refine⟨v,n,rfl,g,?_⟩;refine rd_exb ?_;cases b:isInt v with
  | false=>
   refine av ?_;rw[ji b]at q;exact q
  | true=>
   obtain⟨i,rfl⟩:=dN b;refine ao ?_;walk_at"";unfold bR at q;dsimp only at q;cases c:decide (0<=i)with
   | false=>
    refine av ?_;rw[c]at q;exact q
   | true=>
    refine ao ?_;walk_at"";rw[c,Bool.true_and]at q;exact q
def uT(K:Dd):Sp:=λvs H Q _=>∃v n,vs=[v]/\cp H v n/\Q (.bl (dY v)) H
abbrev lC:Vl:=stq 23
def wc:FnScope ["thing"] ["thing"] (aK lC):=⟨rfl,rfl,rfl,by decide +kernel,rfl,by decide +kernel,by decide +kernel⟩
def xc{P:Vd}{w:Ve}{K:Dd}{mg:Vn->Option Va}{base:Vh}(D:Dfn K mg "is_deed" lC ["thing"])(T:Blt mg)(b:∃a,mg "TURNED" = Vo (.ref a)/\GDict w K a gn):Cal P w K mg base "is_deed" 1 ["thing"] (uT K):=by
 have nd:=(wc).nd;refine D.ok wc (λvs H Q E h=>?_) (λX j H vs Q E h=>?_)
 .obtain⟨z,n,rfl,_⟩:=h;rfl
 .obtain⟨f,cdv,A,outer,s,H0,E0,rfl,k⟩:=j;obtain⟨e,c,d⟩:=b;obtain⟨v,n,rfl,g,q⟩:=h;refine⟨_,(au (ax (cM (aF cw rfl T.isinstance_ PyProof.Rows.boot_isinstance (ae (pv 0) (ae (cq (v:=.ty "str") rfl T.str_ PyProof.Rows.boot_str rfl) af))) (dg (CL (yd rfl c d (pv 0)) (by with_unfolding_all rfl)))))),?_⟩;walk_at"";refine bY g (jV g) ?_;walk_at"";cases i:isStr v with
  | false=>
   refine av ?_;rw[vP i]at q;exact q
  | true=>
   obtain⟨z,rfl⟩:=isStr_of i;refine ao ?_;walk_at"";exact⟨.inr z,rfl,q⟩
def qh(K:Dd):Sp:=λvs H Q _=>∃v n j,vs=[v]/\cp H v n/\bx H j v/\Q (.bl (dI v)) H
abbrev oO:Vl:=stq 24
def qj:FnScope ["thing"] ["thing"] (aK oO):=⟨rfl,rfl,rfl,by decide +kernel,rfl,by decide +kernel,by decide +kernel⟩
def xj{P:Vd}{w:Ve}{K:Dd}{mg:Vn->Option Va}{base:Vh}(D:Dfn K mg "is_sign" oO ["thing"])(T:Blt mg):Cal P w K mg base "is_sign" 1 ["thing"] (qh K):=by
 have nd:=(qj).nd;refine D.ok qj (λvs H Q E h=>?_) (λX c H vs Q E h=>?_)
 .obtain⟨z,n,j,rfl,_⟩:=h;rfl
 .obtain⟨f,cdv,A,outer,s,H0,E0,rfl,e⟩:=c;obtain⟨v,n,j,rfl,a,d,q⟩:=h;refine⟨_,(au (ax (cM (aF cw rfl T.isinstance_ PyProof.Rows.boot_isinstance (ae (pv 0) (ae (cq (v:=.ty "str") rfl T.str_ PyProof.Rows.boot_str rfl) af))) (cM (dD b6 (aF fJ rfl T.len_ PySem.boot_len (ae (pv 0) af)) ag (aA _)) (dg (km sH sH ai (pv 0) ai)))))),?_⟩;walk_at"";refine bY a (jV a) ?_;walk_at"";cases b:isStr v with
  | false=>
   refine av ?_;rw[tR b]at q;exact q
  | true=>
   obtain⟨z,rfl⟩:=isStr_of b;refine ao ?_;walk_at"";refine⟨_,rfl,ie (DM (show z.length<=1000 by cases j<;>exact d) (by decide)),?_⟩;walk_at"";unfold dI fQ at q;dsimp only at q;by_cases h1:z.length=1
   .rw[Ef (show((z.length:Nat):Int)=1 by omega)];refine ao ?_;walk_at"";rw[Ef h1,Bool.true_and]at q;cases h2:!decide (z.cps.toList<(DR "a").cps.toList)with
    | false=>
     refine av ?_;rw[h2]at q;exact q
    | true=>
     refine ao ?_;walk_at"";rw[h2,Bool.true_and]at q;exact q
   .rw[Ee (show ¬((z.length:Nat):Int)=1 by omega)];refine av ?_;rw[Ee h1,Bool.false_and]at q;exact q
def eI(m:Int):List V->Bool
 | [a,b,c,d]=>bR m a && (bR m c && (dY b && dI d))
 | _=>false
def bz(H:Hp)(m:Int):V->Bool
 | .ref p=>match H p with
  | some (.tup xs)=>eI m xs
  | _=>false
 | _=>false
def lj{H:Hp}{m:Int}{v:V}(h:isTup H v=false):bz H m v=false:=by
 cases v with
 | ref p=>
  unfold isTup at h;unfold bz;dsimp only at h ⊢;split
  .rename_i xs e;rw[e]at h;cases h
  .rfl
 | _=>rfl
def iE{H:Hp}{m:Int}{p:Vb}{xs:List V}(h:H p=Vo (.tup xs)):bz H m (.ref p)=eI m xs:=by unfold bz;dsimp only;rw[h]
def mU{m:Int}{xs:List V}(h:xs.length≠4):eI m xs=false:=by
 unfold eI;split
 .exact absurd rfl h
 .rfl
def four{xs:List V}(h:xs.length=4):∃a b c d,xs=[a,b,c,d]:=by
 match xs,h with
 | [a,b,c,d],_=>exact⟨a,b,c,d,rfl⟩
def rG(K:Dd):Sp:=λvs H Q _=>∃v m,vs=[v,.int m]/\bx H 2 v/\Q (.bl (bz H m v)) H
abbrev oP:Vl:=stq 25
def rg:FnScope ["thing","many"] ["thing","many"] (aK oP):=⟨rfl,rfl,rfl,by decide +kernel,rfl,by decide +kernel,by decide +kernel⟩
def AM{P:Vd}{w:Ve}{K:Dd}{mg:Vn->Option Va}{base:Vh}(D:Dfn K mg "is_way" oP ["thing","many"])(T:Blt mg)(g:Cal P w K mg base "is_sign" 1 ["thing"] (qh K))(i:Cal P w K mg base "is_deed" 1 ["thing"] (uT K))(e:Cal P w K mg base "is_room" 2 ["thing","many"] (uk K)):Cal P w K mg base "is_way" 3 ["thing","many"] (rG K):=by
 have nd:=(rg).nd;refine D.ok rg (λvs H Q E h=>?_) (λX F H vs Q E h=>?_)
 .obtain⟨p,m,rfl,_⟩:=h;rfl
 .obtain⟨f,cdv,A,outer,s,H0,E0,rfl,l⟩:=F;obtain⟨v,m,rfl,x,q⟩:=h;obtain⟨n,y⟩:=x.kind;refine⟨_,(ak (aT (PW.pt (bj (bt (br (aF cw rfl T.isinstance_ PyProof.Rows.boot_isinstance (ae (pv 0) (ae (cq (v:=.ty "tuple") rfl T.tuple_ PyProof.Rows.boot_tuple rfl) af))))) (bQ (aD cn (aF (cc K) rfl T.len_ PySem.boot_len (ae (pv 0) af)) ag (aA _))))) (au (ax bJ)) aO)
    (ak (aT (PW.pt (bj (bt (br (aC e l (ae (aq (aW K) (pv 0) ag (λ_ _=>rfl)) (ae (pv 1) af))))) (bQ (bt (br (aC e l (ae (aq (aW K) (pv 0) ag (λ_ _=>rfl)) (ae (pv 1) af)))))))) (au (ax bJ)) aO)
    (au (ax (cM (aC i l (ae (aq (aW K) (pv 0) ag (λ_ _=>rfl)) af)) (dg (aC g l (ae (aq (aW K) (pv 0) ag (λ_ _=>rfl)) af)))))))),?_⟩
  walk_at"";refine bY y (gP y) ?_;walk_at"";cases z:isTup H v with
  | false=>
   refine ao ?_;walk_at"";rw[lj z]at q;exact q
  | true=>
   refine av ?_;obtain⟨p,xs,rfl,k⟩:=gH z;obtain⟨G,j⟩:=x.items k;rw[iE k]at q;walk_at"";refine eM (ar.of k) ?_;walk_at"";by_cases B:xs.length=4
   .obtain⟨a,b,c,d,rfl⟩:=four B;have ta:=j a (by simp);have tb:=j b (by simp);have tc:=j c (by simp);have td:=j d (by simp);obtain⟨I,o⟩:=ta.kind;obtain⟨J,r⟩:=tb.kind;obtain⟨kc,t⟩:=tc.kind;obtain⟨L,u⟩:=td.kind;unfold eI at q;dsimp only at q;refine av ?_;walk_at"";refine aX (ar.of k) (v:=a) rfl ?_;walk_at"";refine⟨a,m,I,rfl,o,?_⟩;walk_at"";cases ra:bR m a with
    | false=>
     refine ao ?_;walk_at"";rw[ra]at q;exact q
    | true=>
     refine av ?_;walk_at"";refine aX (ar.of k) (v:=c) rfl ?_;walk_at"";refine⟨c,m,kc,rfl,t,?_⟩;walk_at"";rw[ra,Bool.true_and]at q;cases rc:bR m c with
     | false=>
      refine ao ?_;walk_at"";rw[rc]at q;exact q
     | true=>
      refine av ?_;walk_at"";refine aX (ar.of k) (v:=b) rfl ?_;walk_at"";refine⟨b,J,rfl,r,?_⟩;walk_at"";rw[rc,Bool.true_and]at q;cases C:dY b with
      | false=>
       refine av ?_;rw[C]at q;exact q
      | true=>
       refine ao ?_;walk_at"";refine aX (ar.of k) (v:=d) rfl ?_;walk_at"";rw[C,Bool.true_and]at q;exact⟨d,L,1,rfl,u,td,q⟩
   .rw[mU B]at q;rw[Ee (show ¬((xs.length:Nat):Int)=4 by omega)];refine ao ?_;walk_at"";exact q
def nI{xs:List Int}{i:Nat}{v:V}(h:(xs.map V.int)[i]?=Vo v):∃x,v=.int x/\xs[i]?=Vo x:=by
 rw[Dj]at h;cases e:xs[i]? with
 | none=>rw[e]at h;cases h
 | some x=>rw[e]at h;exact⟨x,(DS h).symm,rfl⟩
def aI{n:Nat}(h:n<=1000000):n<=sizeLine:=DM h (by decide)
def aH{xs:List V}{H:Hp}{o:HO}{Q:VK}(h:∀p H',Ext H H'->H' p=Vo o->H p=Vp->Q (.ref p) H')(a:xs.length<=1000000:=by simp):xs.length<=sizeLine/\df H o Q:=⟨aI a,aP h⟩
def vV(K:Dd):Sp:=λvs H Q _=>∃(a:Vb) (ns:List Int) (k:Int),vs=[.ref a,.int k]/\ah K H a (ns.map V.int)/\ns.length<=63/\0<=k/\∀z,Q (.int z) H
def vN{ns:List Int}{i:Int}(a:0<=i)(h:i<ns.length):∃z,bZ (ns.map V.int) i=Vo (.int z)/\ns[i.toNat]?=Vo z:=by
 have hi:i.toNat<ns.length:=by omega
 refine⟨ns[i.toNat],zO a ?_,Di hi⟩;rw[Dj,Di hi];rfl
abbrev my:Vl:=stq 39
def sI:FnScope ["_law_script","_law_k"] ["_law_script","_law_k"] (aK my):=⟨rfl,rfl,rfl,by decide +kernel,rfl,by decide +kernel,by decide +kernel⟩
def An{P:Vd}{w:Ve}{K:Dd}{mg:Vn->Option Va}{base:Vh}(D:Dfn K mg "_law_cell" my ["_law_script","_law_k"])(T:Blt mg):Cal P w K mg base "_law_cell" 1 ["_law_script","_law_k"] (vV K):=by
 have nd:=(sI).nd;refine D.ok sI (λvs H Q E h=>?_) (λX e H vs Q E h=>?_)
 .obtain⟨a,ns,k,rfl,_⟩:=h;rfl
 .obtain⟨f,cdv,A,outer,s,H0,E0,rfl,i⟩:=e;obtain⟨a,ns,k,rfl,ha,j,g,q⟩:=h;refine⟨_,(ak (aT (aD b6 (aF (cc K) rfl T.len_ PySem.boot_len (ae (pv 0) af)) ag (aA _)) (au (ax (aj dW ag (aj aM (pv 1) ag)))) aO)
    (ak (aT (aD cW (pv 1) (aF (cc K) rfl T.len_ PySem.boot_len (ae (pv 0) af)) (aA _)) (au (ax (aq (aB K) (pv 0) (pv 1) (λ_ _=>rfl)))) aO)
    (au (ax (aj aM (aq (aB K) (pv 0) (aj cj (pv 1) (aF (cc K) rfl T.len_ PySem.boot_len (ae (pv 0) af))) (λ_ _=>rfl)) (aj dW ag (pv 1))))))),?_⟩
  walk_at"";refine eh ha ?_;walk_at"";rw[Dh];by_cases c:(ns.length:Int)=0
  .rw[Ef c];refine ao ?_;walk_at"";exact q _
  .rw[Ee c];refine av ?_;walk_at"";refine eh ha ?_;walk_at"";rw[Dh];by_cases h1:k<ns.length
   .rw[Ef h1];refine ao ?_;obtain⟨z,b,_⟩:=vN g h1;walk_at"";refine az ha b ?_;exact q _
   .rw[Ee h1];refine av ?_;walk_at"";refine eh ha ?_;rw[Dh];have d:(0:Int)<ns.length:=by omega
    refine rd_I d ?_;obtain⟨z,b,_⟩:=vN (ns:=ns) (Int.emod_nonneg k (by omega)) (Int.emod_lt_of_pos k d);refine az ha b ?_;walk_at"";exact q _
def qy(K:Dd):Sp:=λvs H Q _=>∃c k p,vs=[.int c,.int k,.int p]/\0<=k/\k<100000/\0<p/\∀z,0<=z->z<p->Q (.int z) H
abbrev mh:Vl:=stq 40
def tw:FnScope ["_law_cell_here","_law_k","_law_prime","_law_far"] ["_law_cell_here","_law_k","_law_prime"] (aK mh):=⟨rfl,rfl,rfl,by decide +kernel,rfl,by decide +kernel,by decide +kernel⟩
def yP{P:Vd}{w:Ve}{K:Dd}{mg:Vn->Option Va}{base:Vh}(D:Dfn K mg "_law_mixed" mh ["_law_cell_here","_law_k","_law_prime"])(T:Blt mg):Cal P w K mg base "_law_mixed" 1 ["_law_cell_here","_law_k","_law_prime"] (qy K):=by
 have nd:=(tw).nd;refine D.ok tw (λvs H Q E h=>?_) (λX a H vs Q E h=>?_)
 .obtain⟨c,k,p,rfl,_⟩:=h;rfl
 .obtain⟨f,cdv,A,outer,s,H0,E0,rfl,e⟩:=a;obtain⟨c,k,p,rfl,g,b,d,q⟩:=h;refine⟨_,(ak (ay (i:=3) nd rfl (Or.inl rfl) (aj cj (aj dW (aj aM (aj aM (aj aM (pv 0) (aj dW (aj dW ag (pv 1)) (pv 1))) (aj dW ag (pv 1))) ag) ag) ag))
    (ak (ay (i:=3) nd rfl (Or.inl rfl) (aj cj (aj dW (pv 3) (pv 3)) ag))
    (au (ax (aj cj (aj dW (pv 3) ag) (pv 2)))))),?_⟩
  walk_at"";exact q _ (Int.emod_nonneg _ (by omega)) (Int.emod_lt_of_pos _ d)
def hG{H H2:Hp}{q:Vb}{o:HO}(e:Ext H H2)(a:H q=Vp):Ext H (upd H2 q o):=λb u hb=>by rw[aY (du hb a)];exact e b u hb
def fT(K:Dd):Sp:=λvs H Q _=>∃(c:Int) (w:Vb) (ws:List Int) (p:Int),vs=[.int c,.ref w,.int p]/\H w=Vo (.lst (ws.map V.int))/\(∀x∈ws,0<x/\x<2 ^ 40)/\ws.length<=10000/\0<p ∧
 ∀(q:Vb) (ds:List Int) (H':Hp),Ext H H'->H' q=Vo (.lst (ds.map V.int))->H q=Vp->ds.length=ws.length->(∀(i:Nat) d x,ds[i]?=Vo d->ws[i]?=Vo x->0<=d/\d<x)->Q (.ref q) H'
def fW{K:Dd}{H:Hp}{c:Int}{w:Vb}{p:Int}{Q:VK}{xe:XK}(ws:List Int)(h1:H w=Vo (.lst (ws.map V.int)))(h2:∀x∈ws,0<x/\x<2 ^ 40)(a:ws.length<=10000)(b:0<p)
  (k:∀(q:Vb) (ds:List Int) (H':Hp),Ext H H'->H' q=Vo (.lst (ds.map V.int))->H q=Vp->ds.length=ws.length->(∀(i:Nat) d x,ds[i]?=Vo d->ws[i]?=Vo x->0<=d/\d<x)->Q (.ref q) H'):fT K [.int c,.ref w,.int p] H Q xe:=⟨c,w,ws,p,rfl,h1,h2,a,b,k⟩
abbrev nX:Vl:=stq 41
def uY:FnScope ["_law_cell_here","_law_widths","_law_prime","_law_left","_law_found","_law_k"] ["_law_cell_here","_law_widths","_law_prime"] (aK nX):=⟨rfl,rfl,rfl,by decide +kernel,rfl,by decide +kernel,by decide +kernel⟩
def CD{P:Vd}{w:Ve}{K:Dd}{mg:Vn->Option Va}{base:Vh}(D:Dfn K mg "_law_draws" nX ["_law_cell_here","_law_widths","_law_prime"])(T:Blt mg)(a:Cal P w K mg base "_law_mixed" 1 ["_law_cell_here","_law_k","_law_prime"] (qy K)):Cal P w K mg base "_law_draws" 2 ["_law_cell_here","_law_widths","_law_prime"] (fT K):=by
 have nd:=(uY).nd;refine D.ok uY (λvs H Q E h=>?_) (λX I H vs Q E h=>?_)
 .obtain⟨c,w,ws,p,rfl,_⟩:=h;rfl
 .obtain⟨f,cdv,A,outer,s,H0,E0,rfl,J⟩:=I;obtain⟨c,w,ws,p,rfl,B,u,hlen,L,q⟩:=h;refine⟨_,(ak (ay (i:=3) nd rfl (Or.inl rfl) ag)
    (ak (dX (aD jU (pv 0) (aj iW ag ag) (aA _)) (au (ay (i:=3) nd rfl (Or.inl rfl) (aj dC (pv 0) (aj iW ag ag)))) aO)
    (ak (ay (i:=4) nd rfl (Or.inl rfl) (aU af))
    (ak (dO PassesOwn.never rfl (eB rfl T.range_ (ae (aF (cc K) rfl T.len_ PySem.boot_len (ae (pv 1) af)) af)) (aV (i:=5) nd rfl (Or.inl rfl)) (au (dX (aD ed (pv 3) ag (aA _)) (ak (cF (bo K Dp DD DE cB (pv 4) (ae (aj cj (pv 3) (aq (aB K) (pv 1) (pv 5) (λ_ _=>rfl))) af)))
    (au (ay (i:=3) nd rfl (Or.inl rfl) (aj rH (pv 3) (aq (aB K) (pv 1) (pv 5) (λ_ _=>rfl)))))) (au (cF (bo K Dp DD DE cB (pv 4) (ae (aj cj (aC a J (ae (pv 0) (ae (pv 5) (ae (pv 2) af)))) (aq (aB K) (pv 1) (pv 5) (λ_ _=>rfl))) af)))))))
    (au (ax (pv 4))))))),?_⟩
  walk_at"";refine fo (λv H'=>H'=H/\∃l,v=[Vo (.int c),Vo (.ref w),Vo (.int p),Vo (.int l),Vp,Vp]) ?_ ?_
  .walk_at"";refine cJ (λh=>?_) (λh=>?_)
   .walk_at"";exact⟨rfl,_,rfl⟩
   .walk_at"";exact⟨rfl,_,rfl⟩
  rintro v H' ⟨rfl,l,rfl⟩;walk_at"";refine aH λf H1 G M e=>?_;walk_at"";refine eh (ah.of (G _ _ B)) ?_;rw[Dh];walk_at"";refine er (by omega) ?_;refine forR (λi σ H2=>Ext H' H2/\∃(l:Int) (k:Option V) (ds:List Int),σ=[Vo (.int c),Vo (.ref w),Vo (.int p),Vo (.int l),Vo (.ref f),k]/\H2 f=Vo (.lst (ds.map V.int))/\ds.length=i/\∀(i:Nat) d x,ds[i]?=Vo d->ws[i]?=Vo x->0<=d/\d<x)
   ⟨G,l,Vp,[],rfl,M,rfl,λi d x hd=>by simp at hd⟩ ?_ ?_
  .rintro i σ H2 hi ⟨m,l,k,ds,rfl,b,g,hb⟩;rw[Dv]at hi;have y:ws[i]?=Vo ws[i]:=Di hi;have S:=u ws[i] (DI hi);have n:bZ (ws.map V.int) (0+(i:Int))=Vo (.int ws[i]):=by rw[Int.zero_add];exact ck (by rw[Dj,y];rfl)
   have next:∀d,0<=d->d<ws[i]->∀(j:Nat) (t x:Int),(ds++[d])[j]?=Vo t->ws[j]?=Vo x->0<=t/\t<x:=λd N h1 j t x o r=>by
    rcases DX j ds.length with h|h
    .rw[DH h]at o;exact hb j t x o r
    .rw[DG h]at o;have C:j-ds.length=0:=by
      rcases Nat.eq_zero_or_pos (j-ds.length)with h|h
      .exact h
      .rw[List.getElem?_eq_none (by simp;omega)]at o;cases o
     rw[C]at o;have F:j=i:=by omega
     subst F;rw[y]at r;cases r;have:d=t:=by simpa using o
     rw[<-this];exact⟨N,h1⟩
   walk_at"";refine vy ?_;walk_at"";refine cJ (λh=>?_) (λh=>?_)
   .have h':1<l:=by simpa using h
    walk_at"";refine⟨iB (ah.of b),?_⟩;walk_at"";refine az (ah.of (m _ _ B)) n ?_;refine rd_I (show 0<ws[i] by omega) ?_;walk_at"";refine cG b (by rw[Dh];exact Nat.lt_of_le_of_lt (show ds.length<=10000 by omega) (by decide)) ?_;walk_at"";refine az (ah.of (hG m e _ _ B)) n ?_;refine rd_I (show 0<ws[i]/\ws[i]<2 ^ 64 by omega) ?_;walk_at"";refine⟨hG m e,_,_,ds++[l % ws[i]],rfl,?_,by rw[DA,g];rfl,next _ (Int.emod_nonneg _ (by omega)) (Int.emod_lt_of_pos _ (by omega))⟩;rw[bg,Dz];rfl
   .walk_at"";refine⟨iB (ah.of b),?_⟩;walk_at"";refine⟨c,0+(i:Int),p,rfl,by omega,by omega,L,λz O R=>?_⟩;walk_at"";refine az (ah.of (m _ _ B)) n ?_;refine rd_I (show 0<ws[i] by omega) ?_;walk_at"";refine cG b (by rw[Dh];exact Nat.lt_of_le_of_lt (show ds.length<=10000 by omega) (by decide)) ?_;walk_at"";refine⟨hG m e,_,_,ds++[z % ws[i]],rfl,?_,by rw[DA,g];rfl,next _ (Int.emod_nonneg _ (by omega)) (Int.emod_lt_of_pos _ (by omega))⟩;rw[bg,Dz];rfl
  .rintro σ H2 ⟨m,l,k,ds,rfl,b,g,hb⟩;walk_at"";exact q f ds H2 m b e (by rw[g,Dv]) hb
def u9(K:Dd):Sp:=λvs H Q _=>∃c w,vs=[.int c,.int w]/\0<w/\w<2 ^ 64/\∀z,Q (.int z) H
abbrev mz:Vl:=stq 42
def ui:FnScope ["_law_cell_here","_law_width"] ["_law_cell_here","_law_width"] (aK mz):=⟨rfl,rfl,rfl,by decide +kernel,rfl,by decide +kernel,by decide +kernel⟩
def B9{P:Vd}{w:Ve}{K:Dd}{mg:Vn->Option Va}{base:Vh}(D:Dfn K mg "_law_spare" mz ["_law_cell_here","_law_width"])(T:Blt mg):Cal P w K mg base "_law_spare" 1 ["_law_cell_here","_law_width"] (u9 K):=by
 have nd:=(ui).nd;refine D.ok ui (λvs H Q E h=>?_) (λX a H vs Q E h=>?_)
 .obtain⟨c,w,rfl,_⟩:=h;rfl
 .obtain⟨f,cdv,A,outer,s,H0,E0,rfl,b⟩:=a;obtain⟨c,w,rfl,h1,h2,q⟩:=h;refine⟨_,(ak (aT (aD jU (pv 0) (aj iW ag ag) (aA _)) (au (ax (aj aM (aj rH (aj dC (pv 0) (aj iW ag ag)) (pv 1)) (aj iW ag ag)))) aO)
    (au (ax (aj aM (pv 0) ag)))),?_⟩
  walk_at"";refine cJ (λh=>?_) (λh=>?_)
  .walk_at"";exact q _
  .walk_at"";exact q _
def Kn(H:Hp):Nat->V->Prop
 | 0,v=>∃n,cp H v n
 | d+1,v=>(∃n,cp H v n)/\∀p xs,v=.ref p->H p=Vo (.tup xs)->∀x∈xs,Kn H d x
def iS{H:Hp}{v:V}{n:String}(h:cp H v n):(∃p xs,v=.ref p/\H p=Vo (.tup xs)/\n = "tuple")\/(ft n "tuple" = Vo false/\∀p xs,v=.ref p->H p≠Vo (.tup xs)):=by
 cases v with
 | non=>cases(show n = "NoneType" from h);exact .inr ⟨rfl,λp xs e=>nomatch e⟩
 | bl b=>cases(show n = "bool" from h);exact .inr ⟨rfl,λp xs e=>nomatch e⟩
 | int i=>cases(show n = "int" from h);exact .inr ⟨rfl,λp xs e=>nomatch e⟩
 | str z=>cases(show n = "str" from h);exact .inr ⟨rfl,λp xs e=>nomatch e⟩
 | ref a=>
  rcases h with⟨rfl,xs,e⟩|⟨rfl,xs,e⟩
  .exact .inr ⟨rfl,λp ys q z=>by cases q;rw[e]at z;cases z⟩
  .exact .inl ⟨a,xs,rfl,e,rfl⟩
 | _=>exact False.elim h
def cQ(lo hi:Int):List V->Bool
 | []=>true
 | .int i::r=>decide (lo<=i) && decide (i<hi) && cQ (i+1) hi r
 | _::_=>false
def bW(H:Hp)(lo hi:Int):V->Bool
 | .ref p=>match H p with
  | some (.tup xs)=>cQ lo hi xs
  | _=>false
 | _=>false
def eD{H:Hp}{lo hi:Int}{p:Vb}{xs:List V}(h:H p=Vo (.tup xs)):bW H lo hi (.ref p)=cQ lo hi xs:=by simp only[bW,h]
def jJ{H:Hp}{lo hi:Int}{v:V}(h:∀p xs,v=.ref p->H p≠Vo (.tup xs)):bW H lo hi v=false:=by
 cases v with
 | ref p=>
  cases e:H p with
  | none=>simp only[bW,e]
  | some o=>
   cases o with
   | tup xs=>exact absurd e (h p xs rfl)
   | _=>simp only[bW,e]
 | _=>rfl
def oK{lo hi:Int}{x:V}{r:List V}(h:isInt x=false):cQ lo hi (x::r)=false:=by cases x<;>first|rfl|cases h
def sC(K:Dd):Sp:=λvs H Q _=>∃v lo hi,vs=[v,.int lo,.int hi]/\Kn H 1 v/\Q (.bl (bW H lo hi v)) H
abbrev lq:Vl:=stq 15
def vB:FnScope ["thing","low","end","lowest","number"] ["thing","low","end"] (aK lq):=⟨rfl,rfl,rfl,by decide +kernel,rfl,by decide +kernel,by decide +kernel⟩
def BL{P:Vd}{w:Ve}{K:Dd}{mg:Vn->Option Va}{base:Vh}(D:Dfn K mg "is_rising_row" lq ["thing","low","end"])(T:Blt mg)(a:Cal P w K mg base "is_whole" 1 ["thing"] (iQ K)):Cal P w K mg base "is_rising_row" 2 ["thing","low","end"] (sC K):=by
 have nd:=(vB).nd;refine D.ok vB (λvs H Q E h=>?_) (λX t H vs Q E h=>?_)
 .obtain⟨v,lo,hi,rfl,_⟩:=h;rfl
 .obtain⟨f,cdv,A,outer,s,H0,E0,rfl,u⟩:=t;obtain⟨v,lo,hi,rfl,o,q⟩:=h;obtain⟨n,g⟩:=o.1;refine⟨_,(ak (aT (bt (br (aF cw rfl T.isinstance_ PyProof.Rows.boot_isinstance (ae (pv 0) (ae (cq (v:=.ty "tuple") rfl T.tuple_ PyProof.Rows.boot_tuple rfl) af))))) (au (ax bJ)) aO)
    (ak (ay (i:=3) nd rfl (Or.inl rfl) (pv 1))
    (ak (dO PassesOwn.never rfl (fK K (pv 0)) (aV (i:=4) nd rfl (Or.inl rfl)) (ak (aT (PW.pt (bj (bt (br (aC a u (ae (pv 4) af)))) (bj (aD cW (pv 4) (pv 3) (aA _)) (bQ (aD jU (pv 4) (pv 2) (aA _)))))) (au (ax bJ)) aO)
    (au (ay (i:=3) nd rfl (Or.inl rfl) (aj aM (pv 4) ag)))))
    (au (ax bJ))))),?_⟩
  walk_at"";rcases iS g with⟨p,xs,rfl,d,rfl⟩|⟨y,j⟩
  .refine bY g (b:=true) rfl ?_;walk_at"";refine av ?_;walk_at"";refine fV (ar.of d) ?_;rw[eD d]at q;refine qo (xs:=xs) (λi σ H'=>H'=H/\∃lw w,σ=[Vo (.ref p),Vo (.int lo),Vo (.int hi),Vo (.int lw),w]/\cQ lo hi xs=cQ lw hi (xs.drop i))
    ⟨rfl,lo,Vp,rfl,rfl⟩ (λi σ H' _ h=>by rw[h.1];exact ar.of d) ?_ ?_
   .rintro i x σ H' r ⟨rfl,lw,w,rfl,e⟩;have hd:xs.drop i=x::xs.drop (i+1):=by obtain⟨k,rfl⟩:=Dr.mp r;exact List.drop_eq_getElem_cons k
    rw[hd]at e;obtain⟨m,B⟩:=o.2 p xs rfl d x (Ds r);walk_at"";refine⟨x,m,rfl,B,?_⟩;walk_at"";cases c:isInt x with
    | false=>
     refine ao (ao ?_);walk_at"";rw[e,oK c]at q;exact q
    | true=>
     obtain⟨z,rfl⟩:=dN c;refine av ?_;walk_at"";have l:cQ lo hi xs=(decide (lw<=z) && decide (z<hi) && cQ (z+1) hi (xs.drop (i+1))):=e;by_cases h1:z<lw
     .rw[Ef h1];refine ao (ao ?_);walk_at"";rw[l,Ee (show ¬lw<=z by omega)]at q;exact q
     .rw[Ee h1];refine av ?_;walk_at"";by_cases h2:hi<=z
      .rw[Ef h2];refine ao ?_;walk_at"";rw[l,Ee (show ¬z<hi by omega),Bool.and_false,Bool.false_and]at q;exact q
      .rw[Ee h2];refine av ?_;walk_at"";refine⟨rfl,z+1,_,rfl,?_⟩;rw[l,Ef (show lw<=z by omega),Ef (show z<hi by omega)];rfl
   .rintro σ H' ⟨rfl,lw,w,rfl,e⟩;walk_at"";rw[e,List.drop_length]at q;exact q
  .refine bY g y ?_;walk_at"";refine ao ?_;walk_at"";rw[jJ j]at q;exact q
def gq(H:Hp):V->V->V->V->Bool
 | .int b,.int s,o,a=>decide (0<=b) && decide (1<=s) && bW H 0 b o && bW H b (b+s) a
 | _,_,_,_=>false
def oI{H:Hp}{b s o a:V}(h:isInt b=false):gq H b s o a=false:=by cases b<;>first|rfl|cases h
def lV{H:Hp}{b s o a:V}(h:isInt s=false):gq H b s o a=false:=by cases s<;>first|(cases b<;>rfl)|cases h
def qM(K:Dd):Sp:=λvs H Q _=>∃b s o a,vs=[b,s,o,a]/\Kn H 0 b/\Kn H 0 s/\Kn H 1 o/\Kn H 1 a/\Q (.bl (gq H b s o a)) H
abbrev mX:Vl:=stq 16
def rz:FnScope ["base","step","once","again"] ["base","step","once","again"] (aK mX):=⟨rfl,rfl,rfl,by decide +kernel,rfl,by decide +kernel,by decide +kernel⟩
def xX{P:Vd}{w:Ve}{K:Dd}{mg:Vn->Option Va}{base:Vh}(D:Dfn K mg "are_stair_places" mX ["base","step","once","again"])(T:Blt mg)(c:Cal P w K mg base "is_rising_row" 2 ["thing","low","end"] (sC K))(d:Cal P w K mg base "is_whole" 1 ["thing"] (iQ K)):Cal P w K mg base "are_stair_places" 3 ["base","step","once","again"] (qM K):=by
 have nd:=(rz).nd;refine D.ok rz (λvs H Q E h=>?_) (λX m H vs Q E h=>?_)
 .obtain⟨b,s,o,a,rfl,_⟩:=h;rfl
 .obtain⟨f,cdv,A,outer,s,H0,E0,rfl,k⟩:=m;obtain⟨b,s',o,a,rfl,⟨nb,hb⟩,⟨ns,hs⟩,ho,ha,q⟩:=h;refine⟨_,(ak (aT (PW.pt (bj (bt (br (aC d k (ae (pv 0) af)))) (bj (bt (br (aC d k (ae (pv 1) af)))) (bj (aD cW (pv 0) ag (aA _)) (bQ (aD cW (pv 1) ag (aA _))))))) (au (ax bJ)) aO)
    (au (ax (cM (aC c k (ae (pv 2) (ae ag (ae (pv 0) af)))) (dg (aC c k (ae (pv 3) (ae (pv 0) (ae (aj aM (pv 0) (pv 1)) af))))))))),?_⟩
  walk_at"";refine⟨b,nb,rfl,hb,?_⟩;walk_at"";cases l:isInt b with
  | false=>
   refine ao (ao ?_);walk_at"";rw[oI l]at q;exact q
  | true=>
   refine av ?_;walk_at"";refine⟨s',ns,rfl,hs,?_⟩;walk_at"";cases i:isInt s' with
   | false=>
    refine ao (ao ?_);walk_at"";rw[lV i]at q;exact q
   | true=>
    obtain⟨g,rfl⟩:=dN l;obtain⟨zs,rfl⟩:=dN i;refine av ?_;walk_at"";have e:gq H (.int g) (.int zs) o a=(decide (0<=g) && decide (1<=zs) && bW H 0 g o && bW H g (g+zs) a):=rfl;by_cases h1:g<0
    .rw[Ef h1];refine ao (ao ?_);walk_at"";rw[e,Ee (show ¬0<=g by omega)]at q;exact q
    .rw[Ee h1];refine av ?_;walk_at"";by_cases h2:zs<1
     .rw[Ef h2];refine ao ?_;walk_at"";rw[e,Ee (show ¬1<=zs by omega),Bool.and_false,Bool.false_and,Bool.false_and]at q;exact q
     .rw[Ee h2];refine av ?_;walk_at"";refine⟨o,0,g,rfl,ho,?_⟩;walk_at"";rw[e,Ef (show 0<=g by omega),Ef (show 1<=zs by omega)]at q;cases j:bW H 0 g o with
      | false=>
       refine av ?_;rw[j]at q;exact q
      | true=>
       refine ao ?_;walk_at"";refine⟨a,g,g+zs,rfl,ha,?_⟩;rw[j]at q;exact q
def cX(H:Hp):V->Bool
 | .ref p=>match H p with
  | some (.tup [b,s,o,a])=>gq H b s o a
  | _=>false
 | _=>false
def jd{H:Hp}{p:Vb}{b s o a:V}(h:H p=Vo (.tup [b,s,o,a])):cX H (.ref p)=gq H b s o a:=by simp only[cX,h]
def tF{H:Hp}{p:Vb}{xs:List V}(h:H p=Vo (.tup xs))(a:xs.length≠4):cX H (.ref p)=false:=by
 simp only[cX,h]
 match xs,a with
 | [],_=>rfl
 | [_],_=>rfl
 | [_,_],_=>rfl
 | [_,_,_],_=>rfl
 | [_,_,_,_],a=>exact absurd rfl a
 | _::_::_::_::_::_,_=>rfl
def qx{H:Hp}{v:V}(h:∀p xs,v=.ref p->H p≠Vo (.tup xs)):cX H v=false:=by
 cases v with
 | ref p=>
  cases e:H p with
  | none=>simp only[cX,e]
  | some o=>
   cases o with
   | tup xs=>exact absurd e (h p xs rfl)
   | _=>simp only[cX,e]
 | _=>rfl
def sT(K:Dd):Sp:=λvs H Q _=>∃v,vs=[v]/\Kn H 2 v/\Q (.bl (cX H v)) H
def uD{xs:List V}(h:xs.length=4):∃b s o a,xs=[b,s,o,a]:=by
 match xs,h with
 | [b,s,o,a],_=>exact⟨b,s,o,a,rfl⟩
def Kn.down{H:Hp}{v:V}(h:Kn H 1 v):Kn H 0 v:=h.1
abbrev nO:Vl:=stq 17
def vk:FnScope ["thing"] ["thing"] (aK nO):=⟨rfl,rfl,rfl,by decide +kernel,rfl,by decide +kernel,by decide +kernel⟩
def AU{P:Vd}{w:Ve}{K:Dd}{mg:Vn->Option Va}{base:Vh}(D:Dfn K mg "is_stair" nO ["thing"])(T:Blt mg)(c:Cal P w K mg base "are_stair_places" 3 ["base","step","once","again"] (qM K)):Cal P w K mg base "is_stair" 4 ["thing"] (sT K):=by
 have nd:=(vk).nd;refine D.ok vk (λvs H Q E h=>?_) (λX k H vs Q E h=>?_)
 .obtain⟨v,rfl,_⟩:=h;rfl
 .obtain⟨f,cdv,A,outer,s,H0,E0,rfl,l⟩:=k;obtain⟨v,rfl,i,q⟩:=h;obtain⟨n,e⟩:=i.1;refine⟨_,(ak (aT (PW.pt (bj (bt (br (aF cw rfl T.isinstance_ PyProof.Rows.boot_isinstance (ae (pv 0) (ae (cq (v:=.ty "tuple") rfl T.tuple_ PyProof.Rows.boot_tuple rfl) af))))) (bQ (aD cn (aF (cc K) rfl T.len_ PySem.boot_len (ae (pv 0) af)) ag (aA _))))) (au (ax bJ)) aO)
    (au (ax (aC c l (ae (aq (aW K) (pv 0) ag (λ_ _=>rfl)) (ae (aq (aW K) (pv 0) ag (λ_ _=>rfl)) (ae (aq (aW K) (pv 0) ag (λ_ _=>rfl)) (ae (aq (aW K) (pv 0) ag (λ_ _=>rfl)) af)))))))),?_⟩
  walk_at"";rcases iS e with⟨p,xs,rfl,d,rfl⟩|⟨m,g⟩
  .refine bY e (b:=true) rfl ?_;walk_at"";refine av ?_;walk_at"";refine eM (ar.of d) ?_;walk_at"";by_cases j:xs.length=4
   .obtain⟨b,s',o,a,rfl⟩:=uD j;refine av ?_;walk_at"";refine aX (ar.of d) rfl ?_;walk_at"";refine aX (ar.of d) rfl ?_;walk_at"";refine aX (ar.of d) rfl ?_;walk_at"";refine aX (ar.of d) rfl ?_;walk_at"";have hi:=i.2 p _ rfl d;rw[jd d]at q;exact⟨b,s',o,a,rfl,(hi b (by simp)).down,(hi s' (by simp)).down,hi o (by simp),hi a (by simp),q⟩
   .rw[Ee (show ¬((xs.length:Nat):Int)=4 by omega)];refine ao ?_;walk_at"";rw[tF d j]at q;exact q
  .refine bY e m ?_;walk_at"";refine ao (ao ?_);walk_at"";rw[qx g]at q;exact q
def bX(H:Hp)(v:V)(b s:Int)(o a:List Int):Prop:=∃p q r,v=.ref p/\H p=Vo (.tup [.int b,.int s,.ref q,.ref r])/\H q=Vo (.tup (o.map V.int))/\H r=Vo (.tup (a.map V.int))
structure Gd(b s:Int)(o a:List Int):Prop where
 ok:Ok b s o a
 b3:b<=3000
 s8:s<=840
def bX.ext{H H':Hp}{v:V}{b s:Int}{o a:List Int}(e:Ext H H')(h:bX H v b s o a):bX H' v b s o a:=by obtain⟨p,q,r,rfl,h1,h2,c⟩:=h;exact⟨p,q,r,rfl,e _ _ h1,e _ _ h2,e _ _ c⟩
def pF{lo hi x:Int}{r:List Int}:fS lo hi (x::r)↔lo<=x/\x<hi/\fS (x+1) hi r:=by
 constructor
 .rintro⟨h1,h2⟩;obtain⟨d,p2⟩:=List.pairwise_cons.mp h1;have b:=h2 x Dn;exact⟨b.1,b.2,p2,λz a=>⟨by have:=d z a;omega,(h2 z (Dk _ a)).2⟩⟩
 .rintro⟨h1,h2,e,c⟩;refine⟨List.pairwise_cons.mpr ⟨λz a=>by have:=c z a;omega,e⟩,λz a=>?_⟩;rcases Dw.mp a with rfl|a
  .exact⟨h1,h2⟩
  .have:=c z a;exact⟨by omega,this.2⟩
theorem ip{hi:Int}:∀{lo:Int} {xs:List Int},cQ lo hi (xs.map V.int)=true↔fS lo hi xs
 | lo,[]=>⟨λ_=>⟨List.Pairwise.nil,λx a=>by simp at a⟩,λ_=>rfl⟩
 | lo,x::r=>by rw[pF,<-ip (lo:=x+1) (xs:=r)];show(decide (lo<=x) && decide (x<hi) && cQ (x+1) hi (r.map V.int))=true↔_;simp[and_assoc]
def bX.yes{H:Hp}{v:V}{b s:Int}{o a:List Int}(h:bX H v b s o a)(k:Ok b s o a):cX H v=true:=by obtain⟨p,q,r,rfl,h1,h2,c⟩:=h;rw[jd h1];show(decide (0<=b) && decide (1<=s) && bW H 0 b (.ref q) && bW H b (b+s) (.ref r))=true;rw[eD h2,eD c,ip.mpr k.ho,ip.mpr k.ha,Ef k.hb,Ef k.hs];rfl
def ub{H:Hp}{q:Vb}{xs:List Int}(h:H q=Vo (.tup (xs.map V.int))):Kn H 1 (.ref q):=by refine⟨⟨"tuple",.inr ⟨rfl,_,h⟩⟩,λp ys e z x a=>?_⟩;cases e;rw[h]at z;cases z;obtain⟨i,_,rfl⟩:=List.mem_map.mp a;exact⟨"int",rfl⟩
def bX.kn{H:Hp}{v:V}{b s:Int}{o a:List Int}(h:bX H v b s o a):Kn H 2 v:=by
 obtain⟨p,q,r,rfl,h1,h2,d⟩:=h;refine⟨⟨"tuple",.inr ⟨rfl,_,h1⟩⟩,λf ys e z x c=>?_⟩;cases e;rw[h1]at z;cases z;simp only[Dw,DN,or_false]at c;rcases c with rfl|rfl|rfl|rfl
 .exact⟨⟨"int",rfl⟩,λ_ _ e=>nomatch e⟩
 .exact⟨⟨"int",rfl⟩,λ_ _ e=>nomatch e⟩
 .exact ub h2
 .exact ub d
def se:List V->List Key
 | [.int a,.str b,.int c,.str d]=>[.inl a,.inr b,.inl c,.inr d]
 | _=>[]
def eo(H:Hp):V->List Key
 | .ref p=>match H p with
  | some (.tup xs)=>se xs
  | _=>[]
 | _=>[]
def uj{H:Hp}{p:Vb}{xs:List V}(h:H p=Vo (.tup xs)):eo H (.ref p)=se xs:=by unfold eo;dsimp only;rw[h]
def pj{H:Hp}{m:Int}{v:V}(h:bz H m v=true):∃p a b c d,v=.ref p/\H p=Vo (.tup [.int a,.str b,.int c,.str d])/\(0<=a/\a<m)/\(0<=c/\c<m)/\dY (.str b)=true/\dI (.str d)=true:=by
 cases e:isTup H v with
 | false=>rw[lj e]at h;cases h
 | true=>
  obtain⟨p,xs,rfl,f⟩:=gH e;rw[iE f]at h;by_cases g:xs.length=4
  .obtain⟨a,b,c,d,rfl⟩:=four g;unfold eI at h;simp only[DQ]at h;obtain⟨h1,h2,k,l⟩:=h;cases a with
   | int i=>
    cases c with
    | int j=>
     cases b with
     | str y=>
      cases d with
      | str z=>
       unfold bR at h1 h2;simp only[DQ,decide_eq_true_eq]at h1 h2;exact⟨p,i,y,j,z,rfl,f,h1,h2,k,l⟩
      | _=>cases l
     | _=>cases k
    | _=>cases h2
   | _=>cases h1
  .rw[mU g]at h;cases h
theorem nc{H:Hp}{m:Int}:∀{xs:List V},xs.all (bz H m)=true->∃bs:List Vb,xs=bs.map V.ref/\iR H bs (xs.map (eo H))
 | [],_=>⟨[],rfl,rfl,λj b k e=>by simp at e⟩
 | x::xs,h=>by
  rw[List.all_cons,DQ]at h;obtain⟨bs,e,h1,h2⟩:=nc h.2;obtain⟨p,a,b,c,d,rfl,g,_⟩:=pj h.1;refine⟨p::bs,by rw[List.map_cons,<-e],by rw[DJ,List.map_cons,DJ,h1],λj l k i f=>?_⟩;cases j with
  | zero=>
   cases i;rw[List.map_cons,uj g]at f;cases f;exact g
  | succ j=>exact h2 j l k i f
def o6{H H':Hp}{m:Int}{n:Nat}{v:V}(e:Ext H H')(h:bx H n v):bz H' m v=bz H m v:=by
 cases v with
 | ref p=>
  cases n with
  | zero=>exact h.elim
  | succ n=>
   obtain⟨xs,h1,_⟩:=h;unfold bz;dsimp only;rcases h1 with h1|h1<;>rw[h1,e _ _ h1]
 | _=>rfl
def dP(H:Hp)(m:Int)(xs:List V):Bool:=decide (xs.length<=100) && (xs.all (bz H m) && decide (xs.map (eo H)).Nodup)
def gC(H:Hp)(m:Int):V->Bool
 | .ref p=>match H p with
  | some (.tup xs)=>dP H m xs
  | _=>false
 | _=>false
def uB{H:Hp}{m:Int}{v:V}(h:isTup H v=false):gC H m v=false:=by
 cases v with
 | ref p=>
  unfold isTup at h;unfold gC;dsimp only at h ⊢;split
  .rename_i xs e;rw[e]at h;cases h
  .rfl
 | _=>rfl
def iO{H:Hp}{m:Int}{p:Vb}{xs:List V}(h:H p=Vo (.tup xs)):gC H m (.ref p)=dP H m xs:=by unfold gC;dsimp only;rw[h]
open Classical in
theorem gF{α:Type}:∀{D l:List α},D.Nodup->(∀k∈D,k∈l)->D.length<=l.length
 | [],l,_,_=>Nat.zero_le _
 | d::D,l,e,hs=>by have a:=List.nodup_cons.mp e;have b:=hs d Dn;have:=gF (D:=D) (l:=l.erase d) a.2 λk c=>(List.mem_erase_of_ne (by rintro rfl;exact a.1 c)).mpr (hs k (Dk _ c));rw[List.length_erase_of_mem b]at this;have f:0<l.length:=List.length_pos_of_mem b;rw[DJ];omega
theorem nodup_iff{α:Type}{D l:List α}(b:D.Nodup)(c:∀k,k∈D↔k∈l):D.length=l.length↔l.Nodup:=by
 constructor
 .intro e;exact(sr b (λk a=>(c k).mp a) e.symm).nodup_iff.mpr b
 .intro d;have h1:=gF b λk a=>(c k).mp a;have h2:=gF d λk a=>(c k).mpr a;omega
def pS(K:Dd):Sp:=λvs H Q _=>∃v m,vs=[v,.int m]/\bx H 3 v/\∀H',Ext H H'->Q (.bl (gC H m v)) H'
abbrev oX:Vl:=stq 26
def uN:FnScope ["thing","many"] ["thing","many"] (aK oX):=⟨rfl,rfl,rfl,by decide +kernel,rfl,by decide +kernel,by decide +kernel⟩
def Cm{P:Vd}{w:Ve}{K:Dd}{mg:Vn->Option Va}{base:Vh}(D:Dfn K mg "are_ways" oX ["thing","many"])(T:Blt mg)(a:∃t,mg "GREATEST_WAYS" = Vo (.int 100 t))(c:Cal P w K mg base "is_way" 3 ["thing","many"] (rG K)):Cal P w K mg base "are_ways" 4 ["thing","many"] (pS K):=by
 have nd:=(uN).nd;refine D.ok uN (λvs H Q E h=>?_) (λX W H vs Q E h=>?_)
 .obtain⟨p,m,rfl,_⟩:=h;rfl
 .obtain⟨f,cdv,A,outer,s,H0,E0,rfl,M⟩:=W;obtain⟨d,b⟩:=a;obtain⟨v,m,rfl,N,q⟩:=h;obtain⟨n,y⟩:=N.kind;refine⟨_,(ak (aT (PW.pt (bj (bt (br (aF cw rfl T.isinstance_ PyProof.Rows.boot_isinstance (ae (pv 0) (ae (cq (v:=.ty "tuple") rfl T.tuple_ PyProof.Rows.boot_tuple rfl) af))))) (bQ (aD ed (aF (cc K) rfl T.len_ PySem.boot_len (ae (pv 0) af)) (cP (v:=.int 100) rfl b ⟨_,rfl⟩) (aA _))))) (au (ax bJ)) aO)
    (au (ax (cM (aF (gr K rfl) rfl T.all_ PyProof.Rows.boot_all (ae (dm ["way"] [1] (fK K (pv 0)) (λ_=>(aV (i:=0) (show(["way","many"]:List Vn).Nodup from by decide +kernel) rfl (Or.inl rfl) (Or.inr rfl))) (λ_=>cy) (λ_=>(aC c M (ae (pv 0) (ae (pv 1) af))))) af)) (dg (dD b6 (aF si rfl T.len_ PySem.boot_len (ae (bT (tY M) rfl T.set_ PyProof.Rows.boot_set (ae (pv 0) af)) af)) (aF (cc K) rfl T.len_ PySem.boot_len (ae (pv 0) af)) (aA _))))))),?_⟩
  walk_at"";refine bY y (gP y) ?_;walk_at"";cases O:isTup H v with
  | false=>
   refine ao ?_;walk_at"";rw[uB O]at q;exact q H λ_ _ z=>z
  | true=>
   refine av ?_;obtain⟨p,xs,rfl,j⟩:=gH O;obtain⟨C,F⟩:=N.items j;rw[iO j]at q;unfold dP at q;walk_at"";refine eM (ar.of j) ?_;walk_at"";by_cases R:xs.length<=100
   .rw[Ee (show ¬((100:Int)<((xs.length:Nat):Int)) by omega)];rw[Ef R,Bool.true_and]at q;refine av ?_;walk_at"";refine fV (ar.of j) ?_;refine iH (xs:=xs) (λi ys H'=>Ext H H'/\ys=((xs.take i).map (bz H m)).map V.bl) (ie C) ⟨λ_ _ z=>z,rfl⟩ (λi ys H' hi h=>⟨ar.of (h.1 _ _ j),by rw[h.2,Dh,Dh,Ea];omega⟩) ?_ ?_
    .rintro i x ys H' S ⟨e,rfl⟩;have o:=F x (Ds S);walk_at"";refine ao ?_;walk_at"";refine⟨x,m,rfl,o.ext e,e,?_⟩;rw[o6 e o,List.take_add_one,S];simp
    .rintro ys H' pl ⟨e,rfl⟩ G;rw[DK];walk_at"";have r:Ext H (upd H' pl (.lst ((xs.map (bz H m)).map V.bl))):=e.trans (bu G);refine⟨pl,xs.map (bz H m),rfl,ah.of bg,?_⟩;have Y:(xs.map (bz H m)).all id=xs.all (bz H m):=by rw[List.all_map];rfl
     rw[Y];walk_at"";cases hall:xs.all (bz H m)with
     | false=>
      refine av ?_;rw[hall,Bool.false_and]at q;exact q _ r
     | true=>
      refine ao ?_;rw[hall,Bool.true_and]at q;obtain⟨bs,I,J⟩:=nc hall;generalize upd H' pl (.lst ((xs.map (bz H m)).map V.bl))=H2 at r ⊢;walk_at"";refine⟨p,bs,xs.map (eo H),rfl,.inl (by rw[<-I];exact r _ _ j),J.ext r,by rw[Dh];omega,λl L Z u hmem hL=>?_⟩;have a0:L.length<=xs.length:=by
       have:=gF u λk y=>(hmem k).mp y
       rwa [Dh,Dh]at this
      walk_at"";refine⟨l,L,rfl,bg,by omega,?_⟩;walk_at"";have U:Ext H (upd H2 l (i5 P w l L)):=r.trans (bu Z);refine eM (ar.of (U _ _ j)) ?_;walk_at"";have g:=nodup_iff u hmem;rw[Dh,Dh]at g;have eb:decide ((((L.length:Nat):Int))=((xs.length:Nat):Int))=decide ((xs.map (eo H)).Nodup):=by
       by_cases B:(xs.map (eo H)).Nodup
       .rw[Ef (show((L.length:Nat):Int)=((xs.length:Nat):Int) by have:=g.mpr B;omega)];exact(Ef B).symm
       .rw[Ee (show ¬((L.length:Nat):Int)=((xs.length:Nat):Int)from λz=>B (g.mp (by omega)))];exact(Ee B).symm
      rw[eb];exact q _ U
   .rw[Ef (show((100:Int)<((xs.length:Nat):Int)) by omega)];rw[Ee R,Bool.false_and]at q;refine ao ?_;walk_at"";exact q H λ_ _ z=>z
def eO(H:Hp):List V->Bool
 | [.int m,q]=>decide (1<=m) && (decide (m<=12) && gC H m q)
 | _=>false
def dG(H:Hp):V->Bool
 | .ref p=>match H p with
  | some (.tup xs)=>eO H xs
  | _=>false
 | _=>false
def qg{H:Hp}{v:V}(h:isTup H v=false):dG H v=false:=by
 cases v with
 | ref p=>
  unfold isTup at h;unfold dG;dsimp only at h ⊢;split
  .rename_i xs e;rw[e]at h;cases h
  .rfl
 | _=>rfl
def iN{H:Hp}{p:Vb}{xs:List V}(h:H p=Vo (.tup xs)):dG H (.ref p)=eO H xs:=by unfold dG;dsimp only;rw[h]
def wj{H:Hp}{xs:List V}(h:xs.length≠2):eO H xs=false:=by
 unfold eO;split
 .exact absurd rfl h
 .rfl
def lh{H:Hp}{a b:V}(h:isInt a=false):eO H [a,b]=false:=by cases a<;>first|rfl|cases h
def sZ{xs:List V}(h:xs.length=2):∃a b,xs=[a,b]:=by
 match xs,h with
 | [a,b],_=>exact⟨a,b,rfl⟩
def wg(K:Dd):Sp:=λvs H Q _=>∃v,vs=[v]/\bx H 4 v/\∀H',Ext H H'->Q (.bl (dG H v)) H'
abbrev lE:Vl:=stq 27
def qd:FnScope ["thing"] ["thing"] (aK lE):=⟨rfl,rfl,rfl,by decide +kernel,rfl,by decide +kernel,by decide +kernel⟩
def xF{P:Vd}{w:Ve}{K:Dd}{mg:Vn->Option Va}{base:Vh}(D:Dfn K mg "is_house" lE ["thing"])(T:Blt mg)(c:∃t,mg "GREATEST_MANY" = Vo (.int 12 t))(e:Cal P w K mg base "are_ways" 4 ["thing","many"] (pS K))(g:Cal P w K mg base "is_whole" 1 ["thing"] (iQ K)):Cal P w K mg base "is_house" 5 ["thing"] (wg K):=by
 have nd:=(qd).nd;refine D.ok qd (λvs H Q E h=>?_) (λX B H vs Q E h=>?_)
 .obtain⟨p,rfl,_⟩:=h;rfl
 .obtain⟨f,cdv,A,outer,s,H0,E0,rfl,o⟩:=B;obtain⟨i,d⟩:=c;obtain⟨v,rfl,r,q⟩:=h;obtain⟨n,u⟩:=r.kind;refine⟨_,(ak (aT (PW.pt (bj (bt (br (aF cw rfl T.isinstance_ PyProof.Rows.boot_isinstance (ae (pv 0) (ae (cq (v:=.ty "tuple") rfl T.tuple_ PyProof.Rows.boot_tuple rfl) af))))) (bQ (aD cn (aF (cc K) rfl T.len_ PySem.boot_len (ae (pv 0) af)) ag (aA _))))) (au (ax bJ)) aO)
    (au (ax (cM (aC g o (ae (aq (aW K) (pv 0) ag (λ_ _=>rfl)) af)) (cM (km ju ju ag (aq (aW K) (pv 0) ag (λ_ _=>rfl)) (cP (v:=.int 12) rfl d ⟨_,rfl⟩)) (dg (aC e o (ae (aq (aW K) (pv 0) ag (λ_ _=>rfl)) (ae (aq (aW K) (pv 0) ag (λ_ _=>rfl)) af))))))))),?_⟩
  walk_at"";refine bY u (gP u) ?_;walk_at"";cases x:isTup H v with
  | false=>
   refine ao ?_;walk_at"";rw[qg x]at q;exact q H λ_ _ z=>z
  | true=>
   refine av ?_;obtain⟨p,xs,rfl,j⟩:=gH x;obtain⟨C,k⟩:=r.items j;rw[iN j]at q;walk_at"";refine eM (ar.of j) ?_;walk_at"";by_cases y:xs.length=2
   .obtain⟨a,b,rfl⟩:=sZ y;have ta:=k a (by simp);have tb:=k b (by simp);obtain⟨F,l⟩:=ta.kind;refine av ?_;walk_at"";refine aX (ar.of j) (v:=a) rfl ?_;walk_at"";refine⟨a,F,rfl,l,?_⟩;refine rd_exb ?_;cases ha:isInt a with
    | false=>
     refine av ?_;rw[lh ha]at q;exact q H λ_ _ z=>z
    | true=>
     obtain⟨m,rfl⟩:=dN ha;refine ao ?_;unfold eO at q;dsimp only at q;walk_at"";refine aX (ar.of j) (v:=.int m) rfl ?_;walk_at"";cases h1:decide (1<=m)with
     | false=>
      refine av ?_;walk_at"";refine av ?_;rw[h1]at q;exact q H λ_ _ z=>z
     | true=>
      refine ao ?_;walk_at"";rw[h1,Bool.true_and]at q;cases h2:decide (m<=12)with
      | false=>
       refine av ?_;rw[h2]at q;exact q H λ_ _ z=>z
      | true=>
       refine ao ?_;walk_at"";refine aX (ar.of j) (v:=b) rfl ?_;walk_at"";refine aX (ar.of j) (v:=.int m) rfl ?_;walk_at"";rw[h2,Bool.true_and]at q;exact⟨b,m,rfl,tb,q⟩
   .rw[wj y]at q;rw[Ee (show ¬((xs.length:Nat):Int)=2 by omega)];refine ao ?_;walk_at"";exact q H λ_ _ z=>z
def jK(K:Dd):Sp:=λvs H Q _=>∃v n,vs=[v]/\cp H v n/\Q (.bl (isInt v)) H
abbrev lT:Vl:=stq 48
def qc:FnScope ["_law_found"] ["_law_found"] (aK lT):=⟨rfl,rfl,rfl,by decide +kernel,rfl,by decide +kernel,by decide +kernel⟩
def Ai{P:Vd}{w:Ve}{K:Dd}{mg:Vn->Option Va}{base:Vh}(D:Dfn K mg "_law_whole" lT ["_law_found"])(T:Blt mg):Cal P w K mg base "_law_whole" 1 ["_law_found"] (jK K):=by
 have nd:=(qc).nd;refine D.ok qc (λvs H Q E h=>?_) (λX d H vs Q E h=>?_)
 .obtain⟨v,n,rfl,_⟩:=h;rfl
 .obtain⟨f,cdv,A,outer,s,H0,E0,rfl,i⟩:=d;obtain⟨v,n,rfl,a,q⟩:=h;obtain⟨b,c,hb,g,e⟩:=qz a;refine⟨_,(au (ax (cM (aF cw rfl T.isinstance_ PyProof.Rows.boot_isinstance (ae (pv 0) (ae (cq (v:=.ty "int") rfl T.int_ PyProof.Rows.boot_int rfl) af))) (dg (oY (aF cw rfl T.isinstance_ PyProof.Rows.boot_isinstance (ae (pv 0) (ae (cq (v:=.ty "bool") rfl T.bool_ PyProof.Rows.boot_bool rfl) af)))))))),?_⟩;walk_at"";refine bY a hb ?_;walk_at"";cases b with
  | false=>refine av ?_;rw[<-e]at q;exact q
  | true=>
   refine ao ?_;walk_at"";refine bY a g ?_;walk_at"";rw[<-e]at q;exact q
def yO(z:Vn):jq (.str z) [.str (DR "up"),.str (DR "down"),.str (DR "stay"),.str (DR "zero")]=dY (.str z):=by
 unfold jq dY gn;dsimp only;by_cases h1:DR "up" = z
 .subst h1;decide +kernel
 .by_cases h2:DR "down" = z
  .subst h2;decide +kernel
  .by_cases a:DR "stay" = z
   .subst a;decide +kernel
   .by_cases b:DR "zero" = z
    .subst b;decide +kernel
    .have k1:¬((Sum.inr (DR "up"),V.str (DR "down")):Key×V).1=Sum.inr z:=λe=>h1 (Sum.inr.inj e);have k2:¬((Sum.inr (DR "down"),V.str (DR "up")):Key×V).1=Sum.inr z:=λe=>h2 (Sum.inr.inj e);have k3:¬((Sum.inr (DR "stay"),V.str (DR "stay")):Key×V).1=Sum.inr z:=λe=>a (Sum.inr.inj e);have k4:¬((Sum.inr (DR "zero"),V.str (DR "zero")):Key×V).1=Sum.inr z:=λe=>b (Sum.inr.inj e);rw[jb k1,jb k2,jb k3,jb k4,AZ];simp only[List.any_cons,List.any_nil,eY,Bool.or_false];simp[h1,h2,a,b]
def yJ:(DR "abcdefghijklmnopqrstuvwxyz").cps.toList=List.range' 97 26:=by decide +kernel
def BM(c:Nat):(!(Builtin.Str.occurrences (DR "abcdefghijklmnopqrstuvwxyz") ⟨#[c]⟩ 0 (DR "abcdefghijklmnopqrstuvwxyz").length 1).isEmpty)=fQ ⟨#[c]⟩:=by
 rw[PySem.StrLaws.found_one,yJ];unfold fQ;have a:(DR "a").cps.toList=[97]:=by decide +kernel
 have b:(DR "z").cps.toList=[122]:=by decide +kernel
 rw[a,b];have d:decide (([c]:List Nat) < [97])=decide (c<97):=by apply decide_eq_decide.mpr;rw[List.cons_lt_cons_iff];simp
 have e:decide (([122]:List Nat) < [c])=decide (122<c):=by apply decide_eq_decide.mpr;rw[List.cons_lt_cons_iff];simp
 show decide (c∈List.range' 97 26)=(!decide (([c]:List Nat) < [97]) && !decide (([122]:List Nat) < [c]));rw[d,e];have f:c∈List.range' 97 26↔(97<=c/\c<=122):=by rw[List.mem_range'_1];omega
 rw[show decide (c∈List.range' 97 26)=decide (97<=c/\c<=122)from decide_eq_decide.mpr f];by_cases h1:c<97
 .rw[Ef h1,Ee (by omega)];rfl
 .by_cases h2:122<c
  .rw[Ef h2,Ee h1,Ee (by omega)];rfl
  .rw[Ee h2,Ee h1,Ef (by omega)];rfl
def one_sign{z:Vn}(h:z.length=1):∃c,z=⟨#[c]⟩:=by
 obtain⟨cps⟩:=z;have h':cps.size=1:=h;obtain⟨l⟩:=cps
 match l,h' with
 | [c],_=>exact⟨c,rfl⟩
def uK{H H':Hp}{v:V}{n:String}(e:Ext H H')(h:cp H v n):cp H' v n:=by
 cases v with
 | ref a=>
  rcases h with⟨h1,xs,h2⟩|⟨h1,xs,h2⟩
  .exact .inl ⟨h1,xs,e _ _ h2⟩
  .exact .inr ⟨h1,xs,e _ _ h2⟩
 | _=>exact h
def zE{H:Hp}{m:Int}{xs:List V}{x:V}(a:x∈xs)(h:bz H m x=false):dP H m xs=false:=by
 unfold dP;have:xs.all (bz H m)=false:=by rw[List.all_eq_false];exact⟨x,a,by rw[h];exact Dy⟩
 rw[this,Bool.false_and,Bool.and_false]
def vG{m i:Int}(h:i<0):bR m (.int i)=false:=by unfold bR;dsimp only;rw[Ee (show ¬0<=i by omega)];rfl
def uM{m i:Int}(h:m<=i):bR m (.int i)=false:=by unfold bR;dsimp only;rw[Ee (show ¬i<m by omega)];exact Bool.and_false _
def kh{m i:Int}(h:0<=i)(h':i<m):bR m (.int i)=true:=by unfold bR;dsimp only;rw[Ef h,Ef h'];rfl
def eW{m:Int}{a b c d:V}(h:bR m a=false\/bR m c=false\/dY b=false\/dI d=false):eI m [a,b,c,d]=false:=by unfold eI;dsimp only;rcases h with h|h|h|h<;>rw[h]<;>simp
def mP(K:Dd):Sp:=λvs H Q _=>∃v,vs=[v]/\bx H 4 v/\∀H',Ext H H'->Q (.bl (dG H v)) H'
abbrev oq:Vl:=stq 51
def vp:FnScope ["_law_thing","_law_many","_law_ways","_law_way"] ["_law_thing"] (aK oq):=⟨rfl,rfl,rfl,by decide +kernel,rfl,by decide +kernel,by decide +kernel⟩
def yl{P:Vd}{w:Ve}{K:Dd}{mg:Vn->Option Va}{base:Vh}(D:Dfn K mg "_law_is_house" oq ["_law_thing"])(T:Blt mg)(g:Cal P w K mg base "_law_whole" 1 ["_law_found"] (jK K)):Cal P w K mg base "_law_is_house" 2 ["_law_thing"] (mP K):=by
 have nd:=(vp).nd;refine D.ok vp (λvs H Q E h=>?_) (λX hX H vs Q E h=>?_)
 .obtain⟨p,rfl,_⟩:=h;rfl
 .obtain⟨f,cdv,A,outer,s,H0,E0,rfl,hr⟩:=hX;obtain⟨v,rfl,ht,q⟩:=h;obtain⟨n,hk⟩:=ht.kind;refine⟨_,(ak (aT (PW.pt (bj (bt (br (aF cw rfl T.isinstance_ PyProof.Rows.boot_isinstance (ae (pv 0) (ae (cq (v:=.ty "tuple") rfl T.tuple_ PyProof.Rows.boot_tuple rfl) af))))) (bj (aD cn (aF (cc K) rfl T.len_ PySem.boot_len (ae (pv 0) af)) ag (aA _)) (bj (bt (br (aC g hr (ae (aq (aW K) (pv 0) ag (λ_ _=>rfl)) af)))) (bQ (bt (br (aF cw rfl T.isinstance_ PyProof.Rows.boot_isinstance (ae (aq (aW K) (pv 0) ag (λ_ _=>rfl)) (ae (cq (v:=.ty "tuple") rfl T.tuple_ PyProof.Rows.boot_tuple rfl) af)))))))))) (au (ax bJ)) aO)
    (ak (nF (pv 0) (jE (n:=2) K rfl (cZ (aV (i:=1) nd rfl (Or.inl rfl)) (cZ (aV (i:=2) nd rfl (Or.inl rfl)) iL))))
    (ak (aT (PW.pt (bj (aD cW (pv 1) ag (aA _)) (bj (aD ed (pv 1) ag (aA _)) (bQ (aD ed (aF (cc K) rfl T.len_ PySem.boot_len (ae (pv 2) af)) ag (aA _)))))) (au (ax bJ)) aO)
    (ak (dO PassesOwn.never rfl (fK K (pv 2)) (aV (i:=3) nd rfl (Or.inl rfl)) (ak (aT (PW.pt (bj (bt (br (aF cw rfl T.isinstance_ PyProof.Rows.boot_isinstance (ae (pv 3) (ae (cq (v:=.ty "tuple") rfl T.tuple_ PyProof.Rows.boot_tuple rfl) af))))) (bj (aD cn (aF (cc K) rfl T.len_ PySem.boot_len (ae (pv 3) af)) ag (aA _)) (bj (bt (br (aC g hr (ae (aq (aW K) (pv 3) ag (λ_ _=>rfl)) af)))) (bQ (bt (br (aC g hr (ae (aq (aW K) (pv 3) ag (λ_ _=>rfl)) af))))))))) (au (ax bJ)) aO)
    (ak (aT (PW.pt (bj (aD cW (aF (lY rfl) rfl T.min_ PyProof.Rows.boot_min (ae (aq (aW K) (pv 3) ag (λ_ _=>rfl)) (ae (aq (aW K) (pv 3) ag (λ_ _=>rfl)) af))) ag (aA _)) (bj (aD jU (aF (qC rfl) rfl T.max_ PyProof.Rows.boot_max (ae (aq (aW K) (pv 3) ag (λ_ _=>rfl)) (ae (aq (aW K) (pv 3) ag (λ_ _=>rfl)) af))) (pv 1) (aA _)) (bQ (bt (br (aF cw rfl T.isinstance_ PyProof.Rows.boot_isinstance (ae (aq (aW K) (pv 3) ag (λ_ _=>rfl)) (ae (cq (v:=.ty "str") rfl T.str_ PyProof.Rows.boot_str rfl) af))))))))) (au (ax bJ)) aO)
    (ak (aT (PW.pt (bj (aD (wu K) (aq (aW K) (pv 3) ag (λ_ _=>rfl)) (bA (ae ai (ae ai (ae ai (ae ai af))))) (by with_unfolding_all rfl)) (bQ (bt (br (aF cw rfl T.isinstance_ PyProof.Rows.boot_isinstance (ae (aq (aW K) (pv 3) ag (λ_ _=>rfl)) (ae (cq (v:=.ty "str") rfl T.str_ PyProof.Rows.boot_str rfl) af)))))))) (au (ax bJ)) aO)
    (au (aT (PW.pt (bj (aD cn (aF fJ rfl T.len_ PySem.boot_len (ae (aq (aW K) (pv 3) ag (λ_ _=>rfl)) af)) ag (aA _)) (bQ (aD zJ (aq (aW K) (pv 3) ag (λ_ _=>rfl)) ai (by with_unfolding_all rfl))))) (au (ax bJ)) aO))))))
    (au (ax (dD b6 (aF si rfl T.len_ PySem.boot_len (ae (bT (tY hr) rfl T.set_ PyProof.Rows.boot_set (ae (pv 2) af)) af)) (aF (cc K) rfl T.len_ PySem.boot_len (ae (pv 2) af)) (aA _)))))))),?_⟩
  walk_at"";refine bY hk (gP hk) ?_;walk_at"";cases hv:isTup H v with
  | false=>
   refine ao ?_;walk_at"";rw[qg hv]at q;exact q H λ_ _ z=>z
  | true=>
   refine av ?_;obtain⟨p,xs,rfl,O⟩:=gH hv;obtain⟨a8,R⟩:=ht.items O;rw[iN O]at q;walk_at"";refine eM (ar.of O) ?_;walk_at"";by_cases h4:xs.length=2
   .obtain⟨a,b,rfl⟩:=sZ h4;have ta:=R a (by simp);have tb:=R b (by simp);obtain⟨ka,M⟩:=ta.kind;obtain⟨kb,t⟩:=tb.kind;refine av ?_;walk_at"";refine aX (ar.of O) (v:=a) rfl ?_;walk_at"";refine⟨a,ka,rfl,M,?_⟩;walk_at"";cases ha:isInt a with
    | false=>
     refine ao ?_;walk_at"";rw[lh ha]at q;exact q H λ_ _ z=>z
    | true=>
     obtain⟨m,rfl⟩:=dN ha;refine av ?_;walk_at"";refine aX (ar.of O) (v:=b) rfl ?_;walk_at"";refine bY t (gP t) ?_;walk_at"";unfold eO at q;dsimp only at q;cases hb:isTup H b with
     | false=>
      refine ao ?_;walk_at"";rw[uB hb,Bool.and_false,Bool.and_false]at q;exact q H λ_ _ z=>z
     | true=>
      refine av ?_;obtain⟨r,ws,rfl,o⟩:=gH hb;obtain⟨a9,a4⟩:=tb.items o;rw[iO o]at q;walk_at"";refine kr (ar.of O) rfl ?_;walk_at"";by_cases m1:1<=m
      .rw[Ee (show ¬m<1 by omega)];rw[Ef m1,Bool.true_and]at q;refine av ?_;walk_at"";by_cases m2:m<=12
       .rw[Ee (show ¬12<m by omega)];rw[Ef m2,Bool.true_and]at q;refine av ?_;walk_at"";refine eM (ar.of o) ?_;walk_at"";by_cases m3:ws.length<=100
        .rw[Ee (show ¬((100:Int)<((ws.length:Nat):Int)) by omega)];refine av ?_;walk_at"";refine fV (ar.of o) ?_;refine qo (xs:=ws) (λi σ H'=>Ext H H'/\(∃x,σ=[Vo (.ref p),Vo (.int m),Vo (.ref r),x])/\∀x∈ws.take i,bz H m x=true) ⟨λ_ _ z=>z,⟨_,rfl⟩,λx hx=>by simp at hx⟩ (λi σ H' _ h=>ar.of (h.1 _ _ o)) ?_ ?_
         .rintro i x σ H' hx ⟨e,⟨x0,rfl⟩,B⟩;have S:=Ds hx;have N:=a4 x S;have bad:bz H m x=false->dP H m ws=false:=zE S;have C:∃k,cp H' x k:=(N.ext e).kind;obtain⟨kx,C⟩:=C;have et:isTup H' x=isTup H x:=by
           cases x with
           | ref p'=>
            obtain⟨ys,h1,_⟩:=N;unfold isTup;dsimp only;rcases h1 with h1|h1<;>rw[h1,e _ _ h1]
           | _=>rfl
          walk_at"";refine bY C (gP C) ?_;rw[et];walk_at"";cases U:isTup H x with
          | false=>
           refine ao ?_;walk_at"";rw[bad (lj U)]at q;exact q _ e
          | true=>
           refine av ?_;obtain⟨u,us,rfl,hu⟩:=gH U;obtain⟨aa,F⟩:=N.items hu;have j:=e _ _ hu;walk_at"";refine eM (ar.of j) ?_;walk_at"";rw[iE hu]at bad;by_cases u4:us.length=4
           .obtain⟨a,b,c,d,rfl⟩:=four u4;have ta:=(F a (by simp)).ext e;have tb:=(F b (by simp)).ext e;have tc:=(F c (by simp)).ext e;have td:=(F d (by simp)).ext e;obtain⟨ka,M⟩:=ta.kind;obtain⟨kb,t⟩:=tb.kind;obtain⟨kc,a5⟩:=tc.kind;obtain⟨kd,W⟩:=td.kind;refine av ?_;walk_at"";refine aX (ar.of j) (v:=a) rfl ?_;walk_at"";refine⟨a,ka,rfl,M,?_⟩;walk_at"";cases ia:isInt a with
            | false=>
             refine ao ?_;walk_at"";rw[bad (eW (.inl (ji ia)))]at q;exact q _ e
            | true=>
            obtain⟨i1,rfl⟩:=dN ia;refine av ?_;walk_at"";refine aX (ar.of j) (v:=c) rfl ?_;walk_at"";refine⟨c,kc,rfl,a5,?_⟩;walk_at"";cases ic:isInt c with
            | false=>
             refine ao ?_;walk_at"";rw[bad (eW (.inr (.inl (ji ic))))]at q;exact q _ e
            | true=>
            obtain⟨i2,rfl⟩:=dN ic;refine av ?_;walk_at"";refine aX (ar.of j) (v:=.int i1) rfl ?_;walk_at"";refine aX (ar.of j) (v:=.int i2) rfl ?_;walk_at"";by_cases G:(if i2<i1 then i2 else i1)<0
            .rw[Ef G];refine ao ?_;walk_at"";have:bR m (.int i1)=false\/bR m (.int i2)=false:=by
              by_cases Y:i2<i1
              .rw[Eh Y]at G;exact .inr (vG G)
              .rw[Eg Y]at G;exact .inl (vG G)
             rw[bad (eW (this.imp id .inl))]at q;exact q _ e
            rw[Ee G];refine av ?_;walk_at"";refine aX (ar.of j) (v:=.int i1) rfl ?_;walk_at"";refine aX (ar.of j) (v:=.int i2) rfl ?_;walk_at"";by_cases I:m<=(if i2>i1 then i2 else i1)
            .rw[Ef I];refine ao ?_;walk_at"";have:bR m (.int i1)=false\/bR m (.int i2)=false:=by
              by_cases Y:i2>i1
              .rw[Eh Y]at I;exact .inr (uM I)
              .rw[Eg Y]at I;exact .inl (uM I)
             rw[bad (eW (this.imp id .inl))]at q;exact q _ e
            rw[Ee I];have r1:bR m (.int i1)=true:=kh (by split at G<;>omega) (by split at I<;>omega);have r2:bR m (.int i2)=true:=kh (by split at G<;>omega) (by split at I<;>omega);clear G I;refine av ?_;walk_at"";refine aX (ar.of j) (v:=b) rfl ?_;walk_at"";refine bY t (jV t) ?_;walk_at"";cases ib:isStr b with
            | false=>
             refine ao ?_;walk_at"";rw[bad (eW (.inr (.inr (.inl (vP ib)))))]at q;exact q _ e
            | true=>
            obtain⟨z1,rfl⟩:=isStr_of ib;refine av ?_;walk_at"";refine aX (ar.of j) (v:=.str z1) rfl ?_;walk_at"";refine aH λdp H2 Z a6 _=>?_;have y:=e.trans Z;walk_at"";refine⟨dp,_,rfl,.inr (ar.of a6),rfl,rfl,?_⟩;walk_at"";rw[yO];cases dz:dY (.str z1)with
            | false=>
             refine ao ?_;walk_at"";rw[bad (eW (.inr (.inr (.inl dz))))]at q;exact q _ y
            | true=>
            refine av ?_;walk_at"";refine aX (ar.of (Z _ _ j)) (v:=d) rfl ?_;walk_at"";refine bY (uK Z W) (jV W) ?_;walk_at"";cases a0:isStr d with
            | false=>
             refine ao ?_;walk_at"";rw[bad (eW (.inr (.inr (.inr (tR a0)))))]at q;exact q _ y
            | true=>
            obtain⟨z2,rfl⟩:=isStr_of a0;refine av ?_;walk_at"";refine aX (ar.of (Z _ _ j)) (v:=.str z2) rfl ?_;walk_at"";refine⟨z2,rfl,ie (DM (show z2.length<=1000 from td) (by decide)),?_⟩;walk_at"";by_cases l1:z2.length=1
            .rw[Ef (show((z2.length:Nat):Int)=1 by omega)];refine av ?_;walk_at"";refine aX (ar.of (Z _ _ j)) (v:=.str z2) rfl ?_;walk_at"";obtain⟨ch,rfl⟩:=one_sign l1;refine⟨_,_,rfl,rfl,?_⟩;walk_at"";rw[BM];cases sz:fQ ⟨#[ch]⟩with
             | false=>
              refine ao ?_;walk_at"";rw[bad (eW (.inr (.inr (.inr (by unfold dI;dsimp only;rw[sz,Bool.and_false])))))]at q;exact q _ y
             | true=>
              refine av ?_;walk_at"";refine⟨y,⟨_,rfl⟩,λx a1=>?_⟩;rw[List.take_add_one,hx]at a1;rcases DF.mp a1 with z|z
              .exact B x z
              .have:x=.ref u:=by simpa using z
               subst this;rw[iE hu];unfold eI;dsimp only;rw[r1,r2,dz];unfold dI;dsimp only;rw[sz,Ef l1];rfl
            .rw[Ee (show ¬((z2.length:Nat):Int)=1 by omega)];refine ao ?_;walk_at"";rw[bad (eW (.inr (.inr (.inr (by unfold dI;dsimp only;rw[Ee l1,Bool.false_and])))))]at q;exact q _ y
           .rw[bad (mU u4)]at q;rw[Ee (show ¬((us.length:Nat):Int)=4 by omega)];refine ao ?_;walk_at"";exact q _ e
         .rintro σ H' ⟨e,⟨x0,rfl⟩,B⟩;rw[DK]at B;have hall:ws.all (bz H m)=true:=DO.mpr B;unfold dP at q;rw[Ef m3,hall,Bool.true_and,Bool.true_and]at q;obtain⟨bs,a7,a2⟩:=nc hall;walk_at"";refine⟨r,bs,ws.map (eo H),rfl,.inl (by rw[<-a7];exact e _ _ o),a2.ext e,by rw[Dh];omega,λl L hl a3 hmem hL=>?_⟩;have ab:L.length<=ws.length:=by
           have:=gF a3 λk hk=>(hmem k).mp hk
           rwa [Dh,Dh]at this
          walk_at"";refine⟨l,L,rfl,bg,by omega,?_⟩;walk_at"";have eL:Ext H (upd H' l (i5 P w l L)):=e.trans (bu hl);refine eM (ar.of (eL _ _ o)) ?_;walk_at"";have J:=nodup_iff a3 hmem;rw[Dh,Dh]at J;have eb:decide ((((L.length:Nat):Int))=((ws.length:Nat):Int))=decide ((ws.map (eo H)).Nodup):=by apply decide_eq_decide.mpr;rw[<-J];omega
          rw[eb];exact q _ eL
        .rw[Ef (show((100:Int)<((ws.length:Nat):Int)) by omega)];unfold dP at q;rw[Ee m3,Bool.false_and]at q;refine ao ?_;walk_at"";exact q H λ_ _ z=>z
       .rw[Ef (show 12<m by omega)];rw[Ee m2,Bool.false_and]at q;refine ao ?_;walk_at"";exact q H λ_ _ z=>z
      .rw[Ef (show m<1 by omega)];rw[Ee m1,Bool.false_and]at q;refine ao ?_;walk_at"";exact q H λ_ _ z=>z
   .rw[wj h4]at q;rw[Ee (show ¬((xs.length:Nat):Int)=2 by omega)];refine ao ?_;walk_at"";exact q H λ_ _ z=>z
def Kd(H:Hp)(v:V):Prop:=∃n,cp H v n
def Rw(H:Hp)(v:V):Prop:=Kd H v/\∀p xs,v=.ref p->H p=Vo (.tup xs)->xs.length<=10000/\∀x∈xs,Kd H x
def Th(H:Hp)(v:V):Prop:=Kd H v/\∀p xs,v=.ref p->H p=Vo (.tup xs)->∀x∈xs,Rw H x
def rp{H H':Hp}(e:Ext H H'){p:Vb}{xs:List V}(h:Kd H (.ref p))(h':H' p=Vo (.tup xs)):H p=Vo (.tup xs):=by
 obtain⟨n,h⟩:=h;rcases h with⟨rfl,ys,q⟩|⟨rfl,ys,q⟩
 .have:=e _ _ q;rw[h']at this;cases this
 .have:=e _ _ q;rw[h']at this;cases this;exact q
def Kd.ext{H H':Hp}(e:Ext H H'){v:V}(h:Kd H v):Kd H' v:=by obtain⟨n,h⟩:=h;exact⟨n,uK e h⟩
theorem Rw.ext{H H':Hp}(e:Ext H H'){v:V}(h:Rw H v):Rw H' v:=by refine⟨h.1.ext e,λp xs a b=>?_⟩;subst a;obtain⟨h1,h2⟩:=h.2 p xs rfl (rp e h.1 b);exact⟨h1,λx c=>(h2 x c).ext e⟩
theorem all_ints:∀{xs:List V},(xs.map isInt).all id=true->∃ns:List Int,xs=ns.map V.int
 | [],_=>⟨[],rfl⟩
 | x::xs,h=>by
  have h':isInt x=true/\(xs.map isInt).all id=true:=by simpa using h
  obtain⟨i,rfl⟩:=dN h'.1;obtain⟨ns,rfl⟩:=all_ints h'.2;exact⟨i::ns,rfl⟩
theorem tN{hi:Int}:∀{lo:Int} {xs:List V},(xs.map isInt).all id=false->cQ lo hi xs=false
 | lo,[],h=>by cases h
 | lo,x::xs,h=>by
  cases a:isInt x with
  | false=>exact oK a
  | true=>
   obtain⟨i,rfl⟩:=dN a;have h':(xs.map isInt).all id=false:=by rw[List.map_cons,List.all_cons]at h;simpa[isInt]using h
   show(decide (lo<=i) && decide (i<hi) && cQ (i+1) hi xs)=false;rw[tN h',Bool.and_false]
def pairs(ns:List Int):List Bool:=(ns.zip (ns.drop 1)).map λp=>decide (p.1<p.2)
theorem uX:∀{ns:List Int},(pairs ns).all id=true↔ns.Pairwise (· < ·)
 | []=>⟨λ_=>.nil,λ_=>rfl⟩
 | [x]=>⟨λ_=>List.pairwise_singleton _ _,λ_=>rfl⟩
 | x::y::r=>by
  have b:=uX (ns:=y::r);have e:(pairs (x::y::r)).all id=(decide (x<y) && (pairs (y::r)).all id):=rfl;rw[e,DQ,b,decide_eq_true_eq];constructor
  .rintro⟨h1,h2⟩;refine List.pairwise_cons.mpr ⟨λz a=>?_,h2⟩;rcases Dw.mp a with rfl|a
   .exact h1
   .have:=(List.pairwise_cons.mp h2).1 z a;omega
  .intro h;obtain⟨h1,h2⟩:=List.pairwise_cons.mp h;exact⟨h1 y Dn,h2⟩
def bounds(lo hi:Int)(ns:List Int):List Bool:=ns.map λx=>decide (lo<=x) && decide (x<hi)
def Br{lo hi:Int}{ns:List Int}:cQ lo hi (ns.map V.int)=((bounds lo hi ns).all id && (pairs ns).all id):=by
 rw[DP,ip,DQ,uX];unfold fS bounds;rw[List.all_map,DO];constructor
 .rintro⟨h1,h2⟩;refine⟨λx a=>?_,h1⟩;have:=h2 x a;simp[this.1,this.2]
 .rintro⟨h1,h2⟩;refine⟨h2,λx a=>?_⟩;have:=h1 x a;simpa using this
def nk{α:Type}{f:α->Bool}{xs:List α}{i:Nat}{x:α}(h:xs[i]?=Vo x):((xs.take (i+1)).map f).map V.bl=((xs.take i).map f).map V.bl++[V.bl (f x)]:=by rw[List.take_add_one,h,Dz,Dz];rfl
def xP(xs:List V):bG xs (Vo 1) Vp=xs.drop 1:=by
 unfold bG;rw[HT.rN];have e:HT.aG xs.length 0 (Vo 1)=min 1 xs.length:=rfl;rw[e];rcases DX xs.length 1 with h|h
 .have:xs=[]:=List.eq_nil_of_length_eq_zero (by omega);subst this;rfl
 .rw[Nat.min_eq_left h];exact List.take_of_length_le (by rw[List.length_drop];exact DC _)
def wk(K:Dd):Sp:=λvs H Q _=>∃v lo hi,vs=[v,.int lo,.int hi]/\Rw H v/\∀H',Ext H H'->Q (.bl (bW H lo hi v)) H'
abbrev kT:Vl:=stq 49
def uA:FnScope ["_law_row","_law_low","_law_high"] ["_law_row","_law_low","_law_high"] (aK kT):=⟨rfl,rfl,rfl,by decide +kernel,rfl,by decide +kernel,by decide +kernel⟩
def xJ{P:Vd}{w:Ve}{K:Dd}{mg:Vn->Option Va}{base:Vh}(D:Dfn K mg "_law_rises" kT ["_law_row","_law_low","_law_high"])(T:Blt mg)(a:Cal P w K mg base "_law_whole" 1 ["_law_found"] (jK K)):Cal P w K mg base "_law_rises" 2 ["_law_row","_law_low","_law_high"] (wk K):=by
 have nd:=(uA).nd;refine D.ok uA (λvs H Q E h=>?_) (λX U H vs Q E h=>?_)
 .obtain⟨v,lo,hi,rfl,_⟩:=h;rfl
 .obtain⟨f,cdv,A,outer,s,H0,E0,rfl,W⟩:=U;obtain⟨v,lo,hi,rfl,O,q⟩:=h;obtain⟨n,t⟩:=O.1;refine⟨_,(ak (aT (PW.pt (bj (bt (br (aF cw rfl T.isinstance_ PyProof.Rows.boot_isinstance (ae (pv 0) (ae (cq (v:=.ty "tuple") rfl T.tuple_ PyProof.Rows.boot_tuple rfl) af))))) (bQ (bt (br (aF (gr K rfl) rfl T.all_ PyProof.Rows.boot_all (ae (dm ["_law_part"] [] (fK K (pv 0)) (λ_=>(aV (i:=0) (show(["_law_part"]:List Vn).Nodup from by decide +kernel) rfl (Or.inl rfl) (Or.inr rfl))) (λ_=>cy) (λ_=>(aC a W (ae (pv 0) af)))) af))))))) (au (ax bJ)) aO)
    (au (ax (cM (aF (gr K rfl) rfl T.all_ PyProof.Rows.boot_all (ae (dm ["_law_part"] [1,2] (fK K (pv 0)) (λ_=>(aV (i:=0) (show(["_law_part","_law_low","_law_high"]:List Vn).Nodup from by decide +kernel) rfl (Or.inl rfl) (Or.inr rfl))) (λ_=>cy) (λ_=>(km ju cW (pv 1) (pv 0) (pv 2)))) af)) (dg (aF (gr K rfl) rfl T.all_ PyProof.Rows.boot_all (ae (dm ["_law_one","_law_two"] [] (xh K rfl T.zip_ (ae (pv 0) (ae (bU By (pv 0) (bw ag) cx) af))) (λ_=>(jE (n:=2) K rfl (cZ (aV (i:=0) (show(["_law_one","_law_two"]:List Vn).Nodup from by decide +kernel) rfl (Or.inl rfl) (Or.inr rfl)) (cZ (aV (i:=1) (show(["_law_one","_law_two"]:List Vn).Nodup from by decide +kernel) rfl (Or.inl rfl) (Or.inr rfl)) iL)))) (λ_=>cy) (λ_=>(dD cW (pv 0) (pv 1) (aA _)))) af))))))),?_⟩
  walk_at"";rcases iS t with⟨p,xs,rfl,k,rfl⟩|⟨Y,z⟩
  rotate_left
  .refine bY t Y ?_;walk_at"";refine ao (ao ?_);walk_at"";have:=q H (Ext.rfl' H);rw[jJ z]at this;exact this
  obtain⟨Z,B⟩:=O.2 p xs rfl k;rw[eD k]at q;refine bY t (b:=true) rfl ?_;walk_at"";refine av ?_;walk_at"";refine fV (ar.of k) ?_;refine iH (xs:=xs) (λi ys H'=>H'=H/\ys=((xs.take i).map isInt).map V.bl) (aI (by omega)) ⟨rfl,rfl⟩ ?_ ?_ ?_
  .rintro i ys H' _ ⟨rfl,rfl⟩;exact⟨ar.of k,by simp;omega⟩
  .rintro i x ys H' g ⟨rfl,rfl⟩;obtain⟨m,hm⟩:=B x (Ds g);walk_at"";refine ao ?_;walk_at"";refine⟨x,m,rfl,hm,⟨rfl,?_⟩⟩;rw[nk g]
  rintro ys H' l ⟨rfl,rfl⟩ C;rw[DK];have o:Ext H' (upd H' l (.lst ((xs.map isInt).map V.bl))):=bu C;have h1:(upd H' l (.lst ((xs.map isInt).map V.bl))) l=_:=bg;generalize upd H' l (.lst ((xs.map isInt).map V.bl))=H1 at o h1;walk_at"";refine⟨l,_,rfl,ah.of h1,?_⟩;walk_at"";cases hall:(xs.map isInt).all id with
  | false=>
   refine ao ?_;walk_at"";have:=q H1 o;rw[tN hall]at this;exact this
  | true=>
   obtain⟨ns,rfl⟩:=all_ints hall;rw[Dh]at Z;rw[Br]at q;refine av ?_;walk_at"";have j:=o _ _ k;refine fV (ar.of j) ?_;refine iH (xs:=ns.map V.int) (λi ys H'=>H'=H1/\ys=((ns.take i).map λx=>decide (lo<=x) && decide (x<hi)).map V.bl) (aI (by rw[Dh];omega)) ⟨rfl,rfl⟩ ?_ ?_ ?_
   .rintro i ys H' _ ⟨rfl,rfl⟩;exact⟨ar.of j,by simp;omega⟩
   .rintro i v ys H' g ⟨rfl,rfl⟩;obtain⟨x,rfl,F⟩:=nI g;walk_at"";refine ao ?_;walk_at"";rw[nk F];cases h1:decide (lo<=x)with
    | false=>exact av ⟨rfl,rfl⟩
    | true=>
     refine ao ?_;walk_at"";exact⟨rfl,rfl⟩
   rintro ys c p2 ⟨rfl,rfl⟩ G;rw[Dh,DK];have r:Ext c (upd c p2 (.lst ((bounds lo hi ns).map V.bl))):=bu G;have h2:(upd c p2 (.lst ((bounds lo hi ns).map V.bl))) p2=_:=bg;have I:upd c p2 (.lst ((ns.map λx=>decide (lo<=x) && decide (x<hi)).map V.bl))=upd c p2 (.lst ((bounds lo hi ns).map V.bl)):=rfl;rw[I];generalize upd c p2 (.lst ((bounds lo hi ns).map V.bl))=H2 at r h2;walk_at"";refine⟨p2,_,rfl,ah.of h2,?_⟩;walk_at"";cases hb:(bounds lo hi ns).all id with
   | false=>
    refine av ?_;have:=q H2 (o.trans r);rw[hb]at this;exact this
   | true=>
    rw[hb,Bool.true_and]at q;refine ao ?_;walk_at"";have d:=r _ _ j;refine yD d λp3 R J L=>?_;rw[xP]at L;walk_at"";refine Ab (ar.of (J _ _ d)) (ar.of L) ?_;refine AF (xs:=ns.map V.int) (ys:=(ns.map V.int).drop 1) (λi zs H'=>Ext R H'/\zs=(((ns.zip (ns.drop 1)).take i).map λp=>decide (p.1<p.2)).map V.bl) (aI (by rw[Dh];omega)) ⟨Ext.rfl' R,rfl⟩ ?_ ?_ ?_
    .rintro i zs H' ⟨e,rfl⟩;refine⟨ar.of (e _ _ (J _ _ d)),ar.of (e _ _ L),?_⟩;rw[Dh,Dh,Ea];exact Nat.min_le_left _ _
    .rintro i u v zs H' p4 H4 hu S ⟨e,rfl⟩ e4 h4 a0;obtain⟨x,rfl,F⟩:=nI hu;rw[<-List.map_drop]at S;obtain⟨y,rfl,hy⟩:=nI S;have M:(ns.zip (ns.drop 1))[i]?=some (x,y):=by rw[List.getElem?_zip_eq_some];exact⟨F,hy⟩
     refine kr (ar.of h4) rfl ?_;walk_at"";refine ao ?_;walk_at"";refine⟨e.trans e4,?_⟩;rw[nk M]
    rintro zs H' p5 ⟨e,rfl⟩ N;have hlen:min (ns.map V.int).length ((ns.map V.int).drop 1).length=(ns.zip (ns.drop 1)).length:=by rw[List.length_zip,Dh,List.length_drop,List.length_drop,Dh]
    rw[hlen,DK];walk_at"";refine⟨p5,pairs ns,rfl,ah.of bg,?_⟩;exact q _ (o.trans (r.trans (J.trans (e.trans (bu N)))))
def mi(K:Dd):Sp:=λvs H Q _=>∃v,vs=[v]/\Th H v/\∀H',Ext H H'->Q (.bl (cX H v)) H'
abbrev mx:Vl:=stq 50
def q0:FnScope ["_law_found"] ["_law_found"] (aK mx):=⟨rfl,rfl,rfl,by decide +kernel,rfl,by decide +kernel,by decide +kernel⟩
def Ah{P:Vd}{w:Ve}{K:Dd}{mg:Vn->Option Va}{base:Vh}(D:Dfn K mg "_law_is_stair" mx ["_law_found"])(T:Blt mg)(c:Cal P w K mg base "_law_rises" 2 ["_law_row","_law_low","_law_high"] (wk K))(d:Cal P w K mg base "_law_whole" 1 ["_law_found"] (jK K)):Cal P w K mg base "_law_is_stair" 3 ["_law_found"] (mi K):=by
 have nd:=(q0).nd;refine D.ok q0 (λvs H Q E h=>?_) (λX I H vs Q E h=>?_)
 .obtain⟨v,rfl,_⟩:=h;rfl
 .obtain⟨f,cdv,A,outer,s,H0,E0,rfl,t⟩:=I;obtain⟨v,rfl,C,q⟩:=h;obtain⟨n,u⟩:=C.1;refine⟨_,(ak (aT (PW.pt (bj (bt (br (aF cw rfl T.isinstance_ PyProof.Rows.boot_isinstance (ae (pv 0) (ae (cq (v:=.ty "tuple") rfl T.tuple_ PyProof.Rows.boot_tuple rfl) af))))) (bQ (aD cn (aF (cc K) rfl T.len_ PySem.boot_len (ae (pv 0) af)) ag (aA _))))) (au (ax bJ)) aO)
    (ak (aT (PW.pt (bj (bt (br (aC d t (ae (aq (aW K) (pv 0) ag (λ_ _=>rfl)) af)))) (bQ (bt (br (aC d t (ae (aq (aW K) (pv 0) ag (λ_ _=>rfl)) af))))))) (au (ax bJ)) aO)
    (ak (aT (PW.pt (bj (aD cW (aq (aW K) (pv 0) ag (λ_ _=>rfl)) ag (aA _)) (bj (aD cW (aq (aW K) (pv 0) ag (λ_ _=>rfl)) ag (aA _)) (bQ (bt (br (aC c t (ae (aq (aW K) (pv 0) ag (λ_ _=>rfl)) (ae ag (ae (aq (aW K) (pv 0) ag (λ_ _=>rfl)) af)))))))))) (au (ax bJ)) aO)
    (au (ax (aC c t (ae (aq (aW K) (pv 0) ag (λ_ _=>rfl)) (ae (aq (aW K) (pv 0) ag (λ_ _=>rfl)) (ae (aj aM (aq (aW K) (pv 0) ag (λ_ _=>rfl)) (aq (aW K) (pv 0) ag (λ_ _=>rfl))) af))))))))),?_⟩
  walk_at"";rcases iS u with⟨p,xs,rfl,i,rfl⟩|⟨J,x⟩
  rotate_left
  .refine bY u J ?_;walk_at"";refine ao (ao ?_);walk_at"";have:=q H (Ext.rfl' H);rw[qx x]at this;exact this
  refine bY u (b:=true) rfl ?_;walk_at"";refine av ?_;walk_at"";refine eM (ar.of i) ?_;walk_at"";by_cases F:xs.length=4
  rotate_left
  .rw[Ee (show ¬((xs.length:Nat):Int)=4 by omega)];refine ao ?_;walk_at"";have:=q H (Ext.rfl' H);rw[tF i F]at this;exact this
  obtain⟨b,s',o,a,rfl⟩:=uD F;rw[jd i]at q;have hi:=C.2 p _ rfl i;have ho:=hi o (by simp);have ha:=hi a (by simp);obtain⟨nb,y⟩:=(hi b (by simp)).1;obtain⟨ns,z⟩:=(hi s' (by simp)).1;refine av ?_;walk_at"";refine aX (ar.of i) rfl ?_;walk_at"";refine⟨b,nb,rfl,y,?_⟩;walk_at"";cases G:isInt b with
  | false=>
   refine ao (ao ?_);walk_at"";have:=q H (Ext.rfl' H);rw[oI G]at this;exact this
  | true=>
   refine av ?_;walk_at"";refine aX (ar.of i) rfl ?_;walk_at"";refine⟨s',ns,rfl,z,?_⟩;walk_at"";cases m:isInt s' with
   | false=>
    refine ao ?_;walk_at"";have:=q H (Ext.rfl' H);rw[lV m]at this;exact this
   | true=>
    obtain⟨g,rfl⟩:=dN G;obtain⟨zs,rfl⟩:=dN m;have e:gq H (.int g) (.int zs) o a=(decide (0<=g) && decide (1<=zs) && bW H 0 g o && bW H g (g+zs) a):=rfl;rw[e]at q;refine av ?_;walk_at"";refine aX (ar.of i) rfl ?_;walk_at"";by_cases h1:g<0
    .rw[Ef h1];refine ao (ao ?_);walk_at"";have:=q H (Ext.rfl' H);rw[Ee (show ¬0<=g by omega)]at this;exact this
    .rw[Ee h1];refine av ?_;walk_at"";refine aX (ar.of i) rfl ?_;walk_at"";by_cases h2:zs<1
     .rw[Ef h2];refine ao (ao ?_);walk_at"";have:=q H (Ext.rfl' H);rw[Ee (show ¬1<=zs by omega),Bool.and_false,Bool.false_and,Bool.false_and]at this;exact this
     .rw[Ee h2];rw[Ef (show 0<=g by omega),Ef (show 1<=zs by omega)]at q;refine av ?_;walk_at"";refine aX (ar.of i) rfl ?_;walk_at"";refine aX (ar.of i) rfl ?_;walk_at"";refine⟨o,0,g,rfl,ho,λH1 j=>?_⟩;walk_at"";cases r:bW H 0 g o with
      | false=>
       rw[r]at q;refine ao ?_;walk_at"";exact q H1 j
      | true=>
       rw[r]at q;refine av ?_;walk_at"";refine aX (ar.of (j _ _ i)) rfl ?_;walk_at"";refine aX (ar.of (j _ _ i)) rfl ?_;walk_at"";refine aX (ar.of (j _ _ i)) rfl ?_;walk_at"";refine aX (ar.of (j _ _ i)) rfl ?_;walk_at"";have L:bW H1 g (g+zs) a=bW H g (g+zs) a:=by
        obtain⟨na,B⟩:=ha.1;rcases iS B with⟨N,ys,rfl,k,_⟩|⟨_,l⟩
        .rw[eD k,eD (j _ _ k)]
        .rw[jJ l,jJ λp ys ev k=>l p ys ev (rp j (by rw[<-ev];exact ha.1) k)]
       refine⟨a,g,g+zs,rfl,ha.ext j,λH2 M=>?_⟩;rw[L];exact q H2 (j.trans M)
def cE(H:Hp)(p:Vb)(kk:List (List Key)):Prop:=∃bs:List Vb,H p=Vo (.tup (bs.map V.ref))/\bs.length=kk.length/\∀(j:Nat) (b:Vb) (k:List Key),bs[j]?=Vo b->kk[j]?=Vo k->H b=Vo (.tup (k.map kV))
def cE.ext{H H':Hp}{p:Vb}{kk:List (List Key)}(e:Ext H H')(h:cE H p kk):cE H' p kk:=by obtain⟨bs,h1,h2,a⟩:=h;exact⟨bs,e _ _ h1,h2,λj b k c d=>e _ _ (a j b k c d)⟩
structure Way where
 room:Int
 deed:Vn
 other:Int
 sign:Vn
 deriving DecidableEq
abbrev Way.key(w:Way):List Key:=[.inl w.room,.inr w.deed,.inl w.other,.inr w.sign]
abbrev Way.vs(w:Way):List V:=[.int w.room,.str w.deed,.int w.other,.str w.sign]
variable {w:Way}{H H0 H1:Hp}{ws us:List Way}{f p:Vb}{xs:List V}{m s:Int}{n c:Nat}{z y:Vn}{v:V}{zs ps:List Vn}{o a:List Int}{Q:VK}{P:Vd}{mg:Vn->Option Va}{base:Vh}{st:Vl}
def Way.key_inj{u:Way}(h:w.key=u.key):w=u:=by cases w;cases u;simp only[Way.key,List.cons.injEq,Sum.inl.injEq,Sum.inr.injEq]at h;obtain⟨rfl,rfl,rfl,rfl,_⟩:=h;rfl
def jm(z:Vn):Prop:=∃c:Nat,97<=c/\c<=122/\z=⟨#[c]⟩
def cS(z:Vn):Prop:=z = "up"\/z = "down"\/z = "stay"\/z = "zero"
structure Way.Ok(m:Int)(w:Way):Prop where
 r0:0<=w.room
 r1:w.room<m
 o0:0<=w.other
 o1:w.other<m
 dd:cS w.deed
 sg:jm w.sign
structure HOuse(m:Int)(ws:List Way):Prop where
 m1:1<=m
 m12:m<=12
 few:ws.length<=100
 ok:∀w∈ws,w.Ok m
 nd:ws.Nodup
def bE(H:Hp)(v:V)(m:Int)(ws:List Way):Prop:=∃p q,v=.ref p/\H p=Vo (.tup [.int m,.ref q])/\cE H q (ws.map Way.key)
theorem bE.ext{H H':Hp}{v:V}{m:Int}{ws:List Way}(e:Ext H H')(h:bE H v m ws):bE H' v m ws:=by obtain⟨p,q,rfl,h1,h2⟩:=h;exact⟨p,q,rfl,e _ _ h1,h2.ext e⟩
def cE.item{bs:List Vb}(h:∀(j:Nat) (b:Vb) (k:List Key),bs[j]?=Vo b->(ws.map Way.key)[j]?=Vo k->H b=Vo (.tup (k.map kV))){j:Nat}{b:Vb}(a:bs[j]?=Vo b)(c:ws[j]?=Vo w):H b=Vo (.tup w.vs):=
 h j b w.key a (by rw[Dj,c];rfl)
def aZ(H:Hp)(bs:List Vb)(ws:List Way):Prop:=bs.length=ws.length/\∀(j:Nat) (b:Vb) (w:Way),bs[j]?=Vo b->ws[j]?=Vo w->H b=Vo (.tup w.vs)
def aZ.ext{H':Hp}{bs:List Vb}(e:Ext H H')(h:aZ H bs ws):aZ H' bs ws:=⟨h.1,λj b w a c=>e _ _ (h.2 j b w a c)⟩
def aZ.put{ys:List V}{bs:List Vb}(a:H f=Vo (.lst xs))(h:aZ H bs ws):aZ (upd H f (.lst ys)) bs ws:=⟨h.1,λj b w c d=>by have:=h.2 j b w c d;rw[aY (jB this a (by intro z;cases z))];exact this⟩
def aZ.nil(H:Hp):aZ H [] []:=⟨rfl,λj b w e=>by simp at e⟩
def aZ.snoc{bs:List Vb}{b:Vb}(h:aZ H bs ws)(hb:H b=Vo (.tup w.vs)):aZ H (bs++[b]) (ws++[w]):=by
 refine⟨by simp[h.1],λj f g a c=>?_⟩;rcases DX j bs.length with d|d
 .rw[DH d]at a;rw[DH (by rw[<-h.1];exact d)]at c;exact h.2 j f g a c
 .rw[DG d]at a;rw[DG (by rw[<-h.1];exact d),<-h.1]at c;cases e:j-bs.length with
  | zero=>
   rw[e]at a c;cases a;cases c;exact hb
  | succ k=>rw[e]at a;simp at a
def aZ.ways{bs:List Vb}(h:aZ H bs ws)(c:H p=Vo (.tup (bs.map V.ref))):cE H p (ws.map Way.key):=
 ⟨bs,c,by rw[Dh];exact h.1,λj b k d a=>by rw[Dj]at a;obtain⟨w,e,rfl⟩:=Du.mp a;exact h.2 j b w d e⟩
def cE.al(h:cE H p (ws.map Way.key)):∃bs:List Vb,H p=Vo (.tup (bs.map V.ref))/\aZ H bs ws:=by obtain⟨bs,h1,h2,a⟩:=h;rw[Dh]at h2;exact⟨bs,h1,h2,λj b w c d=>cE.item a c d⟩
abbrev Way.D(w:Way):PyData:=.tuple [.int w.room,.str w.deed,.int w.other,.str w.sign]
structure Way.Lay(w:Way):Prop where
 d:(PyData.str w.deed).canLay0=true
 s:(PyData.str w.sign).canLay0=true
def xW:∀c:Fin 123,97<=c.1->(PyData.str ⟨#[c.1]⟩).canLay0=true:=by decide +kernel
def Way.Ok.lay(h:w.Ok m):w.Lay:=by
 constructor
 .rcases h.dd with e|e|e|e<;>rw[e]<;>decide +kernel
 .obtain⟨c,h1,h2,e⟩:=h.sg;rw[e];exact xW ⟨c,Nat.lt_succ_of_le h2⟩ h1
def Way.rep{b:Vb}(h:H b=Vo (.tup w.vs))(l:w.Lay):bf H 1 (.ref b) w.D:=
 .inr ⟨b,w.vs,_,rfl,.inl ⟨h,rfl⟩,.cons rfl (.cons ⟨rfl,l.d⟩ (.cons rfl (.cons ⟨rfl,l.s⟩ .nil)))⟩
theorem Way.eqv(w u:Way):PyData.eqv w.D u.D=decide (w=u):=by
 simp only[PyData.eqv,PyData.eqvAll];by_cases h:w=u
 .subst h;simp
 .rw[Ee h];obtain⟨a,b,c,d⟩:=w;obtain⟨f,g,c',i⟩:=u;simp only[Way.mk.injEq,not_and]at h;simp only[Bool.and_true,Bool.and_eq_false_iff,beq_eq_false_iff_ne];by_cases h1:a=f
  .by_cases h2:b=g
   .by_cases e:c=c'
    .exact .inr (.inr (.inr (h h1 h2 e)))
    .exact .inr (.inr (.inl e))
   .exact .inr (.inl h2)
  .exact .inl h1
theorem aZ.reps{H:Hp}:∀{bs:List Vb} {ws:List Way},aZ H bs ws->(∀w∈ws,w.Lay)->Paired (bf H 1) (bs.map V.ref) (ws.map Way.D)
 | [],[],_,_=>.nil
 | [],_::_,h,_=>by cases h.1
 | _::_,[],h,_=>by cases h.1
 | b::bs,w::ws,h,l=>.cons (Way.rep (h.2 0 b w rfl rfl) (l w Dn)) (aZ.reps ⟨Nat.succ.inj h.1,λj b w a c=>h.2 (j+1) b w a c⟩ λu d=>l u (Dk _ d))
def ye(ws:List Way)(w:Way):((ws.map Way.D).any λe=>PyData.eqv e w.D)=decide (w∈ws):=by
 rw[List.any_map];induction ws with
 | nil=>rfl
 | cons u ws a=>
  rw[List.any_cons,a,Function.comp_apply,Way.eqv];by_cases h:w∈ws
  .simp[h]
  .by_cases e:u=w
   .simp[e]
   .have:¬w=u:=λz=>e z.symm;simp[h,e,this]
def o3(K:Dd):Sp:=λvs H Q _=>∃l bs ws,vs=[.ref l]/\H l=Vo (.lst (bs.map V.ref))/\aZ H bs ws/\(∀w∈ws,Way.Lay w)/\ws.length<=200 ∧
 ∀q H' us,Ext H H'->cE H' q (List.map Way.key us)->us.Nodup->(∀u∈us,u∈ws)->us.length<=ws.length->Q (.ref q) H'
abbrev ot:Vl:=stq 43
def vC:FnScope ["_law_ways","_law_found","_law_way"] ["_law_ways"] (aK ot):=⟨rfl,rfl,rfl,by decide +kernel,rfl,by decide +kernel,by decide +kernel⟩
def CQ{P:Vd}{w:Ve}{K:Dd}{mg:Vn->Option Va}{base:Vh}(D:Dfn K mg "_law_unlike" ot ["_law_ways"])(T:Blt mg):Cal P w K mg base "_law_unlike" 1 ["_law_ways"] (o3 K):=by
 have nd:=(vC).nd;refine D.ok vC (λvs H Q E h=>?_) (λX G H vs Q E h=>?_)
 .obtain⟨l,bs,ws,rfl,_⟩:=h;rfl
 .obtain⟨f,cdv,A,outer,s,H0,E0,rfl,I⟩:=G;obtain⟨l,bs,ws,rfl,y,al,lay,hlen,q⟩:=h;refine⟨_,(ak (ay (i:=1) nd rfl (Or.inl rfl) (aU af))
    (ak (dO PassesOwn.never rfl (eZ K (pv 0)) (aV (i:=2) nd rfl (Or.inl rfl)) (au (dX (aD (Cz I) (pv 2) (pv 1) (by with_unfolding_all rfl)) (au (cF (bo K Dp DD DE cB (pv 1) (ae (pv 2) af)))) aO)))
    (au (ax (bT (eX K) rfl T.tuple_ PyProof.Rows.boot_tuple (ae (pv 1) af)))))),?_⟩
  walk_at"";refine aH λf H1 B J r=>?_;walk_at"";refine ff (ah.of (B _ _ y)) ?_;refine forL (xs:=bs.map V.ref) (λi σ H2=>Ext H H2/\∃(k:Option V) (cs:List Vb) (us:List Way),σ=[Vo (.ref l),Vo (.ref f),k]/\H2 f=Vo (.lst (cs.map V.ref))/\aZ H2 cs us/\us.Nodup/\(∀u∈us,u∈ws)/\us.length<=i)
   ⟨B,Vp,[],[],rfl,J,aZ.nil _,List.nodup_nil,λu j=>by simp at j,DC _⟩ (λi σ H2 _ h=>ah.of (h.1 _ _ y)) ?_ ?_
  .rintro i x σ H2 C ⟨o,k,cs,us,rfl,d,e,m,sub2,g⟩;rw[Dj]at C;obtain⟨b,hb,rfl⟩:=Du.mp C;have hi:i<ws.length:=by rw[<-al.1];exact(Dr.mp hb).1
   have t:ws[i]?=Vo ws[i]:=Di hi;have n:=o _ _ (al.2 i b _ hb t);walk_at"";refine vy ?_;walk_at"";refine zD (Way.rep n (lay _ (DI hi))) d (e.reps λu j=>lay u (sub2 u j)) (by decide) ?_;simp only[if_true,ye];refine rd_exb ?_;by_cases v:ws[i]∈us
   .rw[Ef v];refine av ?_;walk_at"";exact⟨o,_,cs,us,rfl,d,e,m,sub2,by omega⟩
   .rw[Ee v];refine ao ?_;walk_at"";refine⟨iB (ah.of d),?_⟩;walk_at"";refine cG d (by rw[Dh,e.1];exact Nat.lt_of_le_of_lt (show us.length<=1000 by omega) (by decide)) ?_;walk_at"";refine⟨hG o r,_,cs++[b],us++[ws[i]],rfl,by rw[bg,Dz];rfl,(e.put d).snoc ?_,?_,?_,by simp;omega⟩
    .rw[aY (jB n d (by intro z;cases z))];exact n
    .rw[List.nodup_append];exact⟨m,by simp,λa ha c L=>by rw[Dt.mp L];exact λz=>v (z ▸ ha)⟩
    .intro u j;rcases DF.mp j with j|j
     .exact sub2 u j
     .rw[Dt.mp j];exact DI hi
  .rintro σ H2 ⟨o,k,cs,us,rfl,d,e,m,sub2,g⟩;walk_at"";refine eP (ah.of d) (aP λp M F N _=>?_);exact q p M us (o.trans F) ((e.ext F).ways N) m sub2 (by rw[Dh,al.1]at g;exact g)
def kj(z:Vn):Prop:=∃c:Nat,97<=c/\c<=99/\z=⟨#[c]⟩
structure Way.Ok3(m:Int)(w:Way):Prop where
 r0:0<=w.room
 r1:w.room<m
 o0:0<=w.other
 o1:w.other<m
 dd:cS w.deed
 sg:kj w.sign
structure HOuse3(m:Int)(ws:List Way):Prop where
 m1:1<=m
 m12:m<=12
 few:ws.length<=31
 ok:∀w∈ws,w.Ok3 m
 nd:ws.Nodup
def Way.Ok3.ok(h:w.Ok3 m):w.Ok m:=by obtain⟨c,h1,h2,a⟩:=h.sg;exact⟨h.r0,h.r1,h.o0,h.o1,h.dd,c,h1,by omega,a⟩
theorem Way.Ok3.lay{m:Int}{w:Way}(h:w.Ok3 m):w.Lay:=h.ok.lay
def HOuse3.house(h:HOuse3 m ws):HOuse m ws:=⟨h.m1,h.m12,DM h.few (by decide),λw a=>(h.ok w a).ok,h.nd⟩
def CB{ds:List Int}{i:Nat}(h:i+4<=ds.length):∃a b c d,bG (ds.map V.int) (some (i:Int)) (some ((i+4:Nat):Int))=[.int a,.int b,.int c,.int d]/\ds[i]?=some a/\ds[i+1]?=some b/\ds[i+2]?=some c/\ds[i+3]?=some d:=by refine⟨ds[i],ds[i+1],ds[i+2],ds[i+3],?_,Di _,Di _,Di _,Di _⟩;unfold bG;rw[HT.lS,HT.lS,Dh,Nat.min_eq_left (by omega),Nat.min_eq_left (by omega),show i+4-i=4 by omega,<-List.map_drop,<-List.map_take];rw[List.drop_eq_getElem_cons (show i<ds.length by omega),List.drop_eq_getElem_cons (show i+1<ds.length by omega),List.drop_eq_getElem_cons (show i+1+1<ds.length by omega),List.drop_eq_getElem_cons (show i+1+1+1<ds.length by omega)];rfl
def ee:List Int:=[8,12,13,31]++(DV 30 ([12,6,12,3]:List Int)).flatten
def B5{k:Nat}(h:k<30):ee[4+4*k]?=Vo 12/\ee[4+4*k+1]?=Vo 6/\ee[4+4*k+2]?=Vo 12/\ee[4+4*k+3]?=Vo 3:=by
 have:∀k:Fin 30,ee[4+4*k.val]?=Vo 12/\ee[4+4*k.val+1]?=Vo 6/\ee[4+4*k.val+2]?=Vo 12/\ee[4+4*k.val+3]?=Vo 3:=by decide +kernel
 exact this ⟨k,h⟩
def vH(K:Dd):Sp:=λvs H Q _=>∃c p,vs=[.int c,.int p]/\0<p/\∀v m ws H',Ext H H'->bE H' v m ws->HOuse3 m ws->Q v H'
def yr{e:Int}(a:0<=e)(h1:e<6):∃z,bZ ([.str "up",.str "down",.str "stay",.str "zero",.str "up",.str "down"]:List V) e=Vo (.str z)/\cS z:=by
 have:e=0\/e=1\/e=2\/e=3\/e=4\/e=5:=by omega
 rcases this with rfl|rfl|rfl|rfl|rfl|rfl
 .exact⟨_,rfl,.inl rfl⟩
 .exact⟨_,rfl,.inr (.inl rfl)⟩
 .exact⟨_,rfl,.inr (.inr (.inl rfl))⟩
 .exact⟨_,rfl,.inr (.inr (.inr rfl))⟩
 .exact⟨_,rfl,.inl rfl⟩
 .exact⟨_,rfl,.inr (.inl rfl)⟩
def Cd:(DR "abc").cps.toList=[97,98,99]:=by decide +kernel
def Av{e:Int}(a:0<=e)(h1:e<3):∃c,bZ (DR "abc").cps.toList e=Vo c/\97<=c/\c<=99:=by
 rw[Cd];have:e=0\/e=1\/e=2:=by omega
 rcases this with rfl|rfl|rfl
 .exact⟨97,rfl,by decide,by decide⟩
 .exact⟨98,rfl,by decide,by decide⟩
 .exact⟨99,rfl,by decide,by decide⟩
def yj{e:Int}(b:0<=e)(h1:e<8):∃w:Int,bZ (([4,4,4,5,3,2,5,12]:List Int).map V.int) e=Vo (.int w)/\1<=w/\w<=12:=by
 obtain⟨n,rfl⟩:=Int.eq_ofNat_of_zero_le b;have a:n<8:=Int.ofNat_lt.mp h1;have key:∀i:Fin 8,1<=([4,4,4,5,3,2,5,12]:List Int)[i]/\([4,4,4,5,3,2,5,12]:List Int)[i]<=12:=by decide
 exact⟨([4,4,4,5,3,2,5,12]:List Int)[n],ck (by rw[Dj,Di a];rfl),key ⟨n,a⟩⟩
def bE.mk{q:Vb}(h1:H p=Vo (.tup [.int m,.ref q]))(h2:cE H q (ws.map Way.key)):bE H (.ref p) m ws:=⟨p,q,rfl,h1,h2⟩
abbrev mI:Vl:=stq 44
def pf:FnScope ["_law_cell_here","_law_prime","_law_draws_here","_law_many","_law_often","_law_ways","_law_k","_law_room","_law_deed","_law_other","_law_sign","_law_word"] ["_law_cell_here","_law_prime"] (aK mI):=⟨rfl,rfl,rfl,by decide +kernel,rfl,by decide +kernel,by decide +kernel⟩
def AD{P:Vd}{w:Ve}{K:Dd}{mg:Vn->Option Va}{base:Vh}(D:Dfn K mg "_law_drawn_house" mI ["_law_cell_here","_law_prime"])(T:Blt mg)(e:Cal P w K mg base "_law_unlike" 1 ["_law_ways"] (o3 K))(g:Cal P w K mg base "_law_draws" 2 ["_law_cell_here","_law_widths","_law_prime"] (fT K)):Cal P w K mg base "_law_drawn_house" 3 ["_law_cell_here","_law_prime"] (vH K):=by
 have nd:=(pf).nd;refine D.ok pf (λvs H Q E h=>?_) (λX hX H vs Q E h=>?_)
 .obtain⟨c,p,rfl,_⟩:=h;rfl
 .obtain⟨f,cdv,A,outer,s,H0,E0,rfl,hr⟩:=hX;obtain⟨c,p,rfl,hp,q⟩:=h;refine⟨_,(@ak _ _ _ _ _ (@ay _ _ 2 _ _ _ _ nd rfl (Or.inl rfl) (aC g hr (@ae _ _ _ _ _ (pv 0) (@ae _ _ _ _ _ (aj bI (@aU _ _ _ _ (gJ (.c (.c (.c (.c .n)))))) (aj m6 (@aU _ _ _ _ (gJ (.c (.c (.c (.c .n)))))) ag)) (@ae _ _ _ _ _ (pv 1) af rfl) rfl) rfl)) rfl (Or.inl rfl))
    (@ak _ _ _ _ _ (@ay _ _ 3 _ _ _ _ nd rfl (Or.inl rfl) (aj aM ag (aj cj (@aq _ _ _ _ _ _ _ (aB K) (pv 2) ag (λ_ _=>rfl)) (@aq _ _ _ _ _ _ _ (aB K) (@aU _ _ _ _ (gJ (.c (.c (.c (.c (.c (.c (.c (.c .n)))))))))) (@aq _ _ _ _ _ _ _ (aB K) (pv 2) ag (λ_ _=>rfl)) (λ_ _=>rfl)))) rfl (Or.inl rfl))
    (@ak _ _ _ _ _ (@ay _ _ 4 _ _ _ _ nd rfl (Or.inl rfl) (@aq _ _ _ _ _ _ _ (aB K) (pv 2) ag (λ_ _=>rfl)) rfl (Or.inl rfl))
    (@ak _ _ _ _ _ (dX (aD b6 (@aq _ _ _ _ _ _ _ (aB K) (pv 2) ag (λ_ _=>rfl)) ag (aA _)) (@au _ _ _ (@ay _ _ 4 _ _ _ _ nd rfl (Or.inl rfl) (@aq _ _ _ _ _ _ _ (aB K) (pv 2) ag (λ_ _=>rfl)) rfl (Or.inl rfl))) aO)
    (@ak _ _ _ _ _ (@ay _ _ 5 _ _ _ _ nd rfl (Or.inl rfl) (@aU _ _ _ _ af) rfl (Or.inl rfl))
    (@ak _ _ _ _ _ (dO PassesOwn.never rfl (eB rfl T.range_ (@ae _ _ _ _ _ (pv 4) af rfl)) (aV (i:=6) nd rfl (Or.inl rfl)) (@ak _ _ _ _ _ (@nF _ _ _ _ _ _ (bU (eQ K) (pv 2) (bw (aj aM ag (aj dW ag (pv 6)))) (bw (aj aM ag (aj dW ag (pv 6))))) (AG (n:=4) K rfl (cZ (aV (i:=7) nd rfl (Or.inl rfl)) (cZ (aV (i:=8) nd rfl (Or.inl rfl)) (cZ (aV (i:=9) nd rfl (Or.inl rfl)) (cZ (aV (i:=10) nd rfl (Or.inl rfl)) iL))))) rfl rfl rfl)
    (@ak _ _ _ _ _ (@ay _ _ 11 _ _ _ _ nd rfl (Or.inl rfl) (@aq _ _ _ _ _ _ _ (aB K) (@aU _ _ _ _ (@ae _ _ _ _ _ ai (@ae _ _ _ _ _ ai (@ae _ _ _ _ _ ai (@ae _ _ _ _ _ ai (@ae _ _ _ _ _ ai (@ae _ _ _ _ _ ai af rfl) rfl) rfl) rfl) rfl) rfl)) (pv 8) (λ_ _=>rfl)) rfl (Or.inl rfl))
    (@au _ _ _ (cF (bo K Dp DD DE cB (pv 5) (@ae _ _ _ _ _ (@bA _ _ _ _ _ (@ae _ _ _ _ _ (aj cj (pv 7) (pv 3)) (@ae _ _ _ _ _ (pv 11) (@ae _ _ _ _ _ (aj cj (pv 9) (pv 3)) (@ae _ _ _ _ _ (@aq _ _ _ _ _ _ _ jj ai (pv 10) (λ_ _=>rfl)) af rfl) rfl) rfl) rfl)) af rfl)))))))
    (@au _ _ _ (@ax _ _ _ _ (@bA _ _ _ _ _ (@ae _ _ _ _ _ (pv 3) (@ae _ _ _ _ _ (aC e hr (@ae _ _ _ _ _ (pv 5) af rfl)) af rfl) rfl)))))))))),?_⟩
  walk_at"";refine aH λw0 G1 f1 a0 _=>?_;walk_at"";refine aH λw1 G2 f2 a1 _=>?_;walk_at"";refine mw a1 (by omega) (aI (by decide)) (aP λw2 G3 f3 a2 _=>?_);walk_at"";refine cK (f3 _ _ (f2 _ _ a0)) a2 (aI (by decide)) (aP λw3 G4 f4 a3 _=>?_);walk_at"";refine fW ee a3 (by decide +kernel) (by decide +kernel) (hp) λdq ds H1 e1 hd ap hl hb=>?_;have eH:Ext H H1:=f1.trans (f2.trans (f3.trans (f4.trans e1)));have as:ds.length=124:=hl;have at_:∀(i:Nat) (x:Int),ee[i]?=Vo x->∃d,ds[i]?=Vo d/\0<=d/\d<x:=λi x hx=>by
   have hi:i<ds.length:=by rw[hl];exact(Dr.mp hx).1
   exact⟨ds[i],Di hi,hb i _ x (Di hi) hx⟩
  obtain⟨d0,g0,C,F⟩:=at_ 0 8 rfl;obtain⟨d1,g1,a4,a5⟩:=at_ 1 12 rfl;obtain⟨d2,g2,G,a6⟩:=at_ 2 13 rfl;obtain⟨d3,g3,I,a7⟩:=at_ 3 31 rfl;have pick:∀{i:Nat} {d:Int},ds[i]?=Vo d->bZ (ds.map V.int) (i:Int)=Vo (.int d):=λ{i d} h=>ck (by rw[Dj,h];rfl);walk_at"";refine az (ah.of hd) (pick (i:=1) g1) ?_;walk_at"";refine aH λmq H2 Y a8 _=>?_;walk_at"";refine az (ah.of (Y _ _ hd)) (pick (i:=0) g0) ?_;obtain⟨w,hw,J,L⟩:=yj C F;refine az (ah.of a8) hw ?_
  try refine rd_I (show(0:Int)<w by omega) ?_
  walk_at"";have r0:0<=d1 % w:=Int.emod_nonneg _ (by omega);have r1:d1 % w<w:=Int.emod_lt_of_pos _ (by omega);obtain⟨m,hm,m1,m2⟩:∃m,1+d1 % w=m/\1<=m/\m<=12:=⟨_,rfl,by omega,by omega⟩;rw[hm];refine az (ah.of (Y _ _ hd)) (pick (i:=2) g2) ?_;walk_at"";have a9:Ext H H2:=eH.trans Y;have k:=Y _ _ hd;refine fo (λM H'=>H'=H2/\∃o:Nat,o<=30/\M=[Vo (.int c),Vo (.int p),Vo (.ref dq),Vo (.int m),Vo (.int o),Vp,Vp,Vp,Vp,Vp,Vp,Vp]) ?_ ?_
  .walk_at"";refine az (ah.of k) (pick (i:=0) g0) ?_;walk_at"";refine cJ (λh=>?_) (λh=>?_)
   .walk_at"";refine az (ah.of k) (pick (i:=3) g3) ?_;walk_at"";exact⟨rfl,d3.toNat,by omega,by rw[Int.toNat_of_nonneg I];rfl⟩
   .walk_at"";exact⟨rfl,d2.toNat,by omega,by rw[Int.toNat_of_nonneg G];rfl⟩
  rintro M H' ⟨rfl,o,ho,rfl⟩;clear hw J L r0 r1 C F a4 a5 G a6 I a7;walk_at"";refine aH λf H3 e3 hf aa=>?_;walk_at"";refine er (by omega) ?_;refine forR (λi σ N=>Ext H' N/\∃(k1 k2 k3 k4 k5 k6:Option V) (cs:List Vb) (us:List Way),σ=[Vo (.int c),Vo (.int p),Vo (.ref dq),Vo (.int m),Vo (.int o),Vo (.ref f),k1,k2,k3,k4,k5,k6]/\N f=Vo (.lst (cs.map V.ref))/\aZ N cs us/\(∀u∈us,u.Ok3 m)/\us.length=i)
   ⟨e3,Vp,Vp,Vp,Vp,Vp,Vp,[],[],rfl,hf,aZ.nil _,λu j=>by simp at j,rfl⟩ ?_ ?_
  .rintro i σ N hi ⟨Z,k1,k2,k3,k4,k5,k6,cs,us,rfl,l,al,ok,len⟩;rw[Dv]at hi;have O:i<30:=by omega
   obtain⟨a,b,c',d,R,ga,gb,gc,gd⟩:=CB (ds:=ds) (i:=4+4*i) (by omega);obtain⟨y0,y1,y2,y3⟩:=B5 O;have ba:=hb _ _ _ ga y0;have bb:=hb _ _ _ gb y1;have bc:=hb _ _ _ gc y2;have bd:=hb _ _ _ gd y3;have ab:=Z _ _ k;walk_at"";refine fu (ah.of ab) (aP λt H5 S ht b0=>?_);rw[show (4:Int)+4*(0+(i:Int))=((4+4*i:Nat):Int) by omega,show (8:Int)+4*(0+(i:Int))=((4+4*i+4:Nat):Int) by omega,R]at ht;walk_at"";refine zG (ah.of ht) rfl ?_;walk_at"";refine aH λu1 H6 B ac _=>?_;walk_at"";obtain⟨z,hz,ad⟩:=yr bb.1 bb.2;refine az (ah.of ac) hz ?_;walk_at"";have U:=B _ _ (S _ _ l);refine⟨iB (ah.of U),?_⟩;walk_at""
   try refine rd_I (show(0:Int)<m by omega) ?_
   walk_at""
   try refine rd_I (show(0:Int)<m by omega) ?_
   walk_at"";obtain⟨s,hs,s1,s2⟩:=Av bd.1 bd.2;refine⟨_,_,s,rfl,rfl,ie (by decide +kernel),hs,?_⟩;walk_at"";refine aH λv H7 e7 hv _=>?_;have y:=e7 _ _ U;walk_at"";refine cG y (by rw[Dh,al.1,len];exact Nat.lt_of_le_of_lt (show i<=1000 by omega) (by decide)) ?_;walk_at"";have am:aZ H7 cs us:=((al.ext S).ext B).ext e7;have W:H7 v=Vo (.tup (Way.vs ⟨a % m,z,c' % m,⟨#[s]⟩⟩)):=hv;refine⟨hG (Z.trans (S.trans (B.trans e7))) aa,_,_,_,_,_,_,cs++[v],us++[⟨a % m,z,c' % m,⟨#[s]⟩⟩],rfl,by rw[bg,Dz];rfl,(am.put y).snoc ?_,?_,by simp[len]⟩
   .rw[aY (jB W y (by intro z;cases z))];exact W
   .intro u j;rcases DF.mp j with j|j
    .exact ok u j
    .rw[Dt.mp j];exact⟨Int.emod_nonneg _ (by omega),Int.emod_lt_of_pos _ (by omega),Int.emod_nonneg _ (by omega),Int.emod_lt_of_pos _ (by omega),ad,s,s1,s2,rfl⟩
  .rintro σ N ⟨Z,k1,k2,k3,k4,k5,k6,cs,us,rfl,l,al,ok,len⟩;rw[Dv]at len;walk_at"";refine⟨f,cs,us,rfl,l,al,λu j=>(ok u j).lay,by omega,λr H5 ws S an nd sub ln=>?_⟩;walk_at"";refine aH λt H6 B ht _=>?_;exact q _ m ws H6 (a9.trans (Z.trans (S.trans B))) (bE.mk ht (an.ext B)) ⟨m1,m2,by omega,λu j=>ok u (sub u j),nd⟩
structure WL(H0 H:Hp)(f:Vb)(us:List Way):Prop where
 ext:Ext H0 H
 at_:∃cs:List Vb,H f=Vo (.lst (cs.map V.ref))/\aZ H cs us
theorem WL.nil{H0 H:Hp}{f:Vb}(e:Ext H0 H)(a:H f=Vo (.lst [])):WL H0 H f []:=⟨e,[],a,aZ.nil _⟩
def WL.push{v:Vb}(h:WL H0 H f us)(b:H0 f=Vp)(e:Ext H H1)(c:H1 v=Vo (.tup w.vs)):
  ∃xs,H1 f=Vo (.lst xs)/\xs.length=us.length/\WL H0 (upd H1 f (.lst (xs++[.ref v]))) f (us++[w]):=by
 obtain⟨d,cs,g,al⟩:=h;have a:=e _ _ g;refine⟨cs.map V.ref,a,by rw[Dh];exact al.1,hG (d.trans e) b,cs++[v],by rw[bg,Dz];rfl,((al.ext e).put a).snoc ?_⟩;rw[aY (jB c a (by intro z;cases z))];exact c
def WL.ty{K:Dd}(h:WL H0 H f us)(e:Ext H H1):i6 K "list" (.ref f) H1:=by obtain⟨_,cs,a,al⟩:=h;exact iB (ah.of (e _ _ a))
def ku:kj "a":=⟨97,by decide,by decide,by decide +kernel⟩
def je:kj "b":=⟨98,by decide,by decide,by decide +kernel⟩
def mr:kj "c":=⟨99,by decide,by decide,by decide +kernel⟩
def jo:cS "up":=.inl rfl
def lr:cS "down":=.inr (.inl rfl)
def ix:cS "stay":=.inr (.inr (.inl rfl))
def m7:cS "zero":=.inr (.inr (.inr rfl))
def ec(h:n<=1000):n<sizeLine:=Nat.lt_of_le_of_lt h (by decide)
def kD{a b:V}{e:Int}(c:0<=e)(h1:e<2):∃v,bZ [a,b] e=Vo v/\(v=a\/v=b):=by
 have:e=0\/e=1:=by omega
 rcases this with rfl|rfl
 .exact⟨a,rfl,.inl rfl⟩
 .exact⟨b,rfl,.inr rfl⟩
def dZ(h:∀u∈us,u.Ok3 m)(b:w.Ok3 m):∀u∈us++[w],u.Ok3 m:=λu a=>by
 rcases DF.mp a with a|a
 .exact h u a
 .rw[Dt.mp a];exact b
def wI:(DR "ab").cps.toList=[97,98]:=by decide +kernel
def Bw{e:Int}(a:0<=e)(h1:e<2):∃c,bZ (DR "ab").cps.toList e=Vo c/\97<=c/\c<=99:=by
 rw[wI];have:e=0\/e=1:=by omega
 rcases this with rfl|rfl
 .exact⟨97,rfl,by decide,by decide⟩
 .exact⟨98,rfl,by decide,by decide⟩
def cN{ws ds:List Int}(b:ds.length=ws.length)(hb:∀(i:Nat) (d x:Int),ds[i]?=Vo d->ws[i]?=Vo x->0<=d/\d<x)(i:Nat){x:Int}(a:ws[i]?=Vo x):∃d,bZ (ds.map V.int) (i:Int)=Vo (.int d)/\0<=d/\d<x:=by
 have hi:i<ds.length:=by rw[b];exact(Dr.mp a).1
 have g:ds[i]?=Vo ds[i]:=Di hi;exact⟨ds[i],ck (by rw[Dj,g];rfl),hb i _ x g a⟩
def wa(K:Dd):Sp:=λvs H Q _=>∃c p,vs=[.int c,.int p]/\0<p/\∀v m ws H',Ext H H'->bE H' v m ws->HOuse3 m ws->Q v H'
abbrev mQ:Vl:=stq 46
def rQ:FnScope ["_law_cell_here","_law_prime","_law_draws_here","_law_up","_law_down","_law_many","_law_ways","_law_k"] ["_law_cell_here","_law_prime"] (aK mQ):=⟨rfl,rfl,rfl,by decide +kernel,rfl,by decide +kernel,by decide +kernel⟩
def wt{P:Vd}{w:Ve}{K:Dd}{mg:Vn->Option Va}{base:Vh}(D:Dfn K mg "_law_gate_house" mQ ["_law_cell_here","_law_prime"])(T:Blt mg)(d:Cal P w K mg base "_law_unlike" 1 ["_law_ways"] (o3 K))(g:Cal P w K mg base "_law_draws" 2 ["_law_cell_here","_law_widths","_law_prime"] (fT K)):Cal P w K mg base "_law_gate_house" 3 ["_law_cell_here","_law_prime"] (wa K):=by
 have nd:=(rQ).nd;refine D.ok rQ (λvs H Q E h=>?_) (λX hX H vs Q E h=>?_)
 .obtain⟨c,p,rfl,_⟩:=h;rfl
 .obtain⟨f,cdv,A,outer,s,H0,E0,rfl,hr⟩:=hX;obtain⟨c,p,rfl,hp,q⟩:=h;refine⟨_,(@ak _ _ _ _ _ (@ay _ _ 2 _ _ _ _ nd rfl (Or.inl rfl) (aC g hr (@ae _ _ _ _ _ (pv 0) (@ae _ _ _ _ _ (@aU _ _ _ _ (gJ (.c (.c (.c (.c (.c (.c (.c .n))))))))) (@ae _ _ _ _ _ (pv 1) af rfl) rfl) rfl)) rfl (Or.inl rfl))
    (@ak _ _ _ _ _ (qD (i:=3) (j:=4) rfl nd rfl rfl (by decide) rfl rfl (@ae _ _ _ _ _ (aj aM ag (@aq _ _ _ _ _ _ _ (aB K) (pv 2) ag (λ_ _=>rfl))) (@ae _ _ _ _ _ (aj aM ag (@aq _ _ _ _ _ _ _ (aB K) (pv 2) ag (λ_ _=>rfl))) af rfl) rfl) rfl)
    (@ak _ _ _ _ _ (@ay _ _ 5 _ _ _ _ nd rfl (Or.inl rfl) (aj aM (aj aM (pv 3) (pv 4)) ag) rfl (Or.inl rfl))
    (@ak _ _ _ _ _ (@ay _ _ 6 _ _ _ _ nd rfl (Or.inl rfl) (@aU _ _ _ _ af) rfl (Or.inl rfl))
    (@ak _ _ _ _ _ (dO PassesOwn.never rfl (eB rfl T.range_ (@ae _ _ _ _ _ (pv 3) af rfl)) (aV (i:=7) nd rfl (Or.inl rfl)) (@au _ _ _ (cF (bo K Dp DD DE cB (pv 6) (@ae _ _ _ _ _ (@bA _ _ _ _ _ (@ae _ _ _ _ _ (pv 7) (@ae _ _ _ _ _ ai (@ae _ _ _ _ _ (aj cj (aj aM (pv 7) ag) (pv 3)) (@ae _ _ _ _ _ (@aq _ _ _ _ _ _ _ jj ai (@aq _ _ _ _ _ _ _ (aB K) (pv 2) ag (λ_ _=>rfl)) (λ_ _=>rfl)) af rfl) rfl) rfl) rfl)) af rfl)))))
    (@ak _ _ _ _ _ (cF (bo K Dp DD DE cB (pv 6) (@ae _ _ _ _ _ (@bA _ _ _ _ _ (@ae _ _ _ _ _ (aj cj (@aq _ _ _ _ _ _ _ (aB K) (pv 2) ag (λ_ _=>rfl)) (pv 3)) (@ae _ _ _ _ _ ai (@ae _ _ _ _ _ (pv 3) (@ae _ _ _ _ _ ai af rfl) rfl) rfl) rfl)) af rfl)))
    (@ak _ _ _ _ _ (dO PassesOwn.never rfl (eB rfl T.range_ (@ae _ _ _ _ _ (pv 4) af rfl)) (aV (i:=7) nd rfl (Or.inl rfl)) (@au _ _ _ (cF (bo K Dp DD DE cB (pv 6) (@ae _ _ _ _ _ (@bA _ _ _ _ _ (@ae _ _ _ _ _ (aj aM (pv 3) (pv 7)) (@ae _ _ _ _ _ ai (@ae _ _ _ _ _ (aj aM (pv 3) (aj cj (aj aM (pv 7) ag) (pv 4))) (@ae _ _ _ _ _ ai af rfl) rfl) rfl) rfl)) af rfl)))))
    (@ak _ _ _ _ _ (cF (bo K Dp DD DE cB (pv 6) (@ae _ _ _ _ _ (@bA _ _ _ _ _ (@ae _ _ _ _ _ (aj aM (pv 3) (aj cj (@aq _ _ _ _ _ _ _ (aB K) (pv 2) ag (λ_ _=>rfl)) (pv 4))) (@ae _ _ _ _ _ ai (@ae _ _ _ _ _ (aj dC (pv 5) ag) (@ae _ _ _ _ _ ai af rfl) rfl) rfl) rfl)) af rfl)))
    (@ak _ _ _ _ _ (cF (bo K Dp DD DE cB (pv 6) (@ae _ _ _ _ _ (@bA _ _ _ _ _ (@ae _ _ _ _ _ (aj dC (pv 5) ag) (@ae _ _ _ _ _ (@aq _ _ _ _ _ _ _ (aB K) (@aU _ _ _ _ (@ae _ _ _ _ _ ai (@ae _ _ _ _ _ ai af rfl) rfl)) (@aq _ _ _ _ _ _ _ (aB K) (pv 2) ag (λ_ _=>rfl)) (λ_ _=>rfl)) (@ae _ _ _ _ _ (@aq _ _ _ _ _ _ _ (aB K) (@aU _ _ _ _ (@ae _ _ _ _ _ ag (@ae _ _ _ _ _ (aj dC (pv 5) ag) af rfl) rfl)) (@aq _ _ _ _ _ _ _ (aB K) (pv 2) ag (λ_ _=>rfl)) (λ_ _=>rfl)) (@ae _ _ _ _ _ ai af rfl) rfl) rfl) rfl)) af rfl)))
    (@au _ _ _ (@ax _ _ _ _ (@bA _ _ _ _ _ (@ae _ _ _ _ _ (pv 5) (@ae _ _ _ _ _ (aC d hr (@ae _ _ _ _ _ (pv 6) af rfl)) af rfl) rfl))))))))))))),?_⟩
  walk_at"";refine aH λw0 G1 f1 a2 _=>?_;walk_at"";refine fW [6,5,6,5,2,2,2] a2 (by decide) (by decide) (hp) λdq ds H1 e1 hd b5 L hb=>?_;have eH:Ext H H1:=f1.trans e1;obtain⟨d0,g0,a3,a4⟩:=cN L hb 0 rfl;obtain⟨d1,g1,a5,a6⟩:=cN L hb 1 rfl;obtain⟨S,g2,b7,b8⟩:=cN L hb 2 rfl;obtain⟨R,g3,ba,bb⟩:=cN L hb 3 rfl;obtain⟨d4,g4,a7,a8⟩:=cN L hb 4 rfl;obtain⟨d5,g5,a9,aa⟩:=cN L hb 5 rfl;obtain⟨d6,g6,ab,ac⟩:=cN L hb 6 rfl;clear hb L;walk_at"";refine az (ah.of hd) g0 ?_;walk_at"";refine az (ah.of hd) g1 ?_;walk_at"";obtain⟨U,hU⟩:∃U:Nat,1+d0=(U:Int):=⟨(1+d0).toNat,by omega⟩;obtain⟨D,hD⟩:∃D:Nat,1+d1=(D:Int):=⟨(1+d1).toNat,by omega⟩;rw[hU,hD];have u1:1<=U:=by omega
  have u6:U<=6:=by omega
  have v1:1<=D:=by omega
  have v5:D<=5:=by omega
  clear a3 a4 a5 a6 hU hD;obtain⟨m,hm⟩:∃m:Int,(U:Int)+(D:Int)+1=m:=⟨_,rfl⟩;rw[hm];refine aH λf H2 e2 hf ad=>?_;walk_at"";refine er (by omega) ?_;have l:H1 f=Vp:=ad;refine forR (λi σ M=>∃(k:Option V) (us:List Way),σ=[Vo (.int c),Vo (.int p),Vo (.ref dq),Vo (.int U),Vo (.int D),Vo (.int m),Vo (.ref f),k]/\WL H1 M f us/\(∀u∈us,u.Ok3 m)/\us.length=i)
   ⟨Vp,[],rfl,WL.nil e2 hf,λu W=>by simp at W,rfl⟩ ?_ ?_
  .rintro i σ M hi ⟨k,us,rfl,wl,ok,len⟩;rw[Dv]at hi;walk_at"";refine⟨wl.ty (Ext.rfl' _),?_⟩;walk_at""
   try refine rd_I (show(0:Int)<(U:Int) by omega) ?_
   walk_at"";refine az (ah.of (wl.ext _ _ hd)) g4 ?_;obtain⟨s,hs,s1,s2⟩:=Bw a7 a8;refine⟨_,_,s,rfl,rfl,ie (by decide +kernel),hs,?_⟩;walk_at"";refine aH λv Y J F _=>?_;walk_at"";obtain⟨xs,G,B,N⟩:=wl.push (w:=⟨0+(i:Int),"up",(0+(i:Int)+1) % (U:Int),⟨#[s]⟩⟩) l J F;refine cG G (ec (by omega)) ?_;walk_at"";exact⟨_,_,rfl,N,dZ ok ⟨by show 0<=0+(i:Int);omega,by show 0+(i:Int)<m;omega,Int.emod_nonneg _ (by omega),Int.lt_trans (Int.emod_lt_of_pos _ (by omega)) (by omega),jo,s,s1,s2,rfl⟩,by simp[len]⟩
  rintro σ M ⟨k,us,rfl,wl,ok,len⟩;rw[Dv]at len;walk_at"";refine⟨wl.ty (Ext.rfl' _),?_⟩;walk_at"";refine az (ah.of (wl.ext _ _ hd)) g2 ?_
  try refine rd_I (show(0:Int)<(U:Int) by omega) ?_
  walk_at"";refine aH λv Y J F _=>?_;walk_at"";have r0:0<=S % (U:Int):=Int.emod_nonneg _ (by omega);have r1:S % (U:Int)<U:=Int.emod_lt_of_pos _ (by omega);obtain⟨xs,G,B,e⟩:=wl.push (w:=⟨S % (U:Int),"stay",(U:Int),"b"⟩) l J F;have C:=dZ ok (w:=⟨S % (U:Int),"stay",(U:Int),"b"⟩) ⟨r0,by show S % (U:Int)<m;omega,by show 0<=(U:Int);omega,by show(U:Int)<m;omega,ix,je⟩;refine cG G (ec (by omega)) ?_;generalize upd Y f _=H5 at e ⊢;generalize o:us++[_]=I at e C;have x:I.length=U+1:=by rw[<-o];simp[len]
  clear o G B F J r0 r1 wl ok len;walk_at"";refine er (by omega) ?_;refine forR (λi σ M=>∃(k:Option V) (us:List Way),σ=[Vo (.int c),Vo (.int p),Vo (.ref dq),Vo (.int U),Vo (.int D),Vo (.int m),Vo (.ref f),k]/\WL H1 M f us/\(∀u∈us,u.Ok3 m)/\us.length=U+1+i)
   ⟨_,I,rfl,e,C,x⟩ ?_ ?_
  .rintro i σ M hi ⟨k,us,rfl,wl,ok,len⟩;rw[Dv]at hi;walk_at"";refine⟨wl.ty (Ext.rfl' _),?_⟩;walk_at""
   try refine rd_I (show(0:Int)<(D:Int) by omega) ?_
   walk_at"";refine aH λv Y J F _=>?_;walk_at"";have r0:0<=(0+(i:Int)+1) % (D:Int):=Int.emod_nonneg _ (by omega);have r1:(0+(i:Int)+1) % (D:Int)<D:=Int.emod_lt_of_pos _ (by omega);obtain⟨xs,G,B,N⟩:=wl.push (w:=⟨(U:Int)+(0+(i:Int)),"down",(U:Int)+(0+(i:Int)+1) % (D:Int),"a"⟩) l J F;refine cG G (ec (by omega)) ?_;walk_at"";exact⟨_,_,rfl,N,dZ ok ⟨by show 0<=(U:Int)+(0+(i:Int));omega,by show(U:Int)+(0+(i:Int))<m;omega,by show 0<=(U:Int)+(0+(i:Int)+1) % (D:Int);omega,by show(U:Int)+(0+(i:Int)+1) % (D:Int)<m;omega,lr,ku⟩,by simp[len];omega⟩
  clear e C x;rintro σ M ⟨k,us,rfl,wl,ok,len⟩;rw[Dv]at len;walk_at"";refine⟨wl.ty (Ext.rfl' _),?_⟩;walk_at"";refine az (ah.of (wl.ext _ _ hd)) g3 ?_
  try refine rd_I (show(0:Int)<(D:Int) by omega) ?_
  walk_at"";refine aH λv Y J F _=>?_;walk_at"";have r0:0<=R % (D:Int):=Int.emod_nonneg _ (by omega);have r1:R % (D:Int)<D:=Int.emod_lt_of_pos _ (by omega);obtain⟨xs,G,B,e⟩:=wl.push (w:=⟨(U:Int)+R % (D:Int),"zero",m-1,"c"⟩) l J F;have C:=dZ ok (w:=⟨(U:Int)+R % (D:Int),"zero",m-1,"c"⟩) ⟨by show 0<=(U:Int)+R % (D:Int);omega,by show(U:Int)+R % (D:Int)<m;omega,by show 0<=m-1;omega,by show m-1<m;omega,m7,mr⟩;refine cG G (ec (by omega)) ?_;generalize upd Y f _=H5 at e ⊢;generalize o:us++[_]=I at e C;have x:I.length=U+D+2:=by rw[<-o];simp[len];omega
  clear o G B F J r0 r1 wl ok len;walk_at"";refine⟨e.ty (Ext.rfl' _),?_⟩;walk_at"";refine aH λt1 H6 e6 am _=>?_;walk_at"";refine az (ah.of (e6 _ _ (e.ext _ _ hd))) g5 ?_;obtain⟨x5,an,ap⟩:=kD (a:=V.str "up") (b:=V.str "stay") a9 aa;refine az (ah.of am) an ?_;walk_at"";refine aH λt2 H7 e7 as _=>?_;walk_at"";refine az (ah.of (e7 _ _ (e6 _ _ (e.ext _ _ hd)))) g6 ?_;obtain⟨x6,b0,b1⟩:=kD (a:=V.int 0) (b:=V.int (m-1)) ab ac;refine az (ah.of as) b0 ?_;walk_at"";refine aH λv H8 e8 F _=>?_;walk_at"";obtain⟨z,rfl,oz⟩:∃z,x5=.str z/\cS z:=by
   rcases ap with rfl|rfl
   .exact⟨_,rfl,jo⟩
   .exact⟨_,rfl,ix⟩
  obtain⟨y,rfl,y0,y1⟩:∃y:Int,x6=.int y/\0<=y/\y<m:=by
   rcases b1 with rfl|rfl
   .exact⟨_,rfl,by omega,by omega⟩
   .exact⟨_,rfl,by omega,by omega⟩
  obtain⟨xs,G,B,O⟩:=e.push (w:=⟨m-1,z,y,"b"⟩) l (e6.trans (e7.trans e8)) F;have ok3:=dZ C (w:=⟨m-1,z,y,"b"⟩) ⟨by show 0<=m-1;omega,by show m-1<m;omega,y0,y1,oz,je⟩;refine cG G (ec (by omega)) ?_;generalize upd H8 f _=H9 at O ⊢;generalize Z:I++[_]=a0 at O ok3;have b4:a0.length=U+D+3:=by rw[<-Z];simp[x]
  walk_at"";obtain⟨ew,cs,b2,al⟩:=O;refine⟨f,cs,a0,rfl,b2,al,λu W=>(ok3 u W).lay,by omega,λr I1 ws e5 b3 nd sub ln=>?_⟩;walk_at"";refine aH λt I2 a1 ht _=>?_;exact q _ m ws I2 (eH.trans (ew.trans (e5.trans a1))) (bE.mk ht (b3.ext a1)) ⟨by omega,by omega,by omega,λu W=>ok3 u (sub u W),nd⟩
def aZ.rev{bs:List Vb}(h:aZ H bs ws):aZ H bs.reverse ws.reverse:=by
 refine⟨by rw[List.length_reverse,List.length_reverse];exact h.1,λj b w a c=>?_⟩;have d:j<bs.length:=by have:=(Dr.mp a).1;simpa using this
 rw[List.getElem?_reverse d]at a;rw[List.getElem?_reverse (by rw[<-h.1];exact d),<-h.1]at c;exact h.2 _ b w a c
def iu(h:us.Nodup)(b:w∉us):(us++[w]).Nodup:=by rw[List.nodup_append];exact⟨h,by simp,λa ha c d=>by rw[Dt.mp d];exact λz=>b (z ▸ ha)⟩
def i8{P:Way->Prop}(h:∀u∈us,P u)(b:P w):∀u∈us++[w],P u:=λu a=>by
 rcases DF.mp a with a|a
 .exact h u a
 .rw[Dt.mp a];exact b
def v7:(DR "a")≠"b":=by decide +kernel
def p9:(DR "a")≠"c":=by decide +kernel
def lF:(DR "b")≠"c":=by decide +kernel
def p7(K:Dd):Sp:=λvs H Q _=>∃c p,vs=[.int c,.int p]/\0<p/\∀v m ws H',Ext H H'->bE H' v m ws->HOuse3 m ws->Q v H'
abbrev mW:Vl:=stq 45
def rY:FnScope ["_law_cell_here","_law_prime","_law_draws_here","_law_one","_law_two","_law_many","_law_ways","_law_k"] ["_law_cell_here","_law_prime"] (aK mW):=⟨rfl,rfl,rfl,by decide +kernel,rfl,by decide +kernel,by decide +kernel⟩
def AY{P:Vd}{w:Ve}{K:Dd}{mg:Vn->Option Va}{base:Vh}(D:Dfn K mg "_law_ring_house" mW ["_law_cell_here","_law_prime"])(T:Blt mg)(l:Cal P w K mg base "_law_draws" 2 ["_law_cell_here","_law_widths","_law_prime"] (fT K)):Cal P w K mg base "_law_ring_house" 3 ["_law_cell_here","_law_prime"] (p7 K):=by
 have nd:=(rY).nd;refine D.ok rY (λvs H Q E h=>?_) (λX hX H vs Q E h=>?_)
 .obtain⟨c,p,rfl,_⟩:=h;rfl
 .obtain⟨f,cdv,A,outer,s,H0,E0,rfl,hr⟩:=hX;obtain⟨c,p,rfl,hp,q⟩:=h;refine⟨_,(@ak _ _ _ _ _ (@ay _ _ 2 _ _ _ _ nd rfl (Or.inl rfl) (aC l hr (@ae _ _ _ _ _ (pv 0) (@ae _ _ _ _ _ (@aU _ _ _ _ (gJ (.c (.c (.c (.c (.c (.c (.c .n))))))))) (@ae _ _ _ _ _ (pv 1) af rfl) rfl) rfl)) rfl (Or.inl rfl))
    (@ak _ _ _ _ _ (qD (i:=3) (j:=4) rfl nd rfl rfl (by decide) rfl rfl (@ae _ _ _ _ _ (aj aM ag (@aq _ _ _ _ _ _ _ (aB K) (pv 2) ag (λ_ _=>rfl))) (@ae _ _ _ _ _ (aj aM ag (@aq _ _ _ _ _ _ _ (aB K) (pv 2) ag (λ_ _=>rfl))) af rfl) rfl) rfl)
    (@ak _ _ _ _ _ (@ay _ _ 5 _ _ _ _ nd rfl (Or.inl rfl) (aj aM (aj aM (pv 3) (pv 4)) ag) rfl (Or.inl rfl))
    (@ak _ _ _ _ _ (@ay _ _ 6 _ _ _ _ nd rfl (Or.inl rfl) (@aU _ _ _ _ (@ae _ _ _ _ _ (@bA _ _ _ _ _ (@ae _ _ _ _ _ ag (@ae _ _ _ _ _ ai (@ae _ _ _ _ _ ag (@ae _ _ _ _ _ ai af rfl) rfl) rfl) rfl)) (@ae _ _ _ _ _ (@bA _ _ _ _ _ (@ae _ _ _ _ _ ag (@ae _ _ _ _ _ (@aq _ _ _ _ _ _ _ (aB K) (@aU _ _ _ _ (@ae _ _ _ _ _ ai (@ae _ _ _ _ _ ai af rfl) rfl)) (@aq _ _ _ _ _ _ _ (aB K) (pv 2) ag (λ_ _=>rfl)) (λ_ _=>rfl)) (@ae _ _ _ _ _ (aj aM ag (pv 3)) (@ae _ _ _ _ _ ai af rfl) rfl) rfl) rfl)) af rfl) rfl)) rfl (Or.inl rfl))
    (@ak _ _ _ _ _ (dO PassesOwn.never rfl (eB rfl T.range_ (@ae _ _ _ _ _ (pv 3) af rfl)) (aV (i:=7) nd rfl (Or.inl rfl)) (@au _ _ _ (cF (bo K Dp DD DE cB (pv 6) (@ae _ _ _ _ _ (@bA _ _ _ _ _ (@ae _ _ _ _ _ (aj aM ag (pv 7)) (@ae _ _ _ _ _ ai (@ae _ _ _ _ _ (aj aM ag (aj cj (aj aM (pv 7) ag) (pv 3))) (@ae _ _ _ _ _ ai af rfl) rfl) rfl) rfl)) af rfl)))))
    (@ak _ _ _ _ _ (dO PassesOwn.never rfl (eB rfl T.range_ (@ae _ _ _ _ _ (pv 4) af rfl)) (aV (i:=7) nd rfl (Or.inl rfl)) (@au _ _ _ (cF (bo K Dp DD DE cB (pv 6) (@ae _ _ _ _ _ (@bA _ _ _ _ _ (@ae _ _ _ _ _ (aj aM (aj aM ag (pv 3)) (pv 7)) (@ae _ _ _ _ _ (@aq _ _ _ _ _ _ _ (aB K) (@aU _ _ _ _ (@ae _ _ _ _ _ ai (@ae _ _ _ _ _ ai af rfl) rfl)) (@aq _ _ _ _ _ _ _ (aB K) (pv 2) ag (λ_ _=>rfl)) (λ_ _=>rfl)) (@ae _ _ _ _ _ (aj aM (aj aM ag (pv 3)) (aj cj (aj aM (pv 7) ag) (pv 4))) (@ae _ _ _ _ _ ai af rfl) rfl) rfl) rfl)) af rfl)))))
    (@ak _ _ _ _ _ (cF (bo K Dp DD DE cB (pv 6) (@ae _ _ _ _ _ (@bA _ _ _ _ _ (@ae _ _ _ _ _ ag (@ae _ _ _ _ _ ai (@ae _ _ _ _ _ (aj dC (pv 5) ag) (@ae _ _ _ _ _ ai af rfl) rfl) rfl) rfl)) af rfl)))
    (@ak _ _ _ _ _ (cF (bo K Dp DD DE cB (pv 6) (@ae _ _ _ _ _ (@bA _ _ _ _ _ (@ae _ _ _ _ _ (aj aM ag (pv 3)) (@ae _ _ _ _ _ ai (@ae _ _ _ _ _ (aj dC (pv 5) ag) (@ae _ _ _ _ _ ai af rfl) rfl) rfl) rfl)) af rfl)))
    (@ak _ _ _ _ _ (dX (aD b6 (@aq _ _ _ _ _ _ _ (aB K) (pv 2) ag (λ_ _=>rfl)) ag (aA _)) (@au _ _ _ (cF (bo K Dp DD DE cB (pv 6) (@ae _ _ _ _ _ (@bA _ _ _ _ _ (@ae _ _ _ _ _ (aj dC (pv 5) ag) (@ae _ _ _ _ _ ai (@ae _ _ _ _ _ (aj dC (pv 5) ag) (@ae _ _ _ _ _ ai af rfl) rfl) rfl) rfl)) af rfl)))) aO)
    (@ak _ _ _ _ _ (dX (aD b6 (@aq _ _ _ _ _ _ _ (aB K) (pv 2) ag (λ_ _=>rfl)) ag (aA _)) (@au _ _ _ (cF (bo K Dp DD DE cB (pv 6) (@ae _ _ _ _ _ (@bA _ _ _ _ _ (@ae _ _ _ _ _ (aj dC (pv 5) ag) (@ae _ _ _ _ _ ai (@ae _ _ _ _ _ ag (@ae _ _ _ _ _ ai af rfl) rfl) rfl) rfl)) af rfl)))) aO)
    (@ak _ _ _ _ _ (dX (aD b6 (@aq _ _ _ _ _ _ _ (aB K) (pv 2) ag (λ_ _=>rfl)) ag (aA _)) (@au _ _ _ (@ay _ _ 6 _ _ _ _ nd rfl (Or.inl rfl) (lR K (pv 6) (bw (lJ lL ag))) rfl (Or.inl rfl))) aO)
    (@au _ _ _ (@ax _ _ _ _ (@bA _ _ _ _ _ (@ae _ _ _ _ _ (pv 5) (@ae _ _ _ _ _ (bT (eX K) rfl T.tuple_ PyProof.Rows.boot_tuple (@ae _ _ _ _ _ (pv 6) af rfl)) af rfl) rfl))))))))))))))),?_⟩
  walk_at"";refine aH λw0 G1 f1 b0 _=>?_;walk_at"";refine fW [5,5,2,2,4,4,2] b0 (by decide) (by decide) (hp) λdq ds H1 e1 hd c3 S hb=>?_;have eH:Ext H H1:=f1.trans e1;obtain⟨d0,g0,b1,b2⟩:=cN S hb 0 rfl;obtain⟨d1,g1,b3,b4⟩:=cN S hb 1 rfl;obtain⟨d2,g2,b5,b7⟩:=cN S hb 2 rfl;obtain⟨d3,g3,b8,ba⟩:=cN S hb 3 rfl;obtain⟨d4,g4,_⟩:=cN S hb 4 rfl;obtain⟨d5,g5,_⟩:=cN S hb 5 rfl;obtain⟨d6,g6,_⟩:=cN S hb 6 rfl;clear hb S;walk_at"";refine az (ah.of hd) g0 ?_;walk_at"";refine az (ah.of hd) g1 ?_;walk_at"";obtain⟨U,hU⟩:∃U:Nat,1+d0=(U:Int):=⟨(1+d0).toNat,by omega⟩;obtain⟨D,hD⟩:∃D:Nat,1+d1=(D:Int):=⟨(1+d1).toNat,by omega⟩;rw[hU,hD];have u1:1<=U:=by omega
  have u6:U<=5:=by omega
  have v1:1<=D:=by omega
  have v5:D<=5:=by omega
  clear b1 b2 b3 b4 hU hD;obtain⟨m,hm⟩:∃m:Int,(U:Int)+(D:Int)+2=m:=⟨_,rfl⟩;rw[hm];refine aH λa1 H2 e2 am _=>?_;walk_at"";refine aH λt1 W e3 N _=>?_;walk_at"";refine az (ah.of (e3 _ _ (e2 _ _ hd))) g2 ?_;obtain⟨x2,bb,bc⟩:=kD (a:=V.str "stay") (b:=V.str "zero") b5 b7;refine az (ah.of N) bb ?_;walk_at"";obtain⟨z2,rfl,be⟩:∃z,x2=.str z/\cS z:=by
   rcases bc with rfl|rfl
   .exact⟨_,rfl,ix⟩
   .exact⟨_,rfl,m7⟩
  refine aH λa2 Y x an _=>?_;walk_at"";refine aH λf H5 e5 hf bi=>?_;have bl:Ext H1 H5:=e2.trans (e3.trans (x.trans e5));have o:H1 f=Vp:=(e2.trans (e3.trans x)).none bi;obtain⟨y1,J⟩:∃y:Way,y=⟨0,"stay",1,"a"⟩:=⟨_,rfl⟩;obtain⟨y2,L⟩:∃y:Way,y=⟨0,z2,1+(U:Int),"b"⟩:=⟨_,rfl⟩;have a5:WL H1 H5 f [y1,y2]:=by
   refine⟨bl,[a1,a2],hf,?_⟩;have k1:H5 a1=Vo (.tup y1.vs):=by rw[J];exact e5 _ _ (x _ _ (e3 _ _ am))
   have k2:H5 a2=Vo (.tup y2.vs):=by rw[L];exact e5 _ _ an
   exact((aZ.nil H5).snoc k1).snoc k2
  have a6:∀u∈[y1,y2],u.Ok3 m:=by
   intro u e;rcases Dw.mp e with rfl|e
   .subst J;exact⟨Int.le_refl _,by show(0:Int)<m;omega,by show(0:Int)<=1;decide,by show(1:Int)<m;omega,ix,ku⟩
   .rw[Dt.mp e];subst L;exact⟨Int.le_refl _,by show(0:Int)<m;omega,by show(0:Int)<=1+(U:Int);omega,by show 1+(U:Int)<m;omega,be,je⟩
  have a7:[y1,y2].Nodup:=by subst J L;refine List.nodup_cons.mpr ⟨λz=>?_,by simp⟩;have:=congrArg Way.sign (Dt.mp z);exact v7 this
  have a8:∀u∈[y1,y2],u.room<=((0:Nat):Int)/\u.sign≠"c":=by
   intro u e;rcases Dw.mp e with rfl|e
   .subst J;exact⟨Int.le_refl _,p9⟩
   .rw[Dt.mp e];subst L;exact⟨Int.le_refl _,lF⟩
  have a9:[y1,y2].length=2:=rfl;generalize [y1,y2]=bm at a5 a6 a7 a8 a9;clear J L am an N hf e2 e3 x e5;walk_at"";refine er (by omega) ?_;refine forR (λi σ W=>∃(k:Option V) (us:List Way),σ=[Vo (.int c),Vo (.int p),Vo (.ref dq),Vo (.int U),Vo (.int D),Vo (.int m),Vo (.ref f),k]/\WL H1 W f us/\(∀u∈us,u.Ok3 m)/\us.Nodup/\(∀u∈us,u.room<=(i:Int)/\u.sign≠"c")/\us.length=2+i)
   ⟨Vp,bm,rfl,a5,a6,a7,a8,a9⟩ ?_ ?_
  .rintro i σ W hi ⟨k,us,rfl,wl,ok,d,pr,len⟩;rw[Dv]at hi;walk_at"";refine⟨wl.ty (Ext.rfl' _),?_⟩;walk_at""
   try refine rd_I (show(0:Int)<(U:Int) by omega) ?_
   walk_at"";refine aH λv Y x G _=>?_;walk_at"";have r0:0<=(0+(i:Int)+1) % (U:Int):=Int.emod_nonneg _ (by omega);have r1:(0+(i:Int)+1) % (U:Int)<U:=Int.emod_lt_of_pos _ (by omega);obtain⟨xs,I,C,aa⟩:=wl.push (w:=⟨1+(0+(i:Int)),"up",1+(0+(i:Int)+1) % (U:Int),"a"⟩) o x G;refine cG I (ec (by omega)) ?_;walk_at"";refine⟨_,_,rfl,aa,dZ ok ⟨by show 0<=1+(0+(i:Int));omega,by show 1+(0+(i:Int))<m;omega,by show 0<=1+(0+(i:Int)+1) % (U:Int);omega,by show 1+(0+(i:Int)+1) % (U:Int)<m;omega,jo,ku⟩,iu d λz=>?_,i8 (λu e=>⟨by have:=(pr u e).1;omega,(pr u e).2⟩) ⟨by show 1+(0+(i:Int))<=_;omega,p9⟩,by simp[len];omega⟩;have:=(pr _ z).1;have:1+(0+(i:Int))<=(i:Int):=this;omega
  clear a5 a6 a7 a8 a9;rintro σ W ⟨k,us,rfl,wl,ok,d,pr,len⟩;rw[Dv]at pr len;walk_at"";refine er (by omega) ?_;refine forR (λi σ W=>∃(k:Option V) (us:List Way),σ=[Vo (.int c),Vo (.int p),Vo (.ref dq),Vo (.int U),Vo (.int D),Vo (.int m),Vo (.ref f),k]/\WL H1 W f us/\(∀u∈us,u.Ok3 m)/\us.Nodup/\(∀u∈us,u.room<=(U:Int)+(i:Int)/\u.sign≠"c"/\(u.room=1+(U:Int)->u.sign = "b"))/\us.length=2+U+i)
   ⟨_,us,rfl,wl,ok,d,λu e=>⟨by have:=(pr u e).1;omega,(pr u e).2,λz=>by have:=(pr u e).1;omega⟩,len⟩ ?_ ?_
  .clear wl ok d pr len;rintro i σ W hi ⟨k,us,rfl,wl,ok,d,pr,len⟩;rw[Dv]at hi;walk_at"";refine⟨wl.ty (Ext.rfl' _),?_⟩;walk_at"";refine aH λt1 H6 e6 N _=>?_;walk_at"";refine az (ah.of (e6 _ _ (wl.ext _ _ hd))) g3 ?_;obtain⟨x3,bn,bv⟩:=kD (a:=V.str "up") (b:=V.str "down") b8 ba;refine az (ah.of N) bn ?_;walk_at"";obtain⟨z3,rfl,c0⟩:∃z,x3=.str z/\cS z:=by
    rcases bv with rfl|rfl
    .exact⟨_,rfl,jo⟩
    .exact⟨_,rfl,lr⟩
   try refine rd_I (show(0:Int)<(D:Int) by omega) ?_
   walk_at"";refine aH λv Y x G _=>?_;walk_at"";have r0:0<=(0+(i:Int)+1) % (D:Int):=Int.emod_nonneg _ (by omega);have r1:(0+(i:Int)+1) % (D:Int)<D:=Int.emod_lt_of_pos _ (by omega);obtain⟨xs,I,C,aa⟩:=wl.push (w:=⟨1+(U:Int)+(0+(i:Int)),z3,1+(U:Int)+(0+(i:Int)+1) % (D:Int),"b"⟩) o (e6.trans x) G;refine cG I (ec (by omega)) ?_;walk_at"";refine⟨_,_,rfl,aa,dZ ok ⟨by show 0<=1+(U:Int)+(0+(i:Int));omega,by show 1+(U:Int)+(0+(i:Int))<m;omega,by show 0<=1+(U:Int)+(0+(i:Int)+1) % (D:Int);omega,by show 1+(U:Int)+(0+(i:Int)+1) % (D:Int)<m;omega,c0,je⟩,iu d λz=>?_,i8 (λu e=>⟨by have:=(pr u e).1;omega,(pr u e).2⟩) ⟨by show 1+(U:Int)+(0+(i:Int))<=_;omega,lF,λ_=>rfl⟩,by simp[len];omega⟩;have:=(pr _ z).1;have:1+(U:Int)+(0+(i:Int))<=(U:Int)+(i:Int):=this;omega
  clear wl ok d pr len;rintro σ W ⟨k,us,rfl,wl,ok,d,pr,len⟩;rw[Dv]at pr len;walk_at"";refine⟨wl.ty (Ext.rfl' _),?_⟩;walk_at"";refine aH λv Y x G _=>?_;walk_at"";obtain⟨xs,I,C,M⟩:=wl.push (w:=⟨1,"stay",m-1,"c"⟩) o x G;have ab:=dZ ok (w:=⟨1,"stay",m-1,"c"⟩) ⟨by show(0:Int)<=1;decide,by show(1:Int)<m;omega,by show 0<=m-1;omega,by show m-1<m;omega,ix,mr⟩;have ac:=iu d (w:=⟨1,"stay",m-1,"c"⟩) λz=>(pr _ z).2.1 rfl;have pr2:=i8 (P:=λu=>u.room<=(U:Int)+(D:Int)/\(u.room=1+(U:Int)->u.sign = "b")) (λu e=>⟨(pr u e).1,(pr u e).2.2⟩) (w:=⟨1,"stay",m-1,"c"⟩) ⟨by show(1:Int)<=_;omega,λz=>by have:(1:Int)=1+(U:Int):=z;omega⟩;refine cG I (ec (by omega)) ?_;generalize upd Y f _=H5 at M ⊢;generalize Z:us++[_]=ap at M ab ac pr2;have a0:ap.length=3+U+D:=by rw[<-Z];simp[len];omega
  clear Z I C G x wl ok d pr len;walk_at"";refine⟨M.ty (Ext.rfl' _),?_⟩;walk_at"";refine aH λv Y x G _=>?_;walk_at"";obtain⟨xs,I,C,F⟩:=M.push (w:=⟨1+(U:Int),"stay",m-1,"a"⟩) o x G;have ok3:=dZ ab (w:=⟨1+(U:Int),"stay",m-1,"a"⟩) ⟨by show(0:Int)<=1+(U:Int);omega,by show 1+(U:Int)<m;omega,by show 0<=m-1;omega,by show m-1<m;omega,ix,ku⟩;have O:=iu ac (w:=⟨1+(U:Int),"stay",m-1,"a"⟩) λz=>v7 ((pr2 _ z).2 rfl);have pr3:=i8 (P:=λu=>u.room<=(U:Int)+(D:Int)) (λu e=>(pr2 u e).1) (w:=⟨1+(U:Int),"stay",m-1,"a"⟩) (by show 1+(U:Int)<=_;omega);refine cG I (ec (by omega)) ?_;generalize upd Y f _=H6 at F ⊢;generalize a3:ap++[_]=as at F ok3 O pr3;have a4:as.length=4+U+D:=by rw[<-a3];simp[a0];omega
  clear a3 I C G x M ab ac pr2 a0;walk_at"";refine fo (λB H'=>∃(k:Option V) (us:List Way),B=[Vo (.int c),Vo (.int p),Vo (.ref dq),Vo (.int U),Vo (.int D),Vo (.int m),Vo (.ref f),k]/\WL H1 H' f us/\(∀u∈us,u.Ok3 m)/\us.Nodup/\(∀u∈us,u.room<=(U:Int)+(D:Int)\/u.sign = "c")/\us.length<=5+U+D) ?_ ?_
  .walk_at"";refine az (ah.of (F.ext _ _ hd)) g4 ?_;walk_at"";refine cJ (λh=>?_) (λh=>?_)
   .walk_at"";refine⟨F.ty (Ext.rfl' _),?_⟩;walk_at"";refine aH λv Y x G _=>?_;walk_at"";obtain⟨xs,I,C,ad⟩:=F.push (w:=⟨m-1,"down",m-1,"c"⟩) o x G;refine cG I (ec (by omega)) ?_;walk_at"";exact⟨_,_,rfl,ad,dZ ok3 ⟨by show 0<=m-1;omega,by show m-1<m;omega,by show 0<=m-1;omega,by show m-1<m;omega,lr,mr⟩,iu O λz=>by have:m-1<=(U:Int)+(D:Int):=pr3 _ z;omega,i8 (λu e=>.inl (pr3 u e)) (.inr rfl),by simp[a4];omega⟩
   .walk_at"";exact⟨_,as,rfl,F,ok3,O,λu e=>.inl (pr3 u e),by omega⟩
  clear F ok3 O pr3 a4;rintro B H7 ⟨k,us,rfl,wl,ok,d,pr,len⟩;walk_at"";refine fo (λB H'=>∃(k:Option V) (us:List Way),B=[Vo (.int c),Vo (.int p),Vo (.ref dq),Vo (.int U),Vo (.int D),Vo (.int m),Vo (.ref f),k]/\WL H1 H' f us/\(∀u∈us,u.Ok3 m)/\us.Nodup/\us.length<=6+U+D) ?_ ?_
  .walk_at"";refine az (ah.of (wl.ext _ _ hd)) g5 ?_;walk_at"";refine cJ (λh=>?_) (λh=>?_)
   .walk_at"";refine⟨wl.ty (Ext.rfl' _),?_⟩;walk_at"";refine aH λv Y x G _=>?_;walk_at"";obtain⟨xs,I,C,ad⟩:=wl.push (w:=⟨m-1,"zero",0,"b"⟩) o x G;refine cG I (ec (by omega)) ?_;walk_at"";exact⟨_,_,rfl,ad,dZ ok ⟨by show 0<=m-1;omega,by show m-1<m;omega,by show(0:Int)<=0;decide,by show(0:Int)<m;omega,m7,je⟩,iu d (λz=>(pr _ z).elim (λy=>by have:m-1<=(U:Int)+(D:Int):=y;omega) λy=>lF y),by simp;omega⟩
   .walk_at"";exact⟨_,us,rfl,wl,ok,d,by omega⟩
  clear wl ok d pr len;rintro B H8 ⟨k,us,rfl,wl,ok,d,len⟩;walk_at"";refine fo (λB H'=>∃(k:Option V) (f:Vb) (cs:List Vb) (us:List Way),B=[Vo (.int c),Vo (.int p),Vo (.ref dq),Vo (.int U),Vo (.int D),Vo (.int m),Vo (.ref f),k]/\Ext H1 H'/\H' f=Vo (.lst (cs.map V.ref))/\aZ H' cs us/\(∀u∈us,u.Ok3 m)/\us.Nodup/\us.length<=6+U+D) ?_ ?_
  .walk_at"";refine az (ah.of (wl.ext _ _ hd)) g6 ?_;walk_at"";obtain⟨ew,cs,R,al⟩:=wl;refine cJ (λh=>?_) (λh=>?_)
   .walk_at"";refine⟨rfl,nS (ah.of R) (aP λr H9 e9 c1 _=>?_)⟩;walk_at"";exact⟨_,r,cs.reverse,us.reverse,rfl,ew.trans e9,by rw[c1,List.map_reverse],(al.ext e9).rev,λu e=>ok u (List.mem_reverse.mp e),List.pairwise_reverse.mpr (d.imp λh=>Ne.symm h),by rw[List.length_reverse];omega⟩
   .walk_at"";exact⟨_,f,cs,us,rfl,ew,R,al,ok,d,by omega⟩
  clear wl ok d len;rintro B H9 ⟨k,g,cs,us,rfl,ew,R,al,ok,d,len⟩;walk_at"";refine eP (ah.of R) (aP λr I1 i1 c2 _=>?_);walk_at"";refine aH λt I2 i2 ht _=>?_;exact q _ m us I2 (eH.trans (ew.trans (i1.trans i2))) (bE.mk ht (((al.ext i1).ways c2).ext i2)) ⟨by omega,by omega,by omega,ok,d⟩
def qB(K:Dd):Sp:=λvs H Q _=>∃c p,vs=[.int c,.int p]/\0<p/\∀v m ws H',Ext H H'->bE H' v m ws->HOuse3 m ws->Q v H'
abbrev ll:Vl:=stq 47
def sR:FnScope ["_law_cell_here","_law_prime","_law_kind","_law_left"] ["_law_cell_here","_law_prime"] (aK ll):=⟨rfl,rfl,rfl,by decide +kernel,rfl,by decide +kernel,by decide +kernel⟩
def Bn{P:Vd}{w:Ve}{K:Dd}{mg:Vn->Option Va}{base:Vh}(D:Dfn K mg "_law_house" ll ["_law_cell_here","_law_prime"])(T:Blt mg)(a:Cal P w K mg base "_law_drawn_house" 3 ["_law_cell_here","_law_prime"] (vH K))(b:Cal P w K mg base "_law_gate_house" 3 ["_law_cell_here","_law_prime"] (wa K))(d:Cal P w K mg base "_law_ring_house" 3 ["_law_cell_here","_law_prime"] (p7 K))(g:Cal P w K mg base "_law_spare" 1 ["_law_cell_here","_law_width"] (u9 K))(j:Cal P w K mg base "_law_draws" 2 ["_law_cell_here","_law_widths","_law_prime"] (fT K)):Cal P w K mg base "_law_house" 4 ["_law_cell_here","_law_prime"] (qB K):=by
 have nd:=(sR).nd;refine D.ok sR (λvs H Q E h=>?_) (λX t H vs Q E h=>?_)
 .obtain⟨c,p,rfl,_⟩:=h;rfl
 .obtain⟨f,cdv,A,outer,s,H0,E0,rfl,k⟩:=t;obtain⟨c,p,rfl,n,q⟩:=h;refine⟨_,(ak (ay (i:=2) nd rfl (Or.inl rfl) (aq (aB K) (aC j k (ae (pv 0) (ae (aU (ae ag af)) (ae (pv 1) af)))) ag (λ_ _=>rfl)))
    (ak (ay (i:=3) nd rfl (Or.inl rfl) (aC g k (ae (pv 0) (ae ag af))))
    (ak (aT (aD b6 (pv 2) ag (aA _)) (au (ax (aC d k (ae (pv 3) (ae (pv 1) af))))) aO)
    (ak (aT (aD b6 (pv 2) ag (aA _)) (au (ax (aC b k (ae (pv 3) (ae (pv 1) af))))) aO)
    (au (ax (aC a k (ae (pv 3) (ae (pv 1) af))))))))),?_⟩
  walk_at"";refine aH λw0 F u o _=>?_;walk_at"";refine fW [8] o (by decide) (by decide) (n) λdq ds H1 x hd y B hb=>?_;have r:Ext H H1:=u.trans x;obtain⟨G,C,_⟩:=cN B hb 0 rfl;walk_at"";refine az (ah.of hd) C ?_;walk_at"";refine⟨c,8,rfl,by decide,by decide,λz=>?_⟩;walk_at"";refine cJ (λh=>?_) (λh=>?_)
  .walk_at"";exact⟨z,p,rfl,n,λv m ws H' e l ok=>q v m ws H' (r.trans e) l ok⟩
  .walk_at"";refine cJ (λh=>?_) (λh=>?_)
   .walk_at"";exact⟨z,p,rfl,n,λv m ws H' e l ok=>q v m ws H' (r.trans e) l ok⟩
   .walk_at"";exact⟨z,p,rfl,n,λv m ws H' e l ok=>q v m ws H' (r.trans e) l ok⟩
def cD(H:Hp)(n:Nat)(xs:List V):Prop:=∀x∈xs,bx H n x
theorem cD.ext{H H':Hp}{n:Nat}{xs:List V}(e:Ext H H')(h:cD H n xs):cD H' n xs:=λx a=>(h x a).ext e
def cD.nil(H:Hp)(n:Nat):cD H n []:=λx a=>by cases a
def cD.cons{H:Hp}{n:Nat}{x:V}{xs:List V}(h:bx H n x)(h':cD H n xs):cD H n (x::xs):=λy a=>by
 rcases Dw.mp a with rfl|a
 .exact h
 .exact h' y a
def eE(h:H p=Vo (.tup xs))(a:xs.length<=2000)(b:cD H n xs):bx H (n+1) (.ref p):=⟨xs,.inl h,a,b⟩
def bx.up:∀{n:Nat} {v:V},bx H n v->bx H (n+1) v:=by
 intro n;induction n with
 | zero=>
  intro v h;cases v<;>first|exact h|exact h.elim
 | succ n a=>
  intro v h;cases v with
  | ref p=>
   obtain⟨xs,h1,h2,b⟩:=h;exact⟨xs,h1,h2,λx c=>a (b x c)⟩
  | _=>exact h
def fh(H:Hp)(n:Nat)(i:Int):bx H n (.int i):=by cases n<;>trivial
def ng(H:Hp)(n:Nat):bx H n .non:=by cases n<;>trivial
def fI(H:Hp)(n:Nat)(h:z.length<=1000):bx H n (.str z):=by cases n<;>exact h
def Ay(h:cS z):z.length<=1000:=by rcases h with rfl|rfl|rfl|rfl<;>decide +kernel
def zQ(h:jm z):z.length<=1000:=by obtain⟨c,_,_,rfl⟩:=h;show 1<=1000;decide
def wX(ok:w.Ok m):cD H 0 w.vs:=
 .cons (fh _ _ _) (.cons (fI _ _ (Ay ok.dd)) (.cons (fh _ _ _) (.cons (fI _ _ (zQ ok.sg)) (.nil _ _))))
def yW(h:bE H v m ws)(ok:HOuse m ws):∃p q bs,v=.ref p/\H p=Vo (.tup [.int m,.ref q])/\H q=Vo (.tup (bs.map V.ref))/\bs.length=ws.length/\aZ H bs ws/\cD H 1 (bs.map V.ref):=by
 obtain⟨p,q,rfl,h1,h2⟩:=h;obtain⟨bs,f,a⟩:=h2.al;refine⟨p,q,bs,rfl,h1,f,a.1,a,λx g=>?_⟩;obtain⟨b,hb,rfl⟩:=List.mem_map.mp g;obtain⟨j,d,e⟩:=List.mem_iff_getElem.mp hb;have c:j<ws.length:=by rw[<-a.1];exact d
 have i:ws[j]?=Vo ws[j]:=Di c;exact eE (a.2 j b _ (by rw[Di d,e]) i) (by show 4<=2000;decide) (wX (ok.ok _ (DI _)))
def yc(h1:97<=c)(h2:c<=122):fQ ⟨#[c]⟩=true:=by
 have a:(DR "a").cps.toList=[97]:=by decide +kernel
 have b:(DR "z").cps.toList=[122]:=by decide +kernel
 unfold fQ;rw[a,b];show(!decide (([c]:List Nat) < [97]) && !decide (([122]:List Nat) < [c]))=true;rw[Ee (λz=>by rw[List.cons_lt_cons_iff]at z;simp at z;omega),Ee (λz=>by rw[List.cons_lt_cons_iff]at z;simp at z;omega)];rfl
def Bc(h:cS z):dY (.str z)=true:=by rcases h with rfl|rfl|rfl|rfl<;>decide +kernel
def yn{b:Vb}(h:H b=Vo (.tup w.vs))(ok:w.Ok m):bz H m (.ref b)=true:=by rw[iE h];obtain⟨c,h1,h2,e⟩:=ok.sg;unfold Way.vs eI;dsimp only;rw[kh ok.r0 ok.r1,kh ok.o0 ok.o1,Bc ok.dd,e];unfold dI;dsimp only;rw[yc h1 h2];rfl
theorem mT{H:Hp}:∀{bs:List Vb} {ws:List Way},aZ H bs ws->(bs.map V.ref).map (eo H)=ws.map Way.key
 | [],[],_=>rfl
 | [],_::_,h=>by cases h.1
 | _::_,[],h=>by cases h.1
 | b::bs,w::ws,h=>by rw[List.map_cons,List.map_cons,List.map_cons,mT (bs:=bs) (ws:=ws) ⟨Nat.succ.inj h.1,λj b w a c=>h.2 (j+1) b w a c⟩,uj (h.2 0 b w rfl rfl)];rfl
def wA{bs:List Vb}(h:aZ H bs ws)(ok:∀w∈ws,w.Ok m):(bs.map V.ref).all (bz H m)=true:=by
 rw[DO];intro x d;obtain⟨b,hb,rfl⟩:=List.mem_map.mp d;obtain⟨j,c,e⟩:=List.mem_iff_getElem.mp hb;have a:j<ws.length:=by rw[<-h.1];exact c
 exact yn (h.2 j b _ (by rw[Di c,e]) (Di a)) (ok _ (DI a))
def BF{q:Vb}{bs:List Vb}(h1:H p=Vo (.tup [.int m,.ref q]))(h2:H q=Vo (.tup (bs.map V.ref)))(a:aZ H bs ws)(m1:1<=m)(b:m<=12)(ok:∀w∈ws,w.Ok m)(nd:ws.Nodup):dG H (.ref p)=decide (ws.length<=100):=by
 rw[iN h1];unfold eO;dsimp only;rw[Ef m1,Ef b,iO h2];unfold dP;have c:(ws.map Way.key).Nodup:=by unfold List.Nodup at nd ⊢;rw[List.pairwise_map];exact nd.imp λne e=>ne (Way.key_inj e)
 rw[wA a ok,mT a,Ef c,Dh,a.1];simp
def gK{n:Int}(h:0<=n)(b:n<1000000):n.natAbs.log2<1920:=by
 by_cases a:n.natAbs=0
 .rw[a];decide
 .exact DL ((Nat.log2_lt a).mpr (show n.natAbs<2 ^ 20 by omega)) (by decide)
open Tx in
abbrev fg(w:Way):Vn:=Txt.join " " [bF w.room,w.deed,bF w.other,w.sign]
open Tx in
def kB(m:Int)(ws:List Way):Vn:=bF m++(":":Vn)++Txt.join "," (ws.map λw=>(" ":Vn)++fg w)
def sV(a b c d:Vn):(Txt.join " " [a,b,c,d]).length=a.length+b.length+c.length+d.length+3:=by show(Txt.join ⟨#[32]⟩ [a,b,c,d]).length=_;rw[Tx.oQ];show(a++(⟨#[32]⟩:Vn)++(b++(⟨#[32]⟩:Vn)++(c++(⟨#[32]⟩:Vn)++d))).length=_;rw[Str.length_append,Str.length_append,Str.length_append,Str.length_append,Str.length_append,Str.length_append];show a.length+1+(b.length+1+(c.length+1+d.length))=_;omega
def nu(h:cS z):z.length<=4:=by rcases h with rfl|rfl|rfl|rfl<;>decide
def kW(h:jm z):z.length=1:=by obtain⟨c,_,_,rfl⟩:=h;rfl
def Au(ok:w.Ok m)(a:m<=12):(fg w).length<=20:=by rw[sV];have h1:=Tx.fj ok.r0 (by have:=ok.r1;omega);have h2:=Tx.fj ok.o0 (by have:=ok.o1;omega);have b:=nu ok.dd;have c:=kW ok.sg;omega
theorem mR{k:Nat}:∀{zs:List Vn},(∀z∈zs,z.length<=k)->(zs.map (·.length)).sum<=k*zs.length
 | [],_=>Nat.zero_le _
 | z::zs,h=>by have h1:=h z Dn;have h2:=mR (k:=k) λx a=>h x (Dk z a);rw[List.map_cons,List.sum_cons,DJ,Nat.mul_succ];omega
def mF(c:Nat){k:Nat}(h:∀z∈zs,z.length<=k):(Txt.join ⟨#[c]⟩ zs).length<=(k+1)*zs.length:=by rw[Tx.oQ];have h1:=StrLaws.join_length_le ⟨#[c]⟩ zs;have h2:=mR h;have a:(⟨#[c]⟩:Vn).length=1:=rfl;rw[a,Nat.mul_one]at h1;rw[Nat.succ_mul];omega
def vz{k:Nat}(h:∀z∈zs,z.length<=k)(a:zs.length<=n)(e:(k+1)*n<=1000000):(zs.map (·.length)).sum+zs.length*(⟨#[c]⟩:Vn).length<=1000000:=by have h2:=mR h;have b:(⟨#[c]⟩:Vn).length=1:=rfl;have d:=Nat.mul_le_mul_left (k+1) a;rw[Nat.succ_mul]at d;rw[b];omega
def jT(b:bE H v m ws)(ok:HOuse m ws):bx H 4 v/\dG H v=true:=by obtain⟨p,q,bs,rfl,h1,h2,c,d,e⟩:=yW b ok;have a:=ok.few;have f:bx H 2 (.ref q):=eE h2 (by rw[Dh,c];omega) e;exact⟨eE h1 (by simp) (.cons (fh _ _ _) (.cons f.up (.nil _ _))),(BF h1 h2 d ok.m1 ok.m12 ok.ok ok.nd).trans (Ef ok.few)⟩
abbrev cV(xs:List Int):List Vn:=xs.map Tx.bF
def fq(b s:Int)(o a:List Int):List Vn:=[Tx.bF b,Tx.bF s]++[(":":Vn)]++cV o++[(":":Vn)]++cV a
theorem oA{lo hi:Int}:∀{xs:List Int},fS lo hi xs->(xs.length:Int)<=max 0 (hi-lo)
 | [],_=>by simp only[List.length_nil];omega
 | x::r,h=>by obtain⟨h1,h2,a⟩:=pF.mp h;have:=oA a;simp only[DJ];omega
structure Sml(b s:Int)(o a:List Int):Prop where
 b0:0<=b
 b1:b<1000000
 s0:0<=s
 s1:s<1000000
 o1:∀x∈o,0<=x/\x<1000000
 a1:∀x∈a,0<=x/\x<1000000
 ol:o.length<=10000
 al:a.length<=10000
def Gd.sml{b:Int}(g:Gd b s o a):Sml b s o a:=by
 have h1:=g.ok.hb;have h2:=g.ok.hs;have d:=g.b3;have e:=g.s8;refine⟨by omega,by omega,by omega,by omega,λx c=>?_,λx c=>?_,?_,?_⟩
 .have:=g.ok.ho.2 x c;omega
 .have:=g.ok.ha.2 x c;omega
 .have:=oA g.ok.ho;omega
 .have:=oA g.ok.ha;omega
def pI{b:Int}(g:Sml b s o a):∀z∈fq b s o a,z.length<=6:=by
 have e:(DR ":").length=1:=rfl;intro z d;unfold fq at d;simp only[DF,Dw,DN,or_false,List.mem_map]at d;rcases d with((((rfl|rfl)|rfl)|⟨x,c,rfl⟩)|rfl)|⟨x,c,rfl⟩
 .exact Tx.fj g.b0 g.b1
 .exact Tx.fj g.s0 g.s1
 .omega
 .exact Tx.fj (g.o1 x c).1 (g.o1 x c).2
 .omega
 .exact Tx.fj (g.a1 x c).1 (g.a1 x c).2
def pM{b:Int}:(fq b s o a).length=o.length+a.length+4:=by unfold fq;simp only[DA,Dh,DJ,List.length_nil];omega
theorem mem_join{c x:Nat}:∀{ps:List Vn},x∈(Str.join ⟨#[c]⟩ ps).cps.toList->x=c\/∃p∈ps,x∈p.cps.toList
 | [],h=>by cases h
 | [p],h=>.inr ⟨p,Dn,h⟩
 | p::q::r,h=>by
  rw[Tx.fH]at h;rcases DF.mp h with h|h
  .exact .inr ⟨p,Dn,h⟩
  .rcases Dw.mp h with h|h
   .exact .inl h
   .rcases mem_join h with h|⟨y,a,h⟩
    .exact .inl h
    .exact .inr ⟨y,Dk _ a,h⟩
def xK(h:cS z):∀c∈z.cps.toList,97<=c/\c<=122:=by rcases h with rfl|rfl|rfl|rfl<;>decide +kernel
def sign_sign(h:jm z):∀c∈z.cps.toList,97<=c/\c<=122:=by
 obtain⟨c,h1,h2,rfl⟩:=h;intro x a;have:x=c:=by simpa using a
 omega
abbrev CJ(w:Way):List Vn:=[⟨#[]⟩,Tx.bF w.room,w.deed,Tx.bF w.other,w.sign]
def wH(w:Way):(" ":Vn)++fg w=Str.join ⟨#[32]⟩ (CJ w):=by show(⟨#[32]⟩:Vn)++Txt.join ⟨#[32]⟩ [Tx.bF w.room,w.deed,Tx.bF w.other,w.sign]=(⟨#[]⟩:Vn)++(⟨#[32]⟩:Vn)++Str.join ⟨#[32]⟩ [Tx.bF w.room,w.deed,Tx.bF w.other,w.sign];rw[Tx.oQ];rfl
abbrev eC(ws:List Way):List Vn:=ws.map λw=>(" ":Vn)++fg w
def uq(ok:w.Ok m)(a:m<=12):((" ":Vn)++fg w).length<=21:=by rw[Str.length_append];have:=Au ok a;have:(DR " ").length=1:=rfl;omega
def yA(ok:∀w∈ws,w.Ok m)(a:m<=12)(b:ws.length<=100):(Txt.join "," (eC ws)).length<=2200:=by
 have h:=mF 44 (k:=21) (zs:=eC ws) λz c=>by obtain⟨w,d,rfl⟩:=List.mem_map.mp c;exact uq (ok w d) a
 rw[Dh]at h;have:=Nat.mul_le_mul_left 22 b;show(Txt.join ⟨#[44]⟩ (eC ws)).length<=2200;omega
def fc(a:(y.length == 0)=false)(b:z.length<=900000)(h:df H (.lst ((Txt.split z y).map V.str)) Q):rm (.str z) [.str y] H Q:=⟨z,y,rfl,rfl,a,DM (Nat.add_le_add_right b 2) (by decide),h⟩
def kM{a b:Nat}(c:a<=b)(f:b<=xs.length):bG xs (Vo (a:Int)) (Vo (b:Int))=(xs.drop a).take (b-a):=by
 unfold bG;have e:HT.aG xs.length xs.length (Vo (b:Int))=b:=by show(if(b:Int)<0 then((b:Int)+(xs.length:Int)).toNat else min (b:Int).toNat xs.length)=b;rw[Eg (by omega)];omega
 have d:HT.aG xs.length 0 (Vo (a:Int))=a:=by show(if(a:Int)<0 then((a:Int)+(xs.length:Int)).toNat else min (a:Int).toNat xs.length)=a;rw[Eg (by omega)];omega
 rw[e,d]
def tH(xs:List V)(n:Nat):bG xs (Vo (n:Int)) Vp=xs.drop n:=by
 unfold bG;rw[HT.rN,HT.lS];rcases Nat.le_total n xs.length with h|h
 .rw[Nat.min_eq_left h,List.take_of_length_le (by rw[List.length_drop];exact DC _)]
 .rw[Nat.min_eq_right h,List.drop_of_length_le h,List.drop_of_length_le (DC _),List.take_nil]
def oN{n:Int}(h:0<=n)(a:n<=12):(Tx.bF n).length<=2:=by
 obtain⟨k,rfl⟩:∃k:Nat,n=(k:Int):=⟨n.toNat,by omega⟩;have:∀k:Fin 13,(Tx.bF ((k.1:Nat):Int)).length<=2:=by decide +kernel
 exact this ⟨k,by omega⟩
def zV(ok:w.Ok m)(b:m<=12):((" ":Vn)++fg w).length<=13:=by rw[Str.length_append];have h:=sV (Tx.bF w.room) w.deed (Tx.bF w.other) w.sign;have a:(fg w).length=_:=h;have r1:=ok.r1;have o1:=ok.o1;have h1:=oN ok.r0 (by omega);have h2:=oN ok.o0 (by omega);have c:=nu ok.dd;have d:=kW ok.sg;have e:(DR " ").length=1:=rfl;rw[a];omega
def B1(ok:HOuse m ws)(a:ws.length<=31):(kB m ws).length<=450:=by
 have m1:=ok.m1;have m12:=ok.m12;have h:=mF 44 (k:=13) (zs:=eC ws) λz b=>by obtain⟨w,c,rfl⟩:=List.mem_map.mp b;exact zV (ok.ok w c) m12
 rw[Dh]at h;have h1:=oN (n:=m) (by omega) (by omega);have h2:(DR ":").length=1:=rfl;have d:(Txt.join "," (ws.map λw=>(" ":Vn)++fg w)).length<=14*ws.length:=h;unfold kB;rw[Str.length_append,Str.length_append];have:=Nat.mul_le_mul_left 14 a;have e:(Tx.bF m).length<=2:=h1;omega
def w9{b:Int}(g:Sml b s o a)(ho:o.length<=16)(ha:a.length<=16):(Txt.join " " (fq b s o a)).length<=260:=by have c:=mF 32 (pI g);rw[pM]at c;have d:(Txt.join " " (fq b s o a)).length<=_:=c;have:=Nat.mul_le_mul_left (6+1) (show o.length+a.length+4<=36 by omega);omega
def B8(w:Way):(" ":Vn)++Tx.bF w.room++(" ":Vn)++w.deed++(" ":Vn)++Tx.bF w.other++(" ":Vn)++w.sign=(" ":Vn)++fg w:=by rw[wH];show(⟨#[32]⟩:Vn)++Tx.bF w.room++(⟨#[32]⟩:Vn)++w.deed++(⟨#[32]⟩:Vn)++Tx.bF w.other++(⟨#[32]⟩:Vn)++w.sign=(⟨#[]⟩:Vn)++(⟨#[32]⟩:Vn)++(Tx.bF w.room++(⟨#[32]⟩:Vn)++(w.deed++(⟨#[32]⟩:Vn)++(Tx.bF w.other++(⟨#[32]⟩:Vn)++w.sign)));simp only[Str.append_assoc];exact(Str.empty_append _).symm
def vc(K:Dd):Sp:=λvs H Q _=>∃v m ws,vs=[v]/\bE H v m ws/\HOuse m ws/\∀H',Ext H H'->Q (.str (kB m ws)) H'
abbrev oi:Vl:=stq 54
def pC:FnScope ["_law_house_here","_law_words"] ["_law_house_here"] (aK oi):=⟨rfl,rfl,rfl,by decide +kernel,rfl,by decide +kernel,by decide +kernel⟩
def Bx{P:Vd}{w:Ve}{K:Dd}{mg:Vn->Option Va}{base:Vh}(D:Dfn K mg "_law_house_text" oi ["_law_house_here"])(T:Blt mg):Cal P w K mg base "_law_house_text" 1 ["_law_house_here"] (vc K):=by
 have nd:=(pC).nd;refine D.ok pC (λvs H Q E h=>?_) (λX C H vs Q E h=>?_)
 .obtain⟨v,m,ws,rfl,_⟩:=h;rfl
 .obtain⟨f,cdv,A,outer,s,H0,E0,rfl,N⟩:=C;obtain⟨v,m,ws,rfl,G,ok,q⟩:=h;have m1:=ok.m1;have m12:=ok.m12;have d:=ok.few;obtain⟨p,r,rfl,u,I⟩:=id G;obtain⟨bs,y,al⟩:=cE.al I;refine⟨_,(ak (iJ (i:=1) ["_law_room","_law_deed","_law_other","_law_sign"] [] nd rfl (Or.inl rfl) (fK K (aq (aW K) (pv 0) ag (λ_ _=>rfl))) (λ_=>(jE (n:=4) K rfl (cZ (aV (i:=0) (show(["_law_room","_law_deed","_law_other","_law_sign"]:List Vn).Nodup from by decide +kernel) rfl (Or.inl rfl) (Or.inr rfl)) (cZ (aV (i:=1) (show(["_law_room","_law_deed","_law_other","_law_sign"]:List Vn).Nodup from by decide +kernel) rfl (Or.inl rfl) (Or.inr rfl)) (cZ (aV (i:=2) (show(["_law_room","_law_deed","_law_other","_law_sign"]:List Vn).Nodup from by decide +kernel) rfl (Or.inl rfl) (Or.inr rfl)) (cZ (aV (i:=3) (show(["_law_room","_law_deed","_law_other","_law_sign"]:List Vn).Nodup from by decide +kernel) rfl (Or.inl rfl) (Or.inr rfl)) iL)))))) (λ_=>cy) (λ_=>(aj dR (aj dR (aj dR (aj dR (aj dR (aj dR (aj dR ai (bT gy rfl T.str_ PyProof.Rows.boot_str (ae (pv 0) af))) ai) (pv 1)) ai) (bT gy rfl T.str_ PyProof.Rows.boot_str (ae (pv 2) af))) ai) (pv 3))))
    (au (ax (aj dR (aj dR (bT gy rfl T.str_ PyProof.Rows.boot_str (ae (aq (aW K) (pv 0) ag (λ_ _=>rfl)) af)) ai) (bo K PySem.F.plainAttrs_str PySem.F.slot_str_join PySem.F.type_str_join (kf K) ai (ae (pv 1) af)))))),?_⟩
  walk_at"";refine aX (ar.of u) (v:=.ref r) rfl ?_;refine fV (ar.of y) ?_;refine iH (xs:=bs.map V.ref) (λi ys H'=>H'=H/\ys=(eC (ws.take i)).map V.str) (ie (by rw[Dh,al.1];omega)) ⟨rfl,rfl⟩ (λi ys H' hi h=>⟨by rw[h.1];exact ar.of y,?_⟩) ?_ ?_
  .rw[h.2,Dh,Dh,Ea];exact Nat.min_le_left _ _
  .rintro i x ys H' B ⟨rfl,rfl⟩;rw[Dj]at B;obtain⟨b,hb,rfl⟩:=Du.mp B;have hi:i<ws.length:=by rw[<-al.1];exact(Dr.mp hb).1
   have g:ws[i]?=Vo ws[i]:=Di hi;have a:=ok.ok _ (Ds g);have o:=al.2 i b _ hb g;have r1:=a.r1;have o1:=a.o1;have l1:(DR (toString ws[i].room)).length<=6:=Tx.fj a.r0 (by omega);have l2:(DR (toString ws[i].other)).length<=6:=Tx.fj a.o0 (by omega);have l3:=nu a.dd;have l4:=kW a.sg;have l5:(DR " ").length=1:=rfl;walk_at"";refine kr (ar.of o) rfl ?_;walk_at"";refine ao ?_;walk_at"";refine⟨_,rfl,gK a.r0 (by omega),?_⟩;walk_at"";refine⟨_,_,rfl,rfl,aI (by omega),?_⟩;walk_at"";refine⟨_,_,rfl,rfl,aI (by simp only[Str.length_append];omega),?_⟩;walk_at"";refine⟨_,_,rfl,rfl,aI (by simp only[Str.length_append];omega),?_⟩;walk_at"";refine⟨_,_,rfl,rfl,aI (by simp only[Str.length_append];omega),?_⟩;walk_at"";refine⟨_,rfl,gK a.o0 (by omega),?_⟩;walk_at"";refine⟨_,_,rfl,rfl,aI (by simp only[Str.length_append];omega),?_⟩;walk_at"";refine⟨_,_,rfl,rfl,aI (by simp only[Str.length_append];omega),?_⟩;walk_at"";refine⟨_,_,rfl,rfl,aI (by simp only[Str.length_append];omega),?_⟩;refine⟨rfl,?_⟩;have e:=B8 ws[i];unfold Tx.bF at e;rw[e];unfold eC;rw[List.take_add_one,g,Dz,Dz];rfl
  .rintro ys H' l ⟨rfl,rfl⟩ J;rw[Dh,al.1,DK];have t:Ext H' (upd H' l (.lst ((eC ws).map V.str))):=bu J;have j:upd H' l (.lst ((eC ws).map V.str)) l=Vo (.lst ((eC ws).map V.str)):=bg;generalize upd H' l (.lst ((eC ws).map V.str))=L at t j ⊢;have lm:(DR (toString m)).length<=6:=Tx.fj (by omega) (by omega);have l1:(DR ":").length=1:=rfl;have O:=yA ok.ok m12 d;walk_at"";refine aX (ar.of (t _ _ u)) rfl ?_;walk_at"";refine⟨_,rfl,gK (by omega) (by omega),?_⟩;walk_at"";refine⟨_,_,rfl,rfl,aI (by omega),?_⟩;walk_at"";refine⟨rfl,?_⟩;walk_at"";refine⟨_,l,_,rfl,rfl,ah.of j,vz (c:=44) (k:=21) (λz M=>?_) (n:=100) (by rw[Dh];exact d) (by decide),?_⟩
   .obtain⟨w,g,rfl⟩:=List.mem_map.mp M;exact uq (ok.ok w g) m12
   .exact⟨_,_,rfl,rfl,aI (by simp only[Str.length_append];omega),q L t⟩
def sk(K:Dd):Sp:=λvs H Q _=>∃v b s o a,vs=[v]/\bX H v b s o a/\Sml b s o a/\∀H',Ext H H'->Q (.str (Txt.join " " (fq b s o a))) H'
abbrev mV:Vl:=stq 53
def sW:FnScope ["_law_stair","_law_words"] ["_law_stair"] (aK mV):=⟨rfl,rfl,rfl,by decide +kernel,rfl,by decide +kernel,by decide +kernel⟩
def xQ{P:Vd}{w:Ve}{K:Dd}{mg:Vn->Option Va}{base:Vh}(D:Dfn K mg "_law_stair_text" mV ["_law_stair"])(T:Blt mg):Cal P w K mg base "_law_stair_text" 1 ["_law_stair"] (sk K):=by
 have nd:=(sW).nd;refine D.ok sW (λvs H Q E h=>?_) (λX O H vs Q E h=>?_)
 .obtain⟨v,b,s',o,a,rfl,_⟩:=h;rfl
 .obtain⟨f,cdv,A,outer,s,H0,E0,rfl,hr⟩:=O;obtain⟨v,b,s',o,a,rfl,⟨p,r,R,rfl,h1,h2,M⟩,g,q⟩:=h;have ol:=g.ol;have al:=g.al;refine⟨_,(ak (ay (i:=1) nd rfl (Or.inl rfl) (aj bI (aU (ae (bT gy rfl T.str_ PyProof.Rows.boot_str (ae (aq (aW K) (pv 0) ag (λ_ _=>rfl)) af)) (ae (bT gy rfl T.str_ PyProof.Rows.boot_str (ae (aq (aW K) (pv 0) ag (λ_ _=>rfl)) af)) (ae ai af)))) (dm ["_law_x"] [] (fK K (aq (aW K) (pv 0) ag (λ_ _=>rfl))) (λ_=>(aV (i:=0) (show(["_law_x"]:List Vn).Nodup from by decide +kernel) rfl (Or.inl rfl) (Or.inr rfl))) (λ_=>cy) (λ_=>(bT gy rfl T.str_ PyProof.Rows.boot_str (ae (pv 0) af))))))
    (au (ax (bo K PySem.F.plainAttrs_str PySem.F.slot_str_join PySem.F.type_str_join (kf K) ai (ae (aj bI (aj bI (pv 1) (aU (ae ai af))) (dm ["_law_x"] [] (fK K (aq (aW K) (pv 0) ag (λ_ _=>rfl))) (λ_=>(aV (i:=0) (show(["_law_x"]:List Vn).Nodup from by decide +kernel) rfl (Or.inl rfl) (Or.inr rfl))) (λ_=>cy) (λ_=>(bT gy rfl T.str_ PyProof.Rows.boot_str (ae (pv 0) af))))) af))))),?_⟩
  walk_at"";refine aX (ar.of h1) rfl ?_;walk_at"";refine⟨_,rfl,gK g.b0 g.b1,?_⟩;walk_at"";refine aX (ar.of h1) rfl ?_;walk_at"";refine⟨_,rfl,gK g.s0 g.s1,?_⟩;walk_at"";refine aH λl1 H1 m t _=>?_;walk_at"";refine aX (ar.of (m _ _ h1)) (v:=.ref r) rfl ?_;refine fV (ar.of (m _ _ h2)) ?_;refine iH (xs:=o.map V.int) (λi ys H'=>H'=H1/\ys=(cV (o.take i)).map V.str) (aI (by rw[Dh];omega)) ⟨rfl,rfl⟩ (λi ys H' hi h=>⟨by rw[h.1];exact ar.of (m _ _ h2),?_⟩) ?_ ?_
  .rw[h.2,Dh,Dh,Ea];exact Nat.min_le_left _ _
  .rintro i x ys H' d ⟨rfl,rfl⟩;rw[Dj]at d;obtain⟨n,e,rfl⟩:=Du.mp d;have h2:=g.o1 n (Ds e);walk_at"";refine ao ?_;walk_at"";refine⟨_,rfl,gK h2.1 h2.2,rfl,?_⟩;unfold cV;rw[List.take_add_one,e,Dz,Dz];rfl
  rintro ys H' l2 ⟨rfl,rfl⟩ u;rw[Dh,DK];have y:Ext H' (upd H' l2 (.lst ((cV o).map V.str))):=bu u;have k:upd H' l2 (.lst ((cV o).map V.str)) l2=Vo (.lst ((cV o).map V.str)):=bg;generalize upd H' l2 (.lst ((cV o).map V.str))=H2 at y k ⊢;refine cK (y _ _ t) k (aI (by simp;omega)) (aP λl3 H3 S z _=>?_);have B:=(m.trans y).trans S;walk_at"";refine⟨rfl,?_⟩;walk_at"";refine aH λl4 H4 N C _=>?_;refine cK (N _ _ z) C (aI (by simp;omega)) (aP λl5 U W G _=>?_);have j:=(B.trans N).trans W;walk_at"";refine aX (ar.of (j _ _ h1)) (v:=.ref R) rfl ?_;refine fV (ar.of (j _ _ M)) ?_;refine iH (xs:=a.map V.int) (λi ys H'=>H'=U/\ys=(cV (a.take i)).map V.str) (aI (by rw[Dh];omega)) ⟨rfl,rfl⟩ (λi ys H' hi h=>⟨by rw[h.1];exact ar.of (j _ _ M),?_⟩) ?_ ?_
  .rw[h.2,Dh,Dh,Ea];exact Nat.min_le_left _ _
  .rintro i x ys H' d ⟨rfl,rfl⟩;rw[Dj]at d;obtain⟨n,e,rfl⟩:=Du.mp d;have h2:=g.a1 n (Ds e);walk_at"";refine ao ?_;walk_at"";refine⟨_,rfl,gK h2.1 h2.2,rfl,?_⟩;unfold cV;rw[List.take_add_one,e,Dz,Dz];rfl
  rintro ys H' l6 ⟨rfl,rfl⟩ I;rw[Dh,DK];have J:Ext H' (upd H' l6 (.lst ((cV a).map V.str))):=bu I;have l:upd H' l6 (.lst ((cV a).map V.str)) l6=Vo (.lst ((cV a).map V.str)):=bg;generalize upd H' l6 (.lst ((cV a).map V.str))=H6 at J l ⊢;refine cK (J _ _ G) l (aI (by simp;omega)) (aP λl7 Y Z L _=>?_);walk_at"";refine⟨_,l7,fq b s' o a,rfl,rfl,ah.of ?_,vz (c:=32) (pI g) (n:=20004) (by rw[pM];omega) (by decide),q Y ((j.trans J).trans Z)⟩;rw[L];unfold fq;simp only[Dz];rfl
def pX:List Int:=[8,13,3001,8,841]++DV 24 2++DV 8 3001
def AW{a b c i:Int}(e:0<=i)(h1:i<=2){lo hi:Int}(ha:lo<=a/\a<=hi)(hb:lo<=b/\b<=hi)(d:lo<=c/\c<=hi):∃x:Int,bZ [V.int a,V.int b,V.int c] i=Vo (.int x)/\lo<=x/\x<=hi:=by
 have:i=0\/i=1\/i=2:=by omega
 rcases this with rfl|rfl|rfl
 .exact⟨a,rfl,ha⟩
 .exact⟨b,rfl,hb⟩
 .exact⟨c,rfl,d⟩
def xb{a b i:Int}(c:0<=i)(h1:i<8)(ha:1<=a/\a<=840)(hb:1<=b/\b<=840):∃x:Int,bZ [V.int 1,V.int 1,V.int 2,V.int 3,V.int 4,V.int 6,V.int a,V.int b] i=Vo (.int x)/\1<=x/\x<=840:=by
 have:i=0\/i=1\/i=2\/i=3\/i=4\/i=5\/i=6\/i=7:=by omega
 rcases this with rfl|rfl|rfl|rfl|rfl|rfl|rfl|rfl
 .exact⟨1,rfl,by decide,by decide⟩
 .exact⟨1,rfl,by decide,by decide⟩
 .exact⟨2,rfl,by decide,by decide⟩
 .exact⟨3,rfl,by decide,by decide⟩
 .exact⟨4,rfl,by decide,by decide⟩
 .exact⟨6,rfl,by decide,by decide⟩
 .exact⟨a,rfl,ha⟩
 .exact⟨b,rfl,hb⟩
def sQ{lo hi:Int}{c D:List Int}(d:c.Perm D)(e:D.Nodup)(hs:c.Pairwise λa b:Int=>a<=b)(hb:∀z∈D,lo<=z/\z<hi):fS lo hi c:=by refine⟨?_,λz f=>hb z (d.mem_iff.mp f)⟩;have h1:c.Nodup:=d.nodup_iff.mpr e;exact(hs.and h1).imp λ⟨a,b⟩=>by omega
def jG{P Q:Prop}(h1:P->Q)(h2:P):Q:=h1 h2
def vK(K:Dd):Sp:=λvs H Q _=>∃c p,vs=[.int c,.int p]/\0<p/\∀v b s o a H',Ext H H'->bX H' v b s o a->Gd b s o a->o.length<=16->a.length<=16->Q v H'
abbrev m8:Vl:=stq 52
def sN:FnScope ["_law_cell_here","_law_prime","_law_draws_here","_law_base","_law_step","_law_once","_law_again"] ["_law_cell_here","_law_prime"] (aK m8):=⟨rfl,rfl,rfl,by decide +kernel,rfl,by decide +kernel,by decide +kernel⟩
def Cv{P:Vd}{w:Ve}{K:Dd}{mg:Vn->Option Va}{base:Vh}(D:Dfn K mg "_law_drawn_stair" m8 ["_law_cell_here","_law_prime"])(T:Blt mg)(m:Cal P w K mg base "_law_draws" 2 ["_law_cell_here","_law_widths","_law_prime"] (fT K)):Cal P w K mg base "_law_drawn_stair" 3 ["_law_cell_here","_law_prime"] (vK K):=by
 have nd:=(sN).nd;refine D.ok sN (λvs H Q E h=>?_) (λX hX H vs Q E h=>?_)
 .obtain⟨c,p,rfl,_⟩:=h;rfl
 .obtain⟨f,cdv,A,outer,s,H0,E0,rfl,hr⟩:=hX;obtain⟨c,p,rfl,hp,q⟩:=h;refine⟨_,(@ak _ _ _ _ _ (@ay _ _ 2 _ _ _ _ nd rfl (Or.inr rfl) (aC m hr (@ae _ _ _ _ _ (pv 0) (@ae _ _ _ _ _ (aj bI (aj bI (@aU _ _ _ _ (gJ (.c (.c (.c (.c (.c .n))))))) (aj m6 (@aU _ _ _ _ (@ae _ _ _ _ _ ag af rfl)) ag)) (aj m6 (@aU _ _ _ _ (@ae _ _ _ _ _ ag af rfl)) ag)) (@ae _ _ _ _ _ (pv 1) af rfl) rfl) rfl)) rfl (Or.inl rfl))
    (@ak _ _ _ _ _ (@ay _ _ 3 _ _ _ _ nd rfl (Or.inr rfl) (@aq _ _ _ _ _ _ _ (aB K) (@aU _ _ _ _ (@ae _ _ _ _ _ (@aq _ _ _ _ _ _ _ (aB K) (pv 2) ag (λ_ _=>rfl)) (@ae _ _ _ _ _ (@aq _ _ _ _ _ _ _ (aB K) (pv 2) ag (λ_ _=>rfl)) (@ae _ _ _ _ _ ag af rfl) rfl) rfl)) (aj aM (bT qR rfl T.int_ PyProof.Rows.boot_int (@ae _ _ _ _ _ (dD ed (@aq _ _ _ _ _ _ _ (aB K) (pv 2) ag (λ_ _=>rfl)) ag (aA _)) af rfl)) (bT qR rfl T.int_ PyProof.Rows.boot_int (@ae _ _ _ _ _ (cM (dD b6 (@aq _ _ _ _ _ _ _ (aB K) (pv 2) ag (λ_ _=>rfl)) ag (aA _)) (dg (dD b6 (@aq _ _ _ _ _ _ _ (aB K) (pv 2) ag (λ_ _=>rfl)) ag (aA _)))) af rfl))) (λ_ _=>rfl)) rfl (Or.inl rfl))
    (@ak _ _ _ _ _ (@ay _ _ 4 _ _ _ _ nd rfl (Or.inr rfl) (@aq _ _ _ _ _ _ _ (aB K) (@aU _ _ _ _ (@ae _ _ _ _ _ ag (@ae _ _ _ _ _ ag (@ae _ _ _ _ _ ag (@ae _ _ _ _ _ ag (@ae _ _ _ _ _ ag (@ae _ _ _ _ _ ag (@ae _ _ _ _ _ (aj aM ag (aj cj (@aq _ _ _ _ _ _ _ (aB K) (pv 2) ag (λ_ _=>rfl)) ag)) (@ae _ _ _ _ _ (aj aM ag (aj cj (@aq _ _ _ _ _ _ _ (aB K) (pv 2) ag (λ_ _=>rfl)) ag)) af rfl) rfl) rfl) rfl) rfl) rfl) rfl) rfl)) (@aq _ _ _ _ _ _ _ (aB K) (pv 2) ag (λ_ _=>rfl)) (λ_ _=>rfl)) rfl (Or.inl rfl))
    (@ak _ _ _ _ _ (iJ (i:=5) ["_law_x"] [2] nd rfl (Or.inl rfl) (eB rfl T.range_ (@ae _ _ _ _ _ (aF (lY rfl) rfl T.min_ PyProof.Rows.boot_min (@ae _ _ _ _ _ (pv 3) (@ae _ _ _ _ _ ag af rfl) rfl)) af rfl)) (λ_=>(aV (i:=0) (show(["_law_x","_law_draws_here"]:List Vn).Nodup from by decide +kernel) rfl (Or.inl rfl) (Or.inr rfl))) (λ_=>(kP (aD b6 (@aq _ _ _ _ _ _ _ (aB K) (pv 1) (aj aM ag (pv 0)) (λ_ _=>rfl)) ag (aA _)))) (λ_=>(pv 0)))
    (@ak _ _ _ _ _ (iJ (i:=6) ["_law_x"] [3,2] nd rfl (Or.inl rfl) (eB rfl T.range_ (@ae _ _ _ _ _ (aF (lY rfl) rfl T.min_ PyProof.Rows.boot_min (@ae _ _ _ _ _ (pv 4) (@ae _ _ _ _ _ ag af rfl) rfl)) af rfl)) (λ_=>(aV (i:=0) (show(["_law_x","_law_base","_law_draws_here"]:List Vn).Nodup from by decide +kernel) rfl (Or.inl rfl) (Or.inr rfl))) (λ_=>(kP (aD b6 (@aq _ _ _ _ _ _ _ (aB K) (pv 2) (aj aM ag (pv 0)) (λ_ _=>rfl)) ag (aA _)))) (λ_=>(aj aM (pv 1) (pv 0))))
    (@ak _ _ _ _ _ (dX (aD ed (pv 3) ag (aA _)) (@au _ _ _ (@ay _ _ 5 _ _ _ _ nd rfl (Or.inl rfl) (aj bI (pv 5) (dm ["_law_far"] [3] (eZ K (bU (eQ K) (pv 2) (bw ag) (bw ag))) (λ_=>(aV (i:=0) (show(["_law_far","_law_base"]:List Vn).Nodup from by decide +kernel) rfl (Or.inl rfl) (Or.inr rfl))) (λ_=>cy) (λ_=>(aj aM ag (aj cj (pv 0) (aj dC (pv 1) ag)))))) rfl (Or.inl rfl))) aO)
    (@ak _ _ _ _ _ (dX (aD ed (pv 4) ag (aA _)) (@au _ _ _ (@ay _ _ 6 _ _ _ _ nd rfl (Or.inl rfl) (aj bI (pv 6) (dm ["_law_far"] [3,4] (eZ K (bU (eQ K) (pv 2) (bw ag) (bw ag))) (λ_=>(aV (i:=0) (show(["_law_far","_law_base","_law_step"]:List Vn).Nodup from by decide +kernel) rfl (Or.inl rfl) (Or.inr rfl))) (λ_=>cy) (λ_=>(aj aM (aj aM (pv 1) ag) (aj cj (pv 0) (aj dC (pv 2) ag)))))) rfl (Or.inl rfl))) aO)
    (@au _ _ _ (@ax _ _ _ _ (@bA _ _ _ _ _ (@ae _ _ _ _ _ (pv 3) (@ae _ _ _ _ _ (pv 4) (@ae _ _ _ _ _ (bT (eX K) rfl T.tuple_ PyProof.Rows.boot_tuple (@ae _ _ _ _ _ (aF (Ti.call_sortJ hr) rfl T.sorted_ PyProof.Rows.boot_sorted (@ae _ _ _ _ _ (bT (Ti.call_setJ hr) rfl T.set_ PyProof.Rows.boot_set (@ae _ _ _ _ _ (pv 5) af rfl)) af rfl)) af rfl)) (@ae _ _ _ _ _ (bT (eX K) rfl T.tuple_ PyProof.Rows.boot_tuple (@ae _ _ _ _ _ (aF (Ti.call_sortJ hr) rfl T.sorted_ PyProof.Rows.boot_sorted (@ae _ _ _ _ _ (bT (Ti.call_setJ hr) rfl T.set_ PyProof.Rows.boot_set (@ae _ _ _ _ _ (pv 6) af rfl)) af rfl)) af rfl)) af rfl) rfl) rfl) rfl))))))))))),?_⟩
  walk_at"";refine aH λw0 G1 f1 ad _=>?_;walk_at"";refine aH λw1 G2 f2 am _=>?_;walk_at"";refine mw am (by omega) (aI (by decide)) (aP λw2 G3 f3 an _=>?_);walk_at"";refine cK (f3 _ _ (f2 _ _ ad)) an (aI (by decide)) (aP λw3 G4 f4 ap _=>?_);walk_at"";refine aH λw4 G5 f5 as _=>?_;walk_at"";refine mw as (by omega) (aI (by decide)) (aP λw5 G6 f6 b1 _=>?_);walk_at"";refine cK (f6 _ _ (f5 _ _ ap)) b1 (aI (by decide)) (aP λw6 G7 f7 b2 _=>?_);walk_at"";refine fW pX b2 (by decide +kernel) (by decide +kernel) (hp) λdq ds H1 e1 hd c3 hl hb=>?_;have eH:Ext H H1:=f1.trans (f2.trans (f3.trans (f4.trans (f5.trans (f6.trans (f7.trans e1))))));clear f1 f2 f3 f4 f5 f6 f7 e1 ad am an ap as b1 b2;have ch:ds.length=37:=hl;have at_:∀(i:Nat) (x:Int),pX[i]?=Vo x->∃d,ds[i]?=Vo d/\0<=d/\d<x:=λi x Y=>by
   have hi:i<ds.length:=by rw[hl];exact(Dr.mp Y).1
   exact⟨ds[i],Di hi,hb i _ x (Di hi) Y⟩
  obtain⟨d0,g0,c4,c5⟩:=at_ 0 8 rfl;obtain⟨d1,g1,c6,c7⟩:=at_ 1 13 rfl;obtain⟨d2,g2,c8,c9⟩:=at_ 2 3001 rfl;obtain⟨d3,g3,b4,b5⟩:=at_ 3 8 rfl;obtain⟨d4,g4,ca,cd⟩:=at_ 4 841 rfl;have pick:∀{i:Nat} {d:Int},ds[i]?=Vo d->bZ (ds.map V.int) (i:Int)=Vo (.int d):=λ{i d} h=>ck (by rw[Dj,h];rfl);walk_at"";refine az (ah.of hd) (pick (i:=1) g1) ?_;walk_at"";refine az (ah.of hd) (pick (i:=2) g2) ?_;walk_at"";refine aH λmq H2 e2 b7 _=>?_;have y:=e2 _ _ hd;walk_at"";refine az (ah.of y) (pick (i:=0) g0) ?_;walk_at"";refine az (ah.of y) (pick (i:=0) g0) ?_;walk_at""
  refine' jG (P:=∀i:Int,0<=i->i<=2->kz K (V.ref mq) (.int i) H2 _) (λkey=>?_) ?_
  rotate_left
  .have L:(0:Int)<=(if decide (5<d0)=true then 1 else 0)/\(if decide (5<d0)=true then 1 else 0)<=(1:Int):=by split<;>omega
   refine cJ (λh=>?_) (λh=>?_)
   .walk_at"";refine az (ah.of y) (pick (i:=3) g3) ?_;walk_at"";refine key _ ?_ ?_<;>split<;>omega
   .walk_at"";refine key _ ?_ ?_
    .simp;omega
    .simp;omega
  intro i i0 i2;obtain⟨base,b8,b0,b3⟩:=AW i0 i2 (lo:=0) (hi:=3000) (a:=d1) (b:=d2) (c:=3000) (by omega) (by omega) (by omega);refine az (ah.of b7) b8 ?_;walk_at"";refine az (ah.of y) (pick (i:=4) g4) ?_;walk_at"";refine az (ah.of y) (pick (i:=4) g4) ?_;walk_at"";refine aH λsq H3 e3 ba _=>?_;have Z:=e3 _ _ y;have bb:=eH.trans (e2.trans e3);walk_at"";refine az (ah.of Z) (pick (i:=3) g3) ?_;obtain⟨step,t,s1,s8⟩:=xb b4 b5 (a:=1+d4 % 24) (b:=1+d4 % 840) (by omega) (by omega);refine az (ah.of ba) t ?_;clear ba b7 t b8 e2 e3 c4 c5 c6 c7 c8 c9 b4 b5 ca cd g0 g1 g2 g3 g4 i0 i2 y hd c3;have two:∀j:Nat,j<37->∃d,ds[j]?=Vo d:=λj hj=>⟨ds[j]'(by omega),Di (by omega)⟩;walk_at"";refine er (by split<;>omega) ?_;have hN:(if(12:Int)<base then(12:Int)else base).toNat<=12/\((if(12:Int)<base then(12:Int)else base).toNat:Int)<=base:=by split<;>omega
  generalize (if(12:Int)<base then(12:Int)else base).toNat=N at hN ⊢;refine nE (λi ys H'=>H'=H3/\∃xs:List Int,ys=xs.map V.int/\xs.length<=i/\∀x∈xs,0<=x/\x<base) (aI (by omega)) ⟨rfl,[],rfl,DC _,λx h=>(nomatch h)⟩ (λi ys H' hi h=>?_) ?_ ?_
  .obtain⟨_,xs,rfl,h2,_⟩:=h;rw[Dh];exact h2
  .rintro i ys H' hi ⟨rfl,xs,rfl,a2,Y⟩;obtain⟨d,hd⟩:=two (5+i) (by omega);walk_at"";refine az (ah.of Z) (v:=.int d) (by rw[show (5+(0+(i:Int)))=((5+i:Nat):Int) by omega];exact pick hd) ?_;walk_at"";refine cJ (λh=>?_) (λh=>?_)
   .walk_at"";refine⟨rfl,xs++[0+(i:Int)],by rw[Dz];rfl,by rw[DA];exact Nat.add_le_add_right a2 1,λx e=>?_⟩;rcases DF.mp e with e|e
    .exact Y x e
    .rw[Dt.mp e];omega
   .exact⟨rfl,xs,rfl,by omega,Y⟩
  rintro ys H' l1 ⟨rfl,xs,rfl,a2,Y⟩ bc;have e4:Ext H' (upd H' l1 (.lst (xs.map V.int))):=bu bc;have B:upd H' l1 (.lst (xs.map V.int)) l1=Vo (.lst (xs.map V.int)):=bg;generalize upd H' l1 (.lst (xs.map V.int))=H4 at e4 B ⊢;have a3:=e4 _ _ Z;walk_at"";refine er (by split<;>omega) ?_;have hM:(if(12:Int)<step then(12:Int)else step).toNat<=12/\((if(12:Int)<step then(12:Int)else step).toNat:Int)<=step:=by split<;>omega
  generalize (if(12:Int)<step then(12:Int)else step).toNat=M at hM ⊢;refine nE (λi ys H'=>H'=H4/\∃zs:List Int,ys=zs.map V.int/\zs.length<=i/\∀x∈zs,base<=x/\x<base+step) (aI (by omega)) ⟨rfl,[],rfl,DC _,λx h=>(nomatch h)⟩ (λi ys H' hi h=>?_) ?_ ?_
  .obtain⟨_,zs,rfl,h2,_⟩:=h;rw[Dh];exact h2
  .rintro i ys H' hi ⟨rfl,zs,rfl,a4,L⟩;obtain⟨d,hd⟩:=two (17+i) (by omega);walk_at"";refine az (ah.of a3) (v:=.int d) (by rw[show (17+(0+(i:Int)))=((17+i:Nat):Int) by omega];exact pick hd) ?_;walk_at"";refine cJ (λh=>?_) (λh=>?_)
   .walk_at"";refine⟨rfl,zs++[base+(0+(i:Int))],by rw[Dz];rfl,by rw[DA];exact Nat.add_le_add_right a4 1,λx e=>?_⟩;rcases DF.mp e with e|e
    .exact L x e
    .rw[Dt.mp e];omega
   .exact⟨rfl,zs,rfl,by omega,L⟩
  rintro ys a0 l2 ⟨rfl,zs,rfl,a4,L⟩ be;have e5:Ext a0 (upd a0 l2 (.lst (zs.map V.int))):=bu be;have J:upd a0 l2 (.lst (zs.map V.int)) l2=Vo (.lst (zs.map V.int)):=bg;have B:=e5 _ _ B;have a1:=e5 _ _ a3;have a5:=bb.trans (e4.trans e5);generalize upd a0 l2 (.lst (zs.map V.int))=H5 at e5 J B a1 a5 ⊢;clear e4 e5 Z a3 bb bc be eH;walk_at"";refine fo (λO H6=>Ext H5 H6/\∃(l3:Vb) (us:List Int),H6 l3=Vo (.lst (us.map V.int))/\us.length<=16/\(∀x∈us,0<=x/\x<base)/\O=[Vo (.int c),Vo (.int p),Vo (.ref dq),Vo (.int base),Vo (.int step),Vo (.ref l3),Vo (.ref l2)]) ?_ ?_
  .walk_at"";refine cJ (λh=>?_) (λh=>?_)
   .walk_at"";have h:=of_decide_eq_true h;refine fu (ah.of a1) (aP λl4 H6 e6 g _=>?_);have c1:bG (ds.map V.int) (some 29) (some 33)=((ds.drop 29).take 4).map V.int:=by refine(kM (a:=29) (b:=33) (by omega) (by rw[Dh];omega)).trans ?_;rw[<-List.map_drop,<-List.map_take]
    rw[c1]at g;refine ff (ah.of g) ?_;refine fM (xs:=((ds.drop 29).take 4).map V.int) (λi ys H'=>H'=H6/\∃us:List Int,ys=us.map V.int/\us.length=i/\∀x∈us,0<=x/\x<base) (aI (by rw[Dh,Ea];omega)) ⟨rfl,[],rfl,rfl,λx h=>(nomatch h)⟩ (λi ys H' hi h=>⟨by rw[h.1];exact ah.of g,?_⟩) ?_ ?_
    .obtain⟨_,us,rfl,h2,_⟩:=h;rw[Dh];omega
    .rintro i v ys H' hv ⟨rfl,us,rfl,R,hu⟩;rw[Dj]at hv;obtain⟨f,hf,rfl⟩:=Du.mp hv;walk_at"";refine ao ?_;walk_at""
     try refine rd_I (show(0:Int)<base-12 by omega) ?_
     walk_at"";have r0:0<=f % (base-12):=Int.emod_nonneg _ (by omega);have r1:f % (base-12)<base-12:=Int.emod_lt_of_pos _ (by omega);refine⟨rfl,us++[12+f % (base-12)],by rw[Dz];rfl,by rw[DA,R];rfl,λx e=>?_⟩;rcases DF.mp e with e|e
     .exact hu x e
     .rw[Dt.mp e];omega
    .rintro ys H' l5 ⟨rfl,us,rfl,R,hu⟩ a6;have e7:=e6.trans (bu (o:=.lst (us.map V.int)) a6);have S:upd H' l5 (.lst (us.map V.int)) l5=Vo (.lst (us.map V.int)):=bg;generalize upd H' l5 (.lst (us.map V.int))=H7 at e7 S ⊢;rw[Dh,Ea]at R;refine cK (e7 _ _ B) S (aI (by rw[Dh,Dh];omega)) (aP λl6 H8 e8 a7 _=>?_);walk_at"";refine⟨e7.trans e8,l6,xs++us,by rw[a7,Dz],by rw[DA];omega,λx e=>?_,rfl⟩;rcases DF.mp e with e|e
     .exact Y x e
     .exact hu x e
   .walk_at"";exact⟨Ext.rfl' _,l1,xs,B,by omega,Y,rfl⟩
  rintro O H6 ⟨e6,l3,us,a8,R,hu,rfl⟩;have J:=e6 _ _ J;have bi:=e6 _ _ a1;have bl:=a5.trans e6;clear e6 B Y a2 a5 a1 hN;walk_at"";refine fo (λO H7=>Ext H6 H7/\∃(l4:Vb) (ts:List Int),H7 l4=Vo (.lst (ts.map V.int))/\ts.length<=16/\(∀x∈ts,base<=x/\x<base+step)/\O=[Vo (.int c),Vo (.int p),Vo (.ref dq),Vo (.int base),Vo (.int step),Vo (.ref l3),Vo (.ref l4)]) ?_ ?_
  .walk_at"";refine cJ (λh=>?_) (λh=>?_)
   .walk_at"";have h:=of_decide_eq_true h;refine fu (ah.of bi) (aP λl4 H7 e7 g _=>?_);have c1:bG (ds.map V.int) (some 33) (some 37)=((ds.drop 33).take 4).map V.int:=by refine(kM (a:=33) (b:=37) (by omega) (by rw[Dh];omega)).trans ?_;rw[<-List.map_drop,<-List.map_take]
    rw[c1]at g;refine ff (ah.of g) ?_;refine fM (xs:=((ds.drop 33).take 4).map V.int) (λi ys H'=>H'=H7/\∃ts:List Int,ys=ts.map V.int/\ts.length=i/\∀x∈ts,base<=x/\x<base+step) (aI (by rw[Dh,Ea];omega)) ⟨rfl,[],rfl,rfl,λx h=>(nomatch h)⟩ (λi ys H' hi h=>⟨by rw[h.1];exact ah.of g,?_⟩) ?_ ?_
    .obtain⟨_,ts,rfl,h2,_⟩:=h;rw[Dh];omega
    .rintro i v ys H' hv ⟨rfl,ts,rfl,U,ht⟩;rw[Dj]at hv;obtain⟨f,hf,rfl⟩:=Du.mp hv;walk_at"";refine ao ?_;walk_at""
     try refine rd_I (show(0:Int)<step-12 by omega) ?_
     walk_at"";have r0:0<=f % (step-12):=Int.emod_nonneg _ (by omega);have r1:f % (step-12)<step-12:=Int.emod_lt_of_pos _ (by omega);refine⟨rfl,ts++[base+12+f % (step-12)],by rw[Dz];rfl,by rw[DA,U];rfl,λx e=>?_⟩;rcases DF.mp e with e|e
     .exact ht x e
     .rw[Dt.mp e];omega
    .rintro ys H' l5 ⟨rfl,ts,rfl,U,ht⟩ a6;have e8:=e7.trans (bu (o:=.lst (ts.map V.int)) a6);have S:upd H' l5 (.lst (ts.map V.int)) l5=Vo (.lst (ts.map V.int)):=bg;generalize upd H' l5 (.lst (ts.map V.int))=H8 at e8 S ⊢;rw[Dh,Ea]at U;refine cK (e8 _ _ J) S (aI (by rw[Dh,Dh];omega)) (aP λl6 H9 e9 a7 _=>?_);walk_at"";refine⟨e8.trans e9,l6,zs++ts,by rw[a7,Dz],by rw[DA];omega,λx e=>?_,rfl⟩;rcases DF.mp e with e|e
     .exact L x e
     .exact ht x e
   .walk_at"";exact⟨Ext.rfl' _,l2,zs,J,by omega,L,rfl⟩
  rintro O H7 ⟨e7,l4,ts,g,U,ht,rfl⟩;have a8:=e7 _ _ a8;have ce:=bl.trans e7;clear e7 J L a4 bl bi hM;walk_at"";refine⟨l3,_,rfl,a8,by omega,λsl D C F hD=>?_⟩;have a9:=gF F λk hk=>(hD k).mp hk;have e8:=ce.trans (bu (o:=Ti.setIO P w sl D) C);have g:=bu (o:=Ti.setIO P w sl D) C _ _ g;have l:(upd H7 sl (Ti.setIO P w sl D)) sl=Vo (Ti.setIO P w sl D):=bg;walk_at"";show Ti.rSortJ P w [.ref sl] (upd H7 sl (Ti.setIO P w sl D)) _;generalize upd H7 sl (Ti.setIO P w sl D)=H8 at e8 l g ⊢;refine⟨sl,D,rfl,l,by omega,λst ms t G W=>?_⟩;have r1:=sQ G F W λz L=>hu z ((hD z).mp L);have ci:ms.length<=16:=by rw[G.length_eq];omega
  clear G F W hD a9 hu R C l;have e9:=e8.trans (bu (o:=.lst (List.map V.int ms)) t);have g:=bu (o:=.lst (List.map V.int ms)) t _ _ g;have r:(upd H8 st (.lst (List.map V.int ms))) st=Vo (.lst (List.map V.int ms)):=bg;generalize upd H8 st (.lst (List.map V.int ms))=H9 at e9 r g ⊢;walk_at"";refine eP (ah.of r) (aP λt1 aa ab I _=>?_);have g:=ab _ _ g;have bm:=e9.trans ab;clear e8 e9 ab t r;walk_at"";refine⟨l4,_,rfl,g,by omega,λsl D C F hD=>?_⟩;have a9:=gF F λk hk=>(hD k).mp hk;have bn:=bm.trans (bu (o:=Ti.setIO P w sl D) C);have I:=bu (o:=Ti.setIO P w sl D) C _ _ I;have l:(upd aa sl (Ti.setIO P w sl D)) sl=Vo (Ti.setIO P w sl D):=bg;walk_at"";show Ti.rSortJ P w [.ref sl] (upd aa sl (Ti.setIO P w sl D)) _;generalize upd aa sl (Ti.setIO P w sl D)=bv at bn l I ⊢;refine⟨sl,D,rfl,l,by omega,λst ns t G W=>?_⟩;have r2:=sQ G F W λz L=>ht z ((hD z).mp L);have cl:ns.length<=16:=by rw[G.length_eq];omega
  clear G F W hD a9 ht U C l;have c0:=bn.trans (bu (o:=.lst (List.map V.int ns)) t);have I:=bu (o:=.lst (List.map V.int ns)) t _ _ I;have r:(upd bv st (.lst (List.map V.int ns))) st=Vo (.lst (List.map V.int ns)):=bg;generalize upd bv st (.lst (List.map V.int ns))=cm at c0 r I ⊢;walk_at"";refine eP (ah.of r) (aP λt2 cr c2 cf _=>?_);walk_at"";refine aH λu cg ac hu _=>?_;exact q _ base step ms ns cg ((c0.trans c2).trans ac) ⟨u,t1,t2,rfl,hu,ac _ _ (c2 _ _ I),ac _ _ cf⟩ ⟨⟨b0,s1,r1,r2⟩,b3,s8⟩ (by omega) (by omega)
def jg{a b:Vn}:decide (V.str a=V.str b)=decide (a=b):=by
 by_cases h:a=b
 .subst h;simp
 .rw[Ee h,Ee (λz=>h (V.str.inj z))]
def jw{a b:Vn}(h:Q (.bl (decide (a=b))) H):lI (.str a) (.str b) H Q:=⟨rfl,by rw[jg];exact h⟩
def il{a b:Vn}(h:Q (.bl (!decide (a=b))) H):me (.str a) (.str b) H Q:=⟨rfl,by rw[jg];exact h⟩
def de(c:Nat):Bool:=decide (48<=c/\c<=57)
def aL(z:Vn):Bool:=decide (1<=z.length) && (decide (z.length<=6) && ((z.cps.toList.map de).all id && (decide (z = "0") || decide (z.cps.toList[0]?≠Vo 48))))
def uC(c:Nat):(!(Builtin.Str.occurrences (DR "0123456789") ⟨#[c]⟩ 0 (DR "0123456789").length 1).isEmpty)=de c:=by rw[StrLaws.found_one,show (DR "0123456789").cps.toList=[48,49,50,51,52,53,54,55,56,57] by decide +kernel];unfold de;rw[decide_eq_decide];simp only[Dw,DN,or_false];omega
def vD(K:Dd):Sp:=λvs H Q _=>∃z:Vn,vs=[.str z]/\z.length<=1000000/\∀H',Ext H H'->Q (.bl (aL z)) H'
abbrev oa:Vl:=stq 31
def v8:FnScope ["word"] ["word"] (aK oa):=⟨rfl,rfl,rfl,by decide +kernel,rfl,by decide +kernel,by decide +kernel⟩
def xm{P:Vd}{w:Ve}{K:Dd}{mg:Vn->Option Va}{base:Vh}(D:Dfn K mg "is_number_word" oa ["word"])(T:Blt mg)(d:∃t,mg "FIGURES" = Vo (.str "0123456789" t))(a:∃t,mg "MOST_FIGURES" = Vo (.int 6 t)):Cal P w K mg base "is_number_word" 1 ["word"] (vD K):=by
 have nd:=(v8).nd;refine D.ok v8 (λvs H Q E h=>?_) (λX C H vs Q E h=>?_)
 .obtain⟨n,rfl,_⟩:=h;rfl
 .obtain⟨f,cdv,A,outer,s,H0,E0,rfl,J⟩:=C;obtain⟨l,g⟩:=d;obtain⟨j,b⟩:=a;obtain⟨z,rfl,p,q⟩:=h;refine⟨_,(ak (aT (PW.pt (bj (aD cW (aF fJ rfl T.len_ PySem.boot_len (ae (pv 0) af)) ag (aA _)) (bj (aD ed (aF fJ rfl T.len_ PySem.boot_len (ae (pv 0) af)) (cP (v:=.int 6) rfl b ⟨_,rfl⟩) (aA _)) (bQ (bt (br (aF (gr K rfl) rfl T.all_ PyProof.Rows.boot_all (ae (dm ["sign"] [] (md (pv 0)) (λ_=>(aV (i:=0) (show(["sign"]:List Vn).Nodup from by decide +kernel) rfl (Or.inl rfl) (Or.inr rfl))) (λ_=>cy) (λ_=>(dD vI (pv 0) (cP (v:=.str "0123456789") rfl g ⟨_,rfl⟩) (by with_unfolding_all rfl)))) af)))))))) (au (ax bJ)) aO)
    (au (ax (vt (dD b6 (pv 0) ai (aA _)) (dg (dD cn (aq jj (pv 0) ag (λ_ _=>rfl)) ai (aA _))))))),?_⟩
  walk_at"";refine⟨z,rfl,aI p,?_⟩;walk_at"";by_cases h1:(z.length:Int)<1
  .rw[Ef h1];refine ao (ao ?_);walk_at"";have:=q H (Ext.rfl' _);unfold aL at this;rw[Ee (show ¬1<=z.length by omega)]at this;exact this
  rw[Ee h1];refine av ?_;walk_at"";refine⟨z,rfl,aI p,?_⟩;walk_at"";by_cases h2:(6:Int)<z.length
  .rw[Ef h2];refine ao (ao ?_);walk_at"";have:=q H (Ext.rfl' _);unfold aL at this;rw[Ee (show ¬z.length<=6 by omega),Bool.false_and,Bool.and_false]at this;exact this
  rw[Ee h2];refine av ?_;walk_at"";refine⟨z,rfl,?_⟩;have F:z.cps.size=z.length:=rfl;refine q9 (λi ys H'=>H'=H/\ys=((z.cps.toList.take i).map de).map V.bl) (aI (by omega)) ⟨rfl,rfl⟩ ?_ ?_ ?_
  .rintro i ys H' _ ⟨rfl,rfl⟩;rw[Dh,Dh,Ea];exact Nat.min_le_left _ _
  .rintro i c ys H' m ⟨rfl,rfl⟩;walk_at"";refine ao ?_;walk_at"";refine⟨_,_,rfl,rfl,rfl,?_⟩;rw[uC,List.take_add_one,Array.getElem?_toList,m,Dz,Dz];rfl
  rintro ys H' o ⟨rfl,rfl⟩ r;rw[<-Dl,DK];have x:Ext H' (upd H' o (.lst ((z.cps.toList.map de).map V.bl))):=bu r;have y:(upd H' o (.lst ((z.cps.toList.map de).map V.bl))) o=_:=bg;generalize upd H' o (.lst ((z.cps.toList.map de).map V.bl))=H1 at x y;have k:=q H1 x;unfold aL at k;rw[Ef (show 1<=z.length by omega),Ef (show z.length<=6 by omega),Bool.true_and,Bool.true_and]at k;walk_at"";refine⟨o,_,rfl,ah.of y,?_⟩;walk_at"";cases hall:(z.cps.toList.map de).all id with
  | false=>
   rw[hall,Bool.false_and]at k;refine ao ?_;walk_at"";exact k
  | true=>
   rw[hall,Bool.true_and]at k;refine av ?_;walk_at"";refine jw ?_;refine⟨_,rfl,?_⟩;by_cases B:z = "0"
   .rw[Ef B]at k ⊢;exact ao k
   rw[Ee B]at k ⊢;rw[Bool.false_or]at k;refine av ?_;walk_at"";have G:0<z.cps.toList.length:=by rw[Dl];omega
   have m:z.cps.toList[0]?=Vo z.cps.toList[0]:=Di G;generalize z.cps.toList[0]=c at m;refine⟨z,0,c,rfl,rfl,aI p,ck m,?_⟩;walk_at"";refine il ?_;rw[m]at k;have I:(!decide ((⟨#[c]⟩:Vn)=DR "0"))=decide (Vo c≠Vo 48):=by
    have:(DR "0")=⟨#[48]⟩:=rfl;rw[this];by_cases u:c=48
    .subst u;decide
    .rw[Ef (show Vo c≠Vo 48 from λe=>u (DS e)),Ee (λe=>u (by injection e with e;simpa using e))];rfl
   rw[I];exact k
def aJ(z:Vn):Int:=((PySem.NumText.digitsVal z.cps.toList:Nat):Int)
def hZ(h:aL z=true):(∀c∈z.cps.toList,48<=c/\c<=57)/\1<=z.length/\z.length<=6:=by unfold aL at h;simp only[DQ,decide_eq_true_eq]at h;obtain⟨h1,h2,a,_⟩:=h;refine⟨λc b=>?_,h1,h2⟩;have:=DO.mp a _ (List.mem_map_of_mem b);unfold de at this;simpa using this
def Cr(h:aL z=true):PySem.intText? z=Vo (aJ z):=by obtain⟨h1,h2,a⟩:=hZ h;refine _root_.PySem.intText_digits h1 (λe=>?_) (by omega);have:z.cps.toList.length=z.length:=Dl;rw[e]at this;simp at this;omega
def gY(K:Dd):Sp:=λvs H Q E=>∃z:Vn,vs=[.str z]/\z.length<=1000000/\∀H',Ext H H'->if aL z=true then Q (.int (aJ z)) H' else E (.ref (cA K "NoText")) Vp H'
abbrev ma:Vl:=stq 32
def uQ:FnScope ["word"] ["word"] (aK ma):=⟨rfl,rfl,rfl,by decide +kernel,rfl,by decide +kernel,by decide +kernel⟩
def zh{w:Ve}{K:Dd}(D:Dfn K mg "read_number" ma ["word"])(T:Blt mg)(c:Xf K mg base fR gh)(a:Cal P w K mg base "is_number_word" 1 ["word"] (vD K)):CalX P w K mg base "read_number" 2 ["word"] (gY K):=by
 have nd:=(uQ).nd;refine D.okX uQ (λvs H Q E h=>?_) (λf cdv A outer s H vs Q E d h=>?_)
 .obtain⟨z,rfl,_⟩:=h;rfl
 .obtain⟨z,rfl,e,q⟩:=h;refine⟨_,(ak (aT (bt (br (aC a d (ae (pv 0) af)))) (au (iw (c.own "NoText" (by decide +kernel)) PySem.F.excBase_ValueError (ae ai af))) aO)
    (au (ax (bT Bh rfl T.int_ PyProof.Rows.boot_int (ae (pv 0) af))))),?_⟩
  walk_at"";refine⟨z,rfl,e,λH1 g=>?_⟩;have q:=q H1 g;walk_at"";cases b:aL z with
  | true=>
   rw[Eh b]at q;refine av ?_;walk_at"";have:=hZ b;exact⟨_,_,rfl,Cr b,by omega,q⟩
  | false=>
   rw[Eg (by rw[b];exact Dy)]at q;refine ao ?_;walk_at"";exact⟨(show 1<=sizeLine by decide),q⟩
def cu(zs:List Vn):Bool:=zs.all aL
def mY(K:Dd):Sp:=λvs H Q E=>∃l zs,vs=[.ref l]/\H l=Vo (.lst (zs.map V.str))/\zs.length<=1000000/\(∀z∈zs,z.length<=1000000) ∧
 (cu zs=true->∀t H',Ext H H'->H' t=Vo (.tup ((zs.map aJ).map V.int))->Q (.ref t) H')/\(cu zs=false->∀H',Ext H H'->E (.ref (cA K "NoText")) Vp H')
abbrev nL:Vl:=stq 33
def sy:FnScope ["words"] ["words"] (aK nL):=⟨rfl,rfl,rfl,by decide +kernel,rfl,by decide +kernel,by decide +kernel⟩
def zU{w:Ve}{K:Dd}(D:Dfn K mg "read_row" nL ["words"])(T:Blt mg)(a:CalX P w K mg base "read_number" 2 ["word"] (gY K)):CalX P w K mg base "read_row" 3 ["words"] (mY K):=by
 have nd:=(sy).nd;refine D.okX sy (λvs H Q E h=>?_) (λf cdv A outer s H vs Q E m h=>?_)
 .obtain⟨l,zs,rfl,_⟩:=h;rfl
 .obtain⟨l,zs,rfl,g,C,n,q,o⟩:=h;refine⟨_,(au (ax (bT (eX K) rfl T.tuple_ PyProof.Rows.boot_tuple (ae (vv ["word"] [] (eZ K (pv 0)) (λ_=>(aV (i:=0) (show(["word"]:List Vn).Nodup from by decide +kernel) rfl (Or.inl rfl) (Or.inr rfl))) (λ_=>cy) (λ_=>(uc a m (ae (pv 0) af)))) af)))),?_⟩;walk_at"";refine ff (ah.of g) ?_;refine fM (xs:=zs.map V.str) (λi ys H'=>Ext H H'/\(zs.take i).all aL=true/\ys=((zs.take i).map aJ).map V.int) (aI (by rw[Dh];omega)) ⟨Ext.rfl' _,rfl,rfl⟩ (λi ys H' hi h=>⟨ah.of (h.1 _ _ g),?_⟩) ?_ ?_
  .rw[h.2.2,Dh,Dh,Ea];exact Nat.min_le_left _ _
  .rintro i x ys H' j ⟨d,ha,rfl⟩;rw[Dj]at j;obtain⟨z,b,rfl⟩:=Du.mp j;have k:=Ds b;walk_at"";refine ao ?_;walk_at"";refine⟨z,rfl,n z k,λH1 r=>?_⟩;have e:=d.trans r;by_cases c:aL z=true
   .rw[Eh c];refine⟨e,?_,?_⟩
    .rw[List.take_add_one,b,List.all_append,ha];simp[c]
    .rw[List.take_add_one,b,Dz,Dz];rfl
   .rw[Eg c];refine o (by cases h:cu zs with|true=>exact absurd (DO.mp h z k) c|false=>rfl) _ e
  rintro ys H' p ⟨d,ha,rfl⟩ u;rw[Dh,DK]at ha ⊢;walk_at"";refine eP (ah.of bg) (aP λt v y B _=>?_);exact q ha t v ((d.trans (bu u)).trans y) B
def yg(z:Vn)(c:Nat):Txt.split z ⟨#[c]⟩≠[]:=λe=>by
 have h:=StrLaws.join_split z ⟨#[c]⟩;rw[e]at h;have a:z=Str.empty:=h.symm;subst a;have:Txt.split Str.empty ⟨#[c]⟩=[Str.empty]:=Tx.nB (c:=c) (ps:=[Str.empty]) (by simp) λp b=>by rw[Dt.mp b];intro h;cases h
 rw[this]at e;cases e
def uu{a r:Vn}(ha:c∉a.cps.toList):Txt.split (a++(⟨#[c]⟩:Vn)++r) ⟨#[c]⟩=a::Txt.split r ⟨#[c]⟩:=by
 have g:=StrLaws.join_split r ⟨#[c]⟩;have b:=yg r c;have d:=StrLaws.split_free r c;generalize Txt.split r ⟨#[c]⟩=ps at g b d;have e:Str.join ⟨#[c]⟩ (a::ps)=a++(⟨#[c]⟩:Vn)++r:=by
  cases ps with
  | nil=>exact absurd rfl b
  | cons p ps=>
   refine Tx.gm ?_;rw[Tx.fH,g];show _=(a.cps ++ #[c]++r.cps).toList;simp
 rw[<-e];exact Tx.nB (List.cons_ne_nil _ _) λp f=>by
  rcases Dw.mp f with rfl|f
  .exact ha
  .exact d p f
def nW(h:c∉z.cps.toList):Txt.split z ⟨#[c]⟩=[z]:=by
 have e:Str.join ⟨#[c]⟩ [z]=z:=rfl;have:=Tx.nB (c:=c) (ps:=[z]) (List.cons_ne_nil _ _) λp a=>by rw[Dt.mp a];exact h
 rwa [e]at this
def fm:∀p∈Txt.split z ⟨#[c]⟩,p.length<=z.length:=by
 have f:=StrLaws.join_split z ⟨#[c]⟩;generalize Txt.split z ⟨#[c]⟩=ps at f;rw[<-f];clear f;induction ps with
 | nil=>intro p d;cases d
 | cons a r g=>
  intro p d;cases r with
  | nil=>
   rw[Dt.mp d];exact DC _
  | cons b r=>
   have e:(Str.join ⟨#[c]⟩ (a::b::r)).length=a.length+1+(Str.join ⟨#[c]⟩ (b::r)).length:=by have h:=congrArg List.length (Tx.fH c a b r);rw[DA,DJ]at h;have h1:∀x:Vn,x.cps.toList.length=x.length:=λx=>Dl;rw[h1,h1,h1]at h;omega
   rcases Dw.mp d with rfl|d
   .omega
   .have:=g p d;omega
def gZ(z:Vn)(c:Nat):(Txt.split z ⟨#[c]⟩).length<=z.length+2:=PyProof.Rows.split_le z _
def bH(p:Vn):Option Way:=match Txt.split p " " with
 | [e,a,d,b,s]=>if e = ""/\aL a=true/\aL b=true then Vo ⟨aJ a,d,aJ b,s⟩else Vp
 | _=>Vp
def bK:List Vn->Option (List Way)
 | []=>Vo []
 | p::r=>match bH p,bK r with
  | some w,Vo ws=>Vo (w::ws)
  | _,_=>Vp
theorem mj{p:Vn}(h:bH p=Vp):∀{ps:List Vn},p∈ps->bK ps=Vp
 | q::r,a=>by
  unfold bK;rcases Dw.mp a with rfl|a
  .rw[h]
  .rw[mj h a];cases bH q<;>rfl
theorem uW{p:Vn}{w:Way}(h:bH p=Vo w):∀{ps:List Vn} {ws:List Way},bK ps=Vo ws->bK (ps++[p])=Vo (ws++[w])
 | [],ws,e=>by cases e;show(match bH p,bK []with|some w,Vo ws=>Vo (w::ws)|_,_=>Vp)=_;rw[h];rfl
 | q::r,ws,e=>by
  unfold bK at e;show(match bH q,bK (r++[p])with|some w,Vo ws=>Vo (w::ws)|_,_=>Vp)=_;cases a:bH q with
  | none=>rw[a]at e;cases e
  | some u=>
   cases b:bK r with
   | none=>rw[a,b]at e;cases e
   | some us=>
    rw[a,b]at e;cases e;rw[uW h b];rfl
theorem oU:∀{ps:List Vn} {ws:List Way},bK ps=Vo ws->ws.length=ps.length
 | [],ws,e=>by cases e;rfl
 | q::r,ws,e=>by
  unfold bK at e;cases a:bH q with
  | none=>rw[a]at e;cases e
  | some u=>
   cases b:bK r with
   | none=>rw[a,b]at e;cases e
   | some us=>
    rw[a,b]at e;cases e;rw[DJ,DJ,oU b]
def cL(z:Vn):Option (List Way):=if z = "" then Vo []else bK (Txt.split z ",")
def mM(K:Dd):Sp:=λvs H Q E=>∃z:Vn,vs=[.str z]/\z.length<=1000/\(∀w,bH z=Vo w->∀t H',Ext H H'->H' t=Vo (.tup w.vs)->Q (.ref t) H')/\(bH z=Vp->∀H',Ext H H'->E (.ref (cA K "NoText")) Vp H')
def mn(h:(Txt.split z " ").length≠5):bH z=Vp:=by
 unfold bH;split
 .rename_i e;rw[e]at h;exact absurd rfl h
 .rfl
def yR{xs:List Vn}(h:xs.length=5):∃e a d b s,xs=[e,a,d,b,s]:=by
 match xs,h with
 | [e,a,d,b,s],_=>exact⟨e,a,d,b,s,rfl⟩
abbrev mB:Vl:=stq 34
def qu:FnScope ["text","words"] ["text"] (aK mB):=⟨rfl,rfl,rfl,by decide +kernel,rfl,by decide +kernel,by decide +kernel⟩
def zd{w:Ve}{K:Dd}(D:Dfn K mg "read_way" mB ["text"])(T:Blt mg)(B:Xf K mg base fR gh)(c:CalX P w K mg base "read_number" 2 ["word"] (gY K)):CalX P w K mg base "read_way" 3 ["text"] (mM K):=by
 have nd:=(qu).nd;refine D.okX qu (λvs H Q E h=>?_) (λf cdv A outer s H vs Q E v h=>?_)
 .obtain⟨z,rfl,_⟩:=h;rfl
 .obtain⟨z,rfl,J,q,g⟩:=h;refine⟨_,(ak (ay (i:=1) nd rfl (Or.inl rfl) (bo K PySem.F.plainAttrs_str PySem.F.slot_str_split PySem.F.type_str_split eV (pv 0) (ae ai af)))
    (ak (aT (PW.pt (bj (aD cn (aF (cc K) rfl T.len_ PySem.boot_len (ae (pv 1) af)) ag (aA _)) (bQ (aD cn (aq (aB K) (pv 1) ag (λ_ _=>rfl)) ai (aA _))))) (au (iw (B.own "NoText" (by decide +kernel)) PySem.F.excBase_ValueError (ae ai af))) aO)
    (au (ax (bA (ae (fG c v (ae (aq (aB K) (pv 1) ag (λ_ _=>rfl)) af)) (ae (aq (aB K) (pv 1) ag (λ_ _=>rfl)) (ae (fG c v (ae (aq (aB K) (pv 1) ag (λ_ _=>rfl)) af)) (ae (aq (aB K) (pv 1) ag (λ_ _=>rfl)) af))))))))),?_⟩
  walk_at"";refine⟨rfl,?_⟩;walk_at"";refine fc rfl (by omega) (aP λl H1 u j _=>?_);have k:∀p∈Txt.split z " ",p.length<=z.length:=fm;walk_at"";refine eh (ah.of j) ?_;walk_at"";rw[Dh];by_cases x:(Txt.split z " ").length=5
  rotate_left
  .rw[Ee (show ¬(((Txt.split z " ").length:Nat):Int)=5 by omega)];refine ao (ao ?_);walk_at"";exact⟨(show 1<=sizeLine by decide),g (mn x) _ u⟩
  rw[Ef (show(((Txt.split z " ").length:Nat):Int)=5 by omega)];refine av ?_;unfold bH at q g;obtain⟨e,a,d,b,s',hs⟩:=yR x;rw[hs]at j q g k;dsimp only at q g;walk_at"";refine az (ah.of j) rfl ?_;walk_at"";refine il ?_;walk_at"";by_cases o:e = ""
  rotate_left
  .rw[Ee o];refine ao ?_;walk_at"";exact⟨(show 1<=sizeLine by decide),g (Eg λh=>o h.1) _ u⟩
  rw[Ef o];refine av ?_;walk_at"";refine az (ah.of j) rfl ?_;walk_at"";refine⟨a,rfl,by have:=k a (by simp);omega,λH2 r=>?_⟩;have m:=u.trans r;by_cases ha:aL a=true
  rotate_left
  .rw[Eg ha];exact g (Eg λh=>ha h.2.1) _ m
  rw[Eh ha];walk_at"";refine az (ah.of (r _ _ j)) rfl ?_;walk_at"";refine az (ah.of (r _ _ j)) rfl ?_;walk_at"";refine⟨b,rfl,by have:=k b (by simp);omega,λL y=>?_⟩;have n:=m.trans y;by_cases hb:aL b=true
  rotate_left
  .rw[Eg hb];exact g (Eg λh=>hb h.2.2) _ n
  rw[Eh hb];walk_at"";refine az (ah.of (y _ _ (r _ _ j))) rfl ?_;walk_at"";refine aH λt C G I _=>?_;exact q ⟨aJ a,d,aJ b,s'⟩ (Eh ⟨o,ha,hb⟩) t C (n.trans G) I
def nU(K:Dd):Sp:=λvs H Q E=>∃z:Vn,vs=[.str z]/\z.length<=1000/\(∀ws,cL z=Vo ws->ws.length<=z.length+2->∀t H',Ext H H'->cE H' t (ws.map Way.key)->Q (.ref t) H')/\(cL z=Vp->∀H',Ext H H'->E (.ref (cA K "NoText")) Vp H')
abbrev oW:Vl:=stq 35
def sM:FnScope ["text"] ["text"] (aK oW):=⟨rfl,rfl,rfl,by decide +kernel,rfl,by decide +kernel,by decide +kernel⟩
def Cp{w:Ve}{K:Dd}(D:Dfn K mg "read_ways" oW ["text"])(T:Blt mg)(a:CalX P w K mg base "read_way" 3 ["text"] (mM K)):CalX P w K mg base "read_ways" 4 ["text"] (nU K):=by
 have nd:=(sM).nd;refine D.okX sM (λvs H Q E h=>?_) (λf cdv A outer s H vs Q E M h=>?_)
 .obtain⟨z,rfl,_⟩:=h;rfl
 .obtain⟨z,rfl,R,q,r⟩:=h;refine⟨_,(ak (aT (aD b6 (pv 0) ai (aA _)) (au (ax (bA af))) aO)
    (au (ax (bT (eX K) rfl T.tuple_ PyProof.Rows.boot_tuple (ae (vv ["part"] [] (eZ K (bo K PySem.F.plainAttrs_str PySem.F.slot_str_split PySem.F.type_str_split eV (pv 0) (ae ai af))) (λ_=>(aV (i:=0) (show(["part"]:List Vn).Nodup from by decide +kernel) rfl (Or.inl rfl) (Or.inr rfl))) (λ_=>cy) (λ_=>(uc a M (ae (pv 0) af)))) af))))),?_⟩
  walk_at"";refine jw ?_;walk_at"";unfold cL at q r;by_cases u:z = ""
  .rw[Ef u];rw[Eh u]at q;refine ao ?_;walk_at"";refine aH λt H1 v d _=>?_;exact q [] rfl (Nat.zero_le _) t H1 v ⟨[],d,rfl,λj b k h=>by cases h⟩
  rw[Ee u];rw[Eg u]at q r;refine av ?_;walk_at"";refine⟨rfl,?_⟩;walk_at"";refine fc rfl (by omega) (aP λl H1 v C _=>?_);have e:∀p∈Txt.split z ",",p.length<=z.length:=fm;have g:(Txt.split z ",").length<=z.length+2:=gZ z 44;generalize Txt.split z "," = ps at C e g q r;refine ff (ah.of C) ?_;refine fM (xs:=ps.map V.str) (λi ys H'=>Ext H1 H'/\∃cs us,ys=cs.map V.ref/\bK (ps.take i)=Vo us/\aZ H' cs us) (aI (by rw[Dh];omega)) ⟨Ext.rfl' _,[],[],rfl,rfl,aZ.nil _⟩ (λi ys H' hi h=>⟨ah.of (h.1 _ _ C),?_⟩) ?_ ?_
  .obtain⟨_,cs,us,rfl,c,al⟩:=h;rw[Dh,al.1,oU c,Ea];exact Nat.min_le_left _ _
  .rintro i x ys H' m ⟨y,cs,us,rfl,c,al⟩;rw[Dj]at m;obtain⟨p,n,rfl⟩:=Du.mp m;have J:=Ds n;walk_at"";refine ao ?_;walk_at"";refine⟨p,rfl,by have:=e p J;omega,λw G t N B d=>⟨y.trans B,cs++[t],us++[w],by rw[Dz];rfl,?_,(al.ext B).snoc d⟩,λG N B=>r (mj G J) _ (v.trans (y.trans B))⟩;rw[List.take_add_one,n];exact uW G c
  rintro ys H' p ⟨y,cs,us,rfl,c,al⟩ n;rw[Dh,DK]at c;walk_at"";have I:=al.ext (bu (o:=.lst (cs.map V.ref)) n);refine eP (ah.of bg) (aP λt O L d _=>?_);exact q us c (by rw[oU c];exact g) t O ((v.trans (y.trans (bu n))).trans L) ((I.ext L).ways d)
def BY(h:dY (.str z)=true):cS z:=by
 by_cases h1:z = "up"
 .exact .inl h1
 by_cases h2:z = "down"
 .exact .inr (.inl h2)
 by_cases a:z = "stay"
 .exact .inr (.inr (.inl a))
 by_cases b:z = "zero"
 .exact .inr (.inr (.inr b))
 exfalso;have:cI gn (.inr z)=Vp:=by unfold cI gn;simp[Ne.symm h1,Ne.symm h2,Ne.symm a,Ne.symm b,h1,h2,a,b]
 have h:(cI gn (.inr z)).isSome=true:=h;rw[this]at h;cases h
def zp(h:dI (.str z)=true):jm z:=by
 unfold dI at h;dsimp only at h;rw[DQ,decide_eq_true_eq]at h;obtain⟨h1,h2⟩:=h;have a:z.cps.toList.length=1:=by rw[Dl];exact h1
 obtain⟨c,b⟩:∃c,z.cps.toList=[c]:=by
  match z.cps.toList,a with
  | [c],_=>exact⟨c,rfl⟩
 have d:z=⟨#[c]⟩:=Tx.gm b;subst d;have e:(DR "a").cps.toList=[97]:=by decide +kernel
 have f:(DR "z").cps.toList=[122]:=by decide +kernel
 unfold fQ at h2;rw[e,f]at h2;simp only[DQ,Bool.not_eq_true',decide_eq_false_iff_not]at h2;obtain⟨g,i⟩:=h2;refine⟨c,?_,?_,rfl⟩
 .have:¬([c]:List Nat) < [97]:=g;rw[List.cons_lt_cons_iff]at this;simp at this;omega
 .have:¬([122]:List Nat) < [c]:=i;rw[List.cons_lt_cons_iff]at this;simp at this;omega
def qL(n:bE H v m ws)(h:dG H v=true):HOuse m ws:=by
 obtain⟨p,q,rfl,h1,h2⟩:=n;obtain⟨bs,o,al⟩:=cE.al h2;rw[iN h1]at h;unfold eO at h;dsimp only at h;rw[iO o]at h;unfold dP at h;simp only[DQ,decide_eq_true_eq,Dh]at h;obtain⟨m1,m12,few,ha,nd⟩:=h;have f:∀w∈ws,w.Ok m:=λw f=>by
  obtain⟨j,k,e⟩:=List.mem_iff_getElem.mp f;have hb:j<bs.length:=by rw[al.1];exact k
  have g:=al.2 j _ _ (Di hb) (Di k);obtain⟨u,a,b,c,d,r,i,r1,l,s,t⟩:=pj (DO.mp ha _ (List.mem_map_of_mem (DI hb)));cases r;rw[g]at i;rw[e]at i;cases i;exact⟨r1.1,r1.2,l.1,l.2,BY s,zp t⟩
 refine⟨m1,m12,by rw[<-al.1];exact few,f,?_⟩;rw[mT al]at nd;unfold List.Nodup at nd ⊢;rw[List.pairwise_map]at nd;exact nd.imp λne e=>ne (by rw[e])
def yo(f:bE H v m ws)(i:ws.length<=1900)(hs:∀w∈ws,w.deed.length<=1000/\w.sign.length<=1000):bx H 4 v:=by
 obtain⟨p,q,rfl,h1,h2⟩:=f;obtain⟨bs,g,al⟩:=cE.al h2;have t:bx H 2 (.ref q):=eE g (by rw[Dh,al.1];omega) λx h=>by
  obtain⟨b,hb,rfl⟩:=List.mem_map.mp h;obtain⟨j,c,e⟩:=List.mem_iff_getElem.mp hb;have a:j<ws.length:=by rw[<-al.1];exact c
  have d:=hs _ (DI a);exact eE (al.2 j b _ (by rw[Di c,e]) (Di a)) (by show 4<=2000;decide) (.cons (fh _ _ _) (.cons (fI _ _ d.1) (.cons (fh _ _ _) (.cons (fI _ _ d.2) (.nil _ _)))))
 exact eE h1 (by simp) (.cons (fh _ _ _) (.cons t.up (.nil _ _)))
def Ba(h:bH z=Vo w):w.deed.length<=z.length/\w.sign.length<=z.length:=by
 have c:∀p∈Txt.split z " ",p.length<=z.length:=fm;unfold bH at h;split at h
 .rename_i e a d b s hs;rw[hs]at c;split at h
  .cases h;exact⟨c d (by simp),c s (by simp)⟩
  .cases h
 .cases h
theorem vX{C:Way->Prop}:∀{ps:List Vn} {ws:List Way},(∀p∈ps,∀w,bH p=Vo w->C w)->bK ps=Vo ws->∀w∈ws,C w
 | [],ws,_,e,w,a=>by cases e;cases a
 | q::r,ws,d,e,w,a=>by
  unfold bK at e;cases b:bH q with
  | none=>rw[b]at e;cases e
  | some u=>
   cases c:bK r with
   | none=>rw[b,c]at e;cases e
   | some us=>
    rw[b,c]at e;cases e;rcases Dw.mp a with rfl|a
    .exact d q (by simp) _ b
    .exact vX (λp f=>d p (Dk _ f)) c w a
def Ac(h:cL z=Vo ws):∀w∈ws,w.deed.length<=z.length/\w.sign.length<=z.length:=by
 unfold cL at h;split at h
 .cases h;intro w a;cases a
 .refine vX (λp b w a=>?_) h;have h1:p.length<=z.length:=fm p b;have:=Ba a;omega
def cO(z:Vn)(m:Int)(ws:List Way):Prop:=∃a r,Txt.split z ":" = [a,r]/\aL a=true/\m=aJ a/\cL r=Vo ws/\HOuse m ws
def nV(K:Dd):Sp:=λvs H Q E=>∃z:Vn,vs=[.str z]/\z.length<=1000/\(∀m ws,cO z m ws->∀v H',Ext H H'->bE H' v m ws->Q v H')/\((∀m ws,¬cO z m ws)->∀H',Ext H H'->E (.ref (cA K "NoText")) Vp H')
abbrev oJ:Vl:=stq 36
def pY:FnScope ["text","parts","house"] ["text"] (aK oJ):=⟨rfl,rfl,rfl,by decide +kernel,rfl,by decide +kernel,by decide +kernel⟩
def Cn{w:Ve}{K:Dd}(D:Dfn K mg "read_house" oJ ["text"])(T:Blt mg)(L:Xf K mg base fR gh)(d:Cal P w K mg base "is_house" 5 ["thing"] (wg K))(c:CalX P w K mg base "read_ways" 4 ["text"] (nU K))(b:CalX P w K mg base "read_number" 2 ["word"] (gY K)):CalX P w K mg base "read_house" 6 ["text"] (nV K):=by
 have nd:=(pY).nd;refine D.okX pY (λvs H Q E h=>?_) (λf cdv A outer s H vs Q E o h=>?_)
 .obtain⟨z,rfl,_⟩:=h;rfl
 .obtain⟨z,rfl,hz,q,n⟩:=h;refine⟨_,(ak (ay (i:=1) nd rfl (Or.inl rfl) (bo K PySem.F.plainAttrs_str PySem.F.slot_str_split PySem.F.type_str_split eV (pv 0) (ae ai af)))
    (ak (aT (aD cn (aF (cc K) rfl T.len_ PySem.boot_len (ae (pv 1) af)) ag (aA _)) (au (iw (L.own "NoText" (by decide +kernel)) PySem.F.excBase_ValueError (ae ai af))) aO)
    (ak (ay (i:=2) nd rfl (Or.inl rfl) (bA (ae (fG b o (ae (aq (aB K) (pv 1) ag (λ_ _=>rfl)) af)) (ae (fG c o (ae (aq (aB K) (pv 1) ag (λ_ _=>rfl)) af)) af))))
    (ak (aT (bt (br (aC d o (ae (pv 2) af)))) (au (iw (L.own "NoText" (by decide +kernel)) PySem.F.excBase_ValueError (ae ai af))) aO)
    (au (ax (pv 2))))))),?_⟩
  walk_at"";refine⟨rfl,?_⟩;walk_at"";refine fc rfl (by omega) (aP λl H1 v x _=>?_);have g:∀p∈Txt.split z ":",p.length<=z.length:=fm;unfold cO at q n;generalize Txt.split z ":" = ps at x g q n;walk_at"";refine eh (ah.of x) ?_;walk_at"";rw[Dh];by_cases h2:ps.length=2
  rotate_left
  .rw[Ee (show ¬((ps.length:Nat):Int)=2 by omega)];refine ao ?_;walk_at"";exact⟨(show 1<=sizeLine by decide),n (λm ws ⟨a,r,e,_⟩=>h2 (by rw[e];rfl)) _ v⟩
  rw[Ef (show((ps.length:Nat):Int)=2 by omega)];refine av ?_;obtain⟨a,r,rfl⟩:∃a r,ps=[a,r]:=by
   match ps,h2 with
   | [a,r],_=>exact⟨a,r,rfl⟩
  walk_at"";refine az (ah.of x) rfl ?_;walk_at"";refine⟨a,rfl,by have:=g a (by simp);omega,λH2 y=>?_⟩;by_cases ha:aL a=true
  rotate_left
  .rw[Eg ha];refine n (λm ws ⟨M,N,e,C,_⟩=>ha ?_) _ (v.trans y);cases e;exact C
  rw[Eh ha];walk_at"";refine az (ah.of (y _ _ x)) rfl ?_;walk_at"";have o:r.length<=z.length:=g r (by simp);refine⟨r,rfl,by omega,λws j U t W G X=>?_,λC W G=>n (λm ws ⟨M,N,e,_,_,k,_⟩=>by cases e;rw[C]at k;cases k) _ (v.trans (y.trans G))⟩;walk_at"";refine aH λu O R Y _=>?_;have B:bE O (.ref u) (aJ a) ws:=bE.mk Y (X.ext R);have S:=v.trans (y.trans (G.trans R));walk_at"";refine⟨_,rfl,yo B (by omega) (λw k=>by have:=Ac j w k;omega),λZ I=>?_⟩;walk_at"";cases J:dG O (.ref u)with
  | true=>
   refine av ?_;walk_at"";exact q (aJ a) ws ⟨a,r,rfl,ha,rfl,j,qL B J⟩ _ Z (S.trans I) (B.ext I)
  | false=>
   refine ao ?_;walk_at"";refine⟨(show 1<=sizeLine by decide),n (λm a0 ⟨M,N,e,_,em,k,ok⟩=>?_) _ (S.trans I)⟩;cases e;rw[j]at k;cases k;subst em;rw[(jT B ok).2]at J;cases J
def bX.is{b:Int}(h:bX H v b s o a)(e:cX H v=true):Ok b s o a:=by obtain⟨p,q,r,rfl,h1,h2,c⟩:=h;rw[jd h1]at e;have e:(decide (0<=b) && decide (1<=s) && bW H 0 b (.ref q) && bW H b (b+s) (.ref r))=true:=e;rw[eD h2,eD c]at e;simp only[DQ,decide_eq_true_eq]at e;exact⟨e.1.1.1,e.1.1.2,ip.mp e.1.2,ip.mp e.2⟩
theorem ly{y:Vn}:∀{ps:List Vn},y∈ps->∃A B,ps=A++y::B/\y∉A
 | p::r,h=>by
  by_cases e:p=y
  .exact⟨[],r,by rw[e];rfl,by simp⟩
  .obtain⟨A,B,rfl,h2⟩:=ly ((Dw.mp h).resolve_left (Ne.symm e));exact⟨p::A,B,rfl,λa=>by
    rcases Dw.mp a with rfl|a
    .exact e rfl
    .exact h2 a⟩
def qH(h:ps.count y=2):∃A C D,ps=A++y::(C++y::D)/\y∉A/\y∉C/\y∉D:=by obtain⟨A,B,rfl,a⟩:=ly (List.count_pos_iff.mp (by omega:0<ps.count y));rw[List.count_append,List.count_eq_zero.mpr a,List.count_cons_self]at h;obtain⟨C,D,rfl,b⟩:=ly (List.count_pos_iff.mp (by omega:0<B.count y));rw[List.count_append,List.count_eq_zero.mpr b,List.count_cons_self]at h;exact⟨A,C,D,rfl,a,b,List.count_eq_zero.mp (by omega)⟩
def tQ{A B:List Vn}(h:y∉A):(A++y::B)[A.length]?=Vo y/\∀m,m<A.length->(A++y::B)[m]?≠Vo y:=by refine⟨by rw[DG (DC _),Nat.sub_self];rfl,λm a e=>?_⟩;rw[DH a]at e;exact h (Ds e)
def cR(z:Vn)(b s:Int)(o a:List Int):Prop:=∃w0 c xs ys,Txt.split z " " = w0::c::(":":Vn)::(xs++(":":Vn)::ys)/\(aL w0=true/\aL c=true/\cu xs=true/\cu ys=true)/\b=aJ w0/\s=aJ c/\o=xs.map aJ/\a=ys.map aJ/\Ok b s o a
def fk(h:aL z=true):z≠(":":Vn):=by rintro rfl;exact absurd h (by decide +kernel)
def ig(h:cu zs=true):(":":Vn)∉zs:=λa=>fk (DO.mp h _ a) rfl
def oG{xs ys xs' ys':List Vn}(h1:y∉xs)(h2:y∉xs')(e:xs++y::ys=xs'++y::ys'):xs=xs'/\ys=ys':=by
 induction xs generalizing xs' with
 | nil=>
  cases xs' with
  | nil=>exact⟨rfl,(List.cons.inj e).2⟩
  | cons a r=>
   have:=(List.cons.inj e).1;exact absurd (by rw[this];simp) h2
 | cons a r b=>
  cases xs' with
  | nil=>
   have:=(List.cons.inj e).1;exact absurd (by rw[<-this];simp) h1
  | cons f g=>
   obtain⟨c,d⟩:=List.cons.inj e;obtain⟨rfl,rfl⟩:=b (λh=>h1 (Dk _ h)) (λh=>h2 (Dk _ h)) d;exact⟨by rw[c],rfl⟩
def o5{w0 c:Vn}{C D:List Vn}(hs:Txt.split z " " = w0::c::(":":Vn)::(C++(":":Vn)::D))(d:(":":Vn)∉C){b:Int}(h:cR z b s o a):
  (aL w0=true/\aL c=true/\cu C=true/\cu D=true)/\b=aJ w0/\s=aJ c/\o=C.map aJ/\a=D.map aJ/\Ok b s o a:=by
 obtain⟨v0,v1,xs,ys,e,n,h⟩:=h;rw[hs]at e;injection e with f e;injection e with g e;injection e with _ e;obtain⟨rfl,rfl⟩:=oG d (ig n.2.2.1) e;subst f g;exact⟨n,h⟩
def om(K:Dd):Sp:=λvs H Q E=>∃z:Vn,vs=[.str z]/\z.length<=1000/\(∀b s o a,cR z b s o a->∀v H',Ext H H'->bX H' v b s o a->Q v H')/\((∀b s o a,¬cR z b s o a)->∀H',Ext H H'->E (.ref (cA K "NoText")) Vp H')
abbrev oF:Vl:=stq 37
def pw:FnScope ["text","words","second","once","again","stair"] ["text"] (aK oF):=⟨rfl,rfl,rfl,by decide +kernel,rfl,by decide +kernel,by decide +kernel⟩
def yp{w:Ve}{K:Dd}(D:Dfn K mg "read_stair" oF ["text"])(T:Blt mg)(XF:Xf K mg base fR gh)(g:Cal P w K mg base "is_stair" 4 ["thing"] (sT K))(c:CalX P w K mg base "read_number" 2 ["word"] (gY K))(d:CalX P w K mg base "read_row" 3 ["words"] (mY K)):CalX P w K mg base "read_stair" 5 ["text"] (om K):=by
 have nd:=(pw).nd;refine D.okX pw (λvs H Q E h=>?_) (λf cdv A outer s H vs Q E R h=>?_)
 .obtain⟨z,rfl,_⟩:=h;rfl
 .obtain⟨z,rfl,hz,q,Z⟩:=h;refine⟨_,(ak (ay (i:=1) nd rfl (Or.inl rfl) (bo K PySem.F.plainAttrs_str PySem.F.slot_str_split PySem.F.type_str_split eV (pv 0) (ae ai af)))
    (ak (aT (PW.pt (bj (aD cn (bo K Dp PySem.F.slot_list_count PySem.F.type_list_count (xn K) (pv 1) (ae ai af)) ag (aA _)) (bQ (aD cn (bo K Dp PySem.F.slot_list_index PySem.F.type_list_index (qW K) (pv 1) (ae ai af)) ag (aA _))))) (au (iw (XF.own "NoText" (by decide +kernel)) PySem.F.excBase_ValueError (ae ai af))) aO)
    (ak (ay (i:=2) nd rfl (Or.inl rfl) (bo K Dp PySem.F.slot_list_index PySem.F.type_list_index (qW K) (pv 1) (ae ai (ae ag af))))
    (ak (ay (i:=3) nd rfl (Or.inl rfl) (fG d R (ae (bU (eQ K) (pv 1) (bw ag) (bw (pv 2))) af)))
    (ak (ay (i:=4) nd rfl (Or.inl rfl) (fG d R (ae (bU (eQ K) (pv 1) (bw (aj aM (pv 2) ag)) cx) af)))
    (ak (ay (i:=5) nd rfl (Or.inl rfl) (bA (ae (fG c R (ae (aq (aB K) (pv 1) ag (λ_ _=>rfl)) af)) (ae (fG c R (ae (aq (aB K) (pv 1) ag (λ_ _=>rfl)) af)) (ae (pv 3) (ae (pv 4) af))))))
    (ak (aT (bt (br (aC g R (ae (pv 5) af)))) (au (iw (XF.own "NoText" (by decide +kernel)) PySem.F.excBase_ValueError (ae ai af))) aO)
    (au (ax (pv 5)))))))))),?_⟩
  walk_at"";refine⟨rfl,?_⟩;walk_at"";refine fc rfl (by omega) (aP λl H1 e1 t _=>?_);have x:∀p∈Txt.split z " ",p.length<=z.length:=fm;have S:(Txt.split z " ").length<=z.length+2:=gZ z 32;generalize G:Txt.split z " " = ps at t x S;walk_at"";refine⟨.inl ⟨rfl,_,ah.of t⟩,?_⟩;walk_at"";refine⟨l,_,_,rfl,rfl,ah.of t,?_⟩;walk_at"";by_cases h2:ps.count (":":Vn)=2
  rotate_left
  .rw[Ee (show ¬((ps.count (":":Vn):Nat):Int)=2 by omega)];refine ao (ao ?_);walk_at"";refine⟨(show 1<=sizeLine by decide),Z (λb s o a ⟨w0,r,xs,ys,e,n,_⟩=>h2 ?_) _ e1⟩;rw[<-G,e];rw[List.count_cons_of_ne (fk n.1),List.count_cons_of_ne (fk n.2.1),List.count_cons_self,List.count_append,List.count_cons_self,List.count_eq_zero.mpr (ig n.2.2.1),List.count_eq_zero.mpr (ig n.2.2.2)]
  rw[Ef (show((ps.count (":":Vn):Nat):Int)=2 by omega)];refine av ?_;obtain⟨A,C,D,rfl,hA,hC,hD⟩:=qH h2;clear h2;have fA:=tQ (B:=C++(":":Vn)::D) hA;walk_at"";refine⟨.inl ⟨rfl,_,ah.of t⟩,?_⟩;walk_at"";refine⟨l,_,_,0,A.length,rfl,.inl ⟨rfl,rfl⟩,ah.of t,Nat.zero_le _,fA.1,λm _ hm=>fA.2 m hm,?_⟩;walk_at"";by_cases J:A.length=2
  rotate_left
  .rw[Ee (show ¬((A.length:Nat):Int)=2 by omega)];refine ao ?_;walk_at"";refine⟨(show 1<=sizeLine by decide),Z (λb s o a ⟨w0,r,xs,ys,e,n,_⟩=>J ?_) _ e1⟩;rw[G]at e;have:=(oG (xs':=[w0,r]) hA (by simp[Ne.symm (fk n.1),Ne.symm (fk n.2.1)]) e).1;rw[this];rfl
  rw[Ef (show((A.length:Nat):Int)=2 by omega)];refine av ?_;obtain⟨w0,r,rfl⟩:∃w0 r,A=[w0,r]:=by
   match A,J with
   | [a,b],_=>exact⟨a,b,rfl⟩
  clear J fA hA;have y:¬((aL w0=true/\aL r=true/\cu C=true/\cu D=true)/\Ok (aJ w0) (aJ r) (C.map aJ) (D.map aJ))->∀H',Ext H H'->E (.ref (cA K "NoText")) Vp H':=λn=>Z λb s o a h=>by obtain⟨m,rfl,rfl,rfl,rfl,ok⟩:=o5 G hC h;exact n ⟨m,ok⟩
  clear Z;have hlen:(List.map V.str ([w0,r]++(":":Vn)::(C++(":":Vn)::D))).length=C.length+D.length+4:=by simp only[Dh,DA,DJ,List.length_nil];omega
  have fC:=tQ (B:=D) hC;walk_at"";refine⟨.inl ⟨rfl,_,ah.of t⟩,?_⟩;walk_at"";refine⟨l,_,_,3,C.length+3,rfl,.inr rfl,ah.of t,by omega,fC.1,λm h3 hm e=>?_,?_⟩
  .obtain⟨k,rfl⟩:∃k,m=k+3:=⟨m-3,by omega⟩;exact fC.2 k (by omega) e
  walk_at"";refine fu (ah.of t) (aP λl2 H2 e2 U _=>?_);have c1:bG (List.map V.str ([w0,r]++(":":Vn)::(C++(":":Vn)::D))) (some 3) (some ((C.length+3:Nat):Int))=C.map V.str:=by refine(kM (a:=3) (b:=C.length+3) (by omega) (by omega)).trans ?_;rw[<-List.map_drop,<-List.map_take,Nat.add_sub_cancel];show List.map V.str ((C++(":":Vn)::D).take C.length)=_;rw[List.take_left]
  rw[c1]at U;have a2:C.length<=z.length+2/\D.length<=z.length+2:=by simp only[DA,DJ,List.length_nil]at S;omega
  walk_at"";refine⟨l2,C,rfl,U,by omega,λp hp=>by have:=x p (by simp[hp]);omega,λL t1 H3 W a0=>?_,λL H3 W=>y (λn=>by rw[L]at n;exact absurd n.1.2.2.1 Dy) _ (e1.trans (e2.trans W))⟩;walk_at"";refine fu (ah.of (W _ _ (e2 _ _ t))) (aP λl3 H4 e4 X _=>?_);have c2:bG (List.map V.str ([w0,r]++(":":Vn)::(C++(":":Vn)::D))) (some (((C.length+3:Nat):Int)+1)) none=D.map V.str:=by refine(tH _ (C.length+4)).trans ?_;rw[<-List.map_drop];show List.map V.str ((C++(":":Vn)::D).drop (C.length+1))=_;rw[<-List.drop_drop,List.drop_left];rfl
  rw[c2]at X;have I:=e1.trans (e2.trans (W.trans e4));walk_at"";refine⟨l3,D,rfl,X,by omega,λp hp=>by have:=x p (by simp[hp]);omega,λM t2 H5 N a1=>?_,λM H5 N=>y (λn=>by rw[M]at n;exact absurd n.1.2.2.2 Dy) _ (I.trans N)⟩;have Y:=(e2.trans W).trans (e4.trans N);walk_at"";refine az (ah.of (Y _ _ t)) (v:=.str w0) (ck (j:=0) rfl) ?_;walk_at"";refine⟨w0,rfl,by have:=x w0 (by simp);omega,λH6 e6=>?_⟩;by_cases n0:aL w0=true
  rotate_left
  .rw[Eg n0];exact y (λn=>n0 n.1.1) _ (I.trans (N.trans e6))
  rw[Eh n0];walk_at"";refine az (ah.of (e6 _ _ (Y _ _ t))) (v:=.str r) (ck (j:=1) rfl) ?_;walk_at"";refine⟨r,rfl,by have:=x r (by simp);omega,λH7 e7=>?_⟩;by_cases n1:aL r=true
  rotate_left
  .rw[Eg n1];exact y (λn=>n1 n.1.2.1) _ (I.trans (N.trans (e6.trans e7)))
  rw[Eh n1];walk_at"";refine aH λu H8 e8 hu _=>?_;have O:=(e6.trans e7).trans e8;have eA:=I.trans (N.trans O);have hv:bX H8 (.ref u) (aJ w0) (aJ r) (C.map aJ) (D.map aJ):=⟨u,t1,t2,rfl,hu,O _ _ (N _ _ (e4 _ _ a0)),O _ _ a1⟩;walk_at"";refine⟨_,rfl,hv.kn,?_⟩;walk_at"";cases hh:cX H8 (.ref u)with
  | true=>
   refine av ?_;walk_at"";exact q _ _ _ _ ⟨w0,r,C,D,G,⟨n0,n1,L,M⟩,rfl,rfl,rfl,rfl,hv.is hh⟩ _ _ eA hv
  | false=>
   refine ao ?_;walk_at"";exact⟨(show 1<=sizeLine by decide),y (λn=>by rw[hv.yes n.2]at hh;cases hh) _ eA⟩
def str_len(z:Vn):z.cps.toList.length=z.length:=Dl
def uo{j:Int}(h:0<=j)(a:j<=z.length):Txt.slice z Vp (Vo j)=⟨(z.cps.toList.take j.toNat).toArray⟩:=by refine(StrLaws.sliceText_to (x:=z) (j:=j) ⟨h,by rw[str_len];exact a⟩).trans ?_;rw[List.drop_zero,Int.sub_zero]
def vY{i:Int}(h:0<=i)(hi:i<=z.length):Txt.slice z (Vo i) Vp=⟨(z.cps.toList.drop i.toNat).toArray⟩:=by refine(StrLaws.sliceText_from (x:=z) (i:=i) ⟨h,by rw[str_len];exact hi⟩).trans ?_;rw[List.take_of_length_le (by rw[List.length_drop];omega)]
def Cq(p:Vn):(∃r:Vn,p=(⟨#[]⟩:Vn)++(⟨#[32]⟩:Vn)++r/\Txt.slice p Vp (Vo 1) = " "/\Txt.slice p (Vo 1) Vp=r)\/(Txt.slice p Vp (Vo 1)≠" "/\bH p=Vp):=by
 cases f:p.cps.toList with
 | nil=>
  have o:p.length=0:=by rw[<-str_len,f];rfl
  refine .inr ⟨λe=>?_,mn λl=>?_⟩
  .have:=Txt.slice_le p Vp (Vo 1);rw[e,o]at this;exact absurd this (by decide)
  .have:Txt.split p " " = [p]:=nW (c:=32) (by rw[f];simp);rw[this]at l;cases l
 | cons c r=>
  have m:(1:Int)<=p.length:=by rw[<-str_len,f,DJ];omega
  have h:=uo (z:=p) (j:=1) (by decide) m;have n:=vY (z:=p) (i:=1) (by decide) m;rw[f]at h n;by_cases k:c=32
  .subst k;refine .inl ⟨⟨r.toArray⟩,Tx.gm ?_,h,n⟩;rw[f];show _=((#[] ++ #[32]++r.toArray:Array Nat)).toList;simp
  .refine .inr ⟨λe=>?_,?_⟩
   .rw[h]at e;have e:(⟨#[c]⟩:Vn)=⟨#[32]⟩:=e;exact k (by injection e with e;simpa using e)
   .unfold bH;split
    .rename_i e a d b s hs;rw[Eg];rintro⟨rfl,_⟩;have g:=StrLaws.join_split p (" ":Vn);rw[hs]at g;have h2:=Tx.fH 32 (DR "") a [d,b,s];have g:Str.join ⟨#[32]⟩ (DR "" :: a::[d,b,s])=p:=g;rw[g,f]at h2;have h2:c::r=32::(Str.join ⟨#[32]⟩ (a::[d,b,s])).cps.toList:=h2;exact k (List.cons.inj h2).1
    .rfl
def xo(z:Vn)(c:Nat):(eu z ⟨#[c]⟩ = -1/\c∉z.cps.toList)\/∃a r:Vn,z=a++(⟨#[c]⟩:Vn)++r/\c∉a.cps.toList/\eu z ⟨#[c]⟩=(a.length:Int)/\Txt.slice z Vp (Vo (a.length:Int))=a/\Txt.slice z (Vo ((a.length:Int)+1)) Vp=r:=by
 unfold eu;rcases StrLaws.occ_head z ⟨#[c]⟩ 1 (DC _)with⟨e,g⟩|⟨i,r,e,ha,g⟩
 .rw[e];refine .inl ⟨rfl,λh=>?_⟩;obtain⟨i,hi⟩:=DY h;exact g i ((StrLaws.subAt_one z c i).mpr hi)
 .rw[e];have hi:=(StrLaws.subAt_one z c i).mp ha;have hlt:i<z.cps.toList.length:=(Dr.mp hi).1;have j:i<z.length:=by rw[<-str_len];exact hlt
  have b:(⟨(z.cps.toList.take i).toArray⟩:Vn).length=i:=by show(z.cps.toList.take i).toArray.size=i;rw[Dm,Ea];omega
  refine .inr ⟨⟨(z.cps.toList.take i).toArray⟩,⟨(z.cps.toList.drop (i+1)).toArray⟩,Tx.gm ?_,λh=>?_,by rw[b],?_,?_⟩
  .show _=(((z.cps.toList.take i).toArray ++ #[c]++(z.cps.toList.drop (i+1)).toArray:Array Nat)).toList;simp only[Array.toList_append];rw[List.append_assoc]
   conv=>lhs;rw[<-List.take_append_drop i z.cps.toList]
   rw[List.drop_eq_getElem_cons hlt];obtain⟨_,l⟩:=Dr.mp hi;rw[l];rfl
  .obtain⟨k,d⟩:=DY h;have d:(z.cps.toList.take i)[k]?=Vo c:=d;have f:k<i:=by have:=(Dr.mp d).1;rw[Ea]at this;omega
   rw[List.getElem?_take_of_lt f]at d;exact g k f ((StrLaws.subAt_one z c k).mpr d)
  .rw[b,uo (by omega) (by omega)];simp
  .rw[b,vY (by omega) (by omega)];rw[show (((i:Nat):Int)+1).toNat=i+1 by omega]
def bp(z:Vn):V:=if aL z=true then .int (aJ z)else .non
def BB(c:Nat)(h:48<=c/\c<=57):eu (DR "0123456789") ⟨#[c]⟩=((c-48:Nat):Int):=by
 have:∀k:Fin 10,eu (DR "0123456789") ⟨#[48+k.1]⟩=((k.1:Nat):Int):=by decide +kernel
 have h1:=this ⟨c-48,by omega⟩;rw[show 48+(⟨c-48,by omega⟩:Fin 10).1=c by show 48+(c-48)=c;omega]at h1;exact h1
def zC(cs:List Nat)(c:Nat):PySem.NumText.digitsVal (cs++[c])=PySem.NumText.digitsVal cs*10+(c-48):=by unfold PySem.NumText.digitsVal;rw[List.foldl_append];rfl
theorem pL:∀(cs:List Nat) (a:Nat),(∀c∈cs,48<=c/\c<=57)->cs.foldl (λacc c=>acc*10+(c-48)) a<(a+1)*10 ^ cs.length
 | [],a,_=>by simp
 | c::r,a,h=>by have h1:=pL r (a*10+(c-48)) λx b=>h x (Dk _ b);have h2:=h c Dn;rw[List.foldl_cons,DJ,Nat.pow_succ];refine DL h1 ?_;rw[Nat.mul_comm (10 ^ r.length) 10,<-Nat.mul_assoc];exact Nat.mul_le_mul_right _ (by omega)
def yw{cs:List Nat}(h:∀c∈cs,48<=c/\c<=57):PySem.NumText.digitsVal cs<10 ^ cs.length:=by
 have:=pL cs 0 h
 rwa [Nat.zero_add,Nat.one_mul]at this
def jW(K:Dd):Sp:=λvs H Q _=>∃z:Vn,vs=[.str z]/\z.length<=1000/\∀H',Ext H H'->Q (bp z) H'
abbrev o9:Vl:=stq 55
def qp:FnScope ["_law_word","_law_total","_law_sign"] ["_law_word"] (aK o9):=⟨rfl,rfl,rfl,by decide +kernel,rfl,by decide +kernel,by decide +kernel⟩
def xA{P:Vd}{w:Ve}{K:Dd}{mg:Vn->Option Va}{base:Vh}(D:Dfn K mg "_law_number_of" o9 ["_law_word"])(T:Blt mg):Cal P w K mg base "_law_number_of" 1 ["_law_word"] (jW K):=by
 have nd:=(qp).nd;refine D.ok qp (λvs H Q E h=>?_) (λX y H vs Q E h=>?_)
 .obtain⟨z,rfl,_⟩:=h;rfl
 .obtain⟨f,cdv,A,outer,s,H0,E0,rfl,M⟩:=y;obtain⟨z,rfl,N,q⟩:=h;refine⟨_,(ak (aT (PW.pt (bj (aD cW (aF fJ rfl T.len_ PySem.boot_len (ae (pv 0) af)) ag (aA _)) (bj (aD ed (aF fJ rfl T.len_ PySem.boot_len (ae (pv 0) af)) ag (aA _)) (bQ (bt (br (aF (gr K rfl) rfl T.all_ PyProof.Rows.boot_all (ae (dm ["_law_sign"] [] (md (pv 0)) (λ_=>(aV (i:=0) (show(["_law_sign"]:List Vn).Nodup from by decide +kernel) rfl (Or.inl rfl) (Or.inr rfl))) (λ_=>cy) (λ_=>(dD vI (pv 0) ai (by with_unfolding_all rfl)))) af)))))))) (au (ax dn)) aO)
    (ak (aT (PW.pt (ke (aD b6 (aq jj (pv 0) ag (λ_ _=>rfl)) ai (aA _)) (jY (aD ed (aF fJ rfl T.len_ PySem.boot_len (ae (pv 0) af)) ag (aA _))))) (au (ax dn)) aO)
    (ak (ay (i:=1) nd rfl (Or.inl rfl) ag)
    (ak (dO PassesOwn.never rfl (md (pv 0)) (aV (i:=2) nd rfl (Or.inl rfl)) (au (ay (i:=1) nd rfl (Or.inl rfl) (aj aM (aj dW (pv 1) ag) (bo K PySem.F.plainAttrs_str PySem.F.slot_str_find PySem.F.type_str_find kY ai (ae (pv 2) af))))))
    (au (ax (pv 1))))))),?_⟩
  have no:aL z≠true->∀H',Ext H H'->Q .non H':=λn H' e=>by
   have:=q H' e;unfold bp at this
   rwa [Eg n]at this
  have yes:aL z=true->∀H',Ext H H'->Q (.int (aJ z)) H':=λn H' e=>by
   have:=q H' e;unfold bp at this
   rwa [Eh n]at this
  clear q;walk_at"";refine⟨z,rfl,aI (by omega),?_⟩;walk_at"";by_cases h1:(z.length:Int)<1
  .rw[Ef h1];refine ao (ao ?_);walk_at"";exact no (λh=>by have:=hZ h;omega) H (Ext.rfl' _)
  rw[Ee h1];refine av ?_;walk_at"";refine⟨z,rfl,aI (by omega),?_⟩;walk_at"";by_cases h2:(6:Int)<z.length
  .rw[Ef h2];refine ao (ao ?_);walk_at"";exact no (λh=>by have:=hZ h;omega) H (Ext.rfl' _)
  rw[Ee h2];refine av ?_;walk_at"";refine⟨z,rfl,?_⟩;have B:z.cps.size=z.length:=rfl;refine q9 (λi ys H'=>H'=H/\ys=((z.cps.toList.take i).map de).map V.bl) (aI (by omega)) ⟨rfl,rfl⟩ ?_ ?_ ?_
  .rintro i ys H' _ ⟨rfl,rfl⟩;rw[Dh,Dh,Ea];exact Nat.min_le_left _ _
  .rintro i c ys H' j ⟨rfl,rfl⟩;walk_at"";refine ao ?_;walk_at"";refine⟨_,_,rfl,rfl,rfl,?_⟩;rw[uC,List.take_add_one,Array.getElem?_toList,j,Dz,Dz];rfl
  rintro ys H' l ⟨rfl,rfl⟩ p;rw[<-Dl,DK];have m:Ext H' (upd H' l (.lst ((z.cps.toList.map de).map V.bl))):=bu p;have u:(upd H' l (.lst ((z.cps.toList.map de).map V.bl))) l=_:=bg;generalize upd H' l (.lst ((z.cps.toList.map de).map V.bl))=H1 at m u;walk_at"";refine⟨l,_,rfl,ah.of u,?_⟩;walk_at"";cases hall:(z.cps.toList.map de).all id with
  | false=>
   refine ao ?_;walk_at"";refine no (λh=>?_) H1 m;unfold aL at h;rw[hall]at h;simp at h
  | true=>
   refine av ?_;walk_at"";have C:0<z.cps.toList.length:=by rw[Dl];omega
   have j:z.cps.toList[0]?=Vo z.cps.toList[0]:=Di C;have a:aL z=(decide (z = "0") || decide (z.cps.toList[0]?≠Vo 48)):=by unfold aL;rw[hall,Ef (show 1<=z.length by omega),Ef (show z.length<=6 by omega),Bool.true_and,Bool.true_and,Bool.true_and]
   rw[j]at a;generalize z.cps.toList[0]=c at j a;refine⟨z,0,c,rfl,rfl,aI (by omega),ck j,?_⟩;walk_at"";refine jw ?_;have G:decide ((⟨#[c]⟩:Vn)=DR "0")=decide (c=48):=by
    have:(DR "0")=⟨#[48]⟩:=rfl;rw[this];by_cases b:c=48
    .subst b;decide
    .rw[Ee b,Ee (λe=>b (by injection e with e;simpa using e))]
   rw[G]
   refine' jG (P:=aL z=true->_) (λfin=>?_) ?_
   rotate_left
   .by_cases b:c=48
    .rw[Ef b];refine rd_exb (ao ?_);walk_at"";refine⟨z,rfl,aI (by omega),?_⟩;walk_at"";by_cases o:(1:Int)<z.length
     .rw[Ef o];refine ao ?_;walk_at"";refine no (λh=>?_) H1 m;rw[a,b]at h;simp only[ne_eq,not_true_eq_false,decide_false,Bool.or_false,decide_eq_true_eq]at h;rw[h]at o;exact absurd o (by decide)
     .rw[Ee o];refine av ?_;refine fin ?_;have r:z = "0":=by
       refine Tx.gm ?_;have t:z.cps.toList.length=1:=by rw[Dl];show z.length=1;omega
       match hzl:z.cps.toList,t with
       | [d],_=>
        rw[hzl]at j;have e:d=48:=(DS j).trans b;rw[e];rfl
      rw[a,Ef r];rfl
    .rw[Ee b];refine rd_exb (av ?_);refine fin ?_;rw[a,Ef (show Vo c≠Vo 48 from λe=>b (DS e)),Bool.or_true]
   intro v;have hd:=(hZ v).1;walk_at"";refine⟨z,rfl,?_⟩;refine Cj (λi σ H'=>H'=H1/\∃k,σ=[Vo (.str z),Vo (.int ((PySem.NumText.digitsVal (z.cps.toList.take i):Nat):Int)),k]) ⟨rfl,Vp,rfl⟩ ?_ ?_
   .rintro i d σ H' g ⟨rfl,k,rfl⟩;have g:z.cps.toList[i]?=Vo d:=by rw[Array.getElem?_toList];exact g
    have I:=hd d (Ds g);have J:=yw (cs:=z.cps.toList.take i) λx L=>hd x (List.mem_of_mem_take L);have hlt:(z.cps.toList.take i).length<=6:=by rw[Ea,str_len];omega
    have O:=Nat.pow_le_pow_right (n:=10) (by decide) hlt;walk_at"";refine⟨rfl,?_⟩;walk_at"";refine⟨_,_,rfl,rfl,?_⟩;rw[BB d I];walk_at"";refine⟨rfl,Vo (.str ⟨#[d]⟩),?_⟩;rw[List.take_add_one,g];show _=[Vo (.str z),Vo (.int ((PySem.NumText.digitsVal (z.cps.toList.take i++[d]):Nat):Int)),Vo (V.str ⟨#[d]⟩)];rw[zC];simp
   .rintro σ H' ⟨rfl,k,rfl⟩;walk_at"";rw[show z.cps.toList.take z.cps.size=z.cps.toList from List.take_of_length_le (by rw[str_len];exact DC _)];exact yes v _ m
def gj(H:Hp)(p:Vn)(v:V):Prop:=(∃w b,bH p=Vo w/\v=.ref b/\H b=Vo (.tup (Way.vs w))/\w.deed.length<=1000/\w.sign.length<=1000)\/(bH p=Vp/\bx H 2 v/\∀m,bz H m v=false)
def AA{b:Vb}{x y:V}{d s:Vn}(h:H b=Vo (.tup [x,.str d,y,.str s]))(n:isInt x=false\/isInt y=false):bz H m (.ref b)=false:=by
 rw[iE h];show(bR m x && (bR m y && _))=false;rcases n with n|n
 .rw[ji n];rfl
 .rw[ji n];simp
def ny(H:Hp)(n:Nat)(z:Vn):bx H n (bp z):=by
 unfold bp;split
 .exact fh _ _ _
 .exact ng _ _
def um(K:Dd):Sp:=λvs H Q _=>∃p:Vn,vs=[.str p]/\p.length<=1000/\∀v H',Ext H H'->gj H' p v->Q v H'
abbrev nH:Vl:=stq 56
def vW:FnScope ["_law_piece","_law_words"] ["_law_piece"] (aK nH):=⟨rfl,rfl,rfl,by decide +kernel,rfl,by decide +kernel,by decide +kernel⟩
def wx{P:Vd}{w:Ve}{K:Dd}{mg:Vn->Option Va}{base:Vh}(D:Dfn K mg "_law_way_of" nH ["_law_piece"])(T:Blt mg)(e:Cal P w K mg base "_law_number_of" 1 ["_law_word"] (jW K)):Cal P w K mg base "_law_way_of" 2 ["_law_piece"] (um K):=by
 have nd:=(vW).nd;refine D.ok vW (λvs H Q E h=>?_) (λX G H vs Q E h=>?_)
 .obtain⟨z,rfl,_⟩:=h;rfl
 .obtain⟨f,cdv,A,outer,s,H0,E0,rfl,y⟩:=G;obtain⟨p,rfl,R,q⟩:=h;refine⟨_,(ak (aT (aD cn (bU di (pv 0) cx (bw ag)) ai (aA _)) (au (ax dn)) aO)
    (ak (ay (i:=1) nd rfl (Or.inl rfl) (bo K PySem.F.plainAttrs_str PySem.F.slot_str_split PySem.F.type_str_split eV (bU di (pv 0) (bw ag) cx) (ae ai af)))
    (ak (aT (aD cn (aF (cc K) rfl T.len_ PySem.boot_len (ae (pv 1) af)) ag (aA _)) (au (ax dn)) aO)
    (au (ax (bA (ae (aC e y (ae (aq (aB K) (pv 1) ag (λ_ _=>rfl)) af)) (ae (aq (aB K) (pv 1) ag (λ_ _=>rfl)) (ae (aC e y (ae (aq (aB K) (pv 1) ag (λ_ _=>rfl)) af)) (ae (aq (aB K) (pv 1) ag (λ_ _=>rfl)) af)))))))))),?_⟩
  walk_at"";refine⟨p,rfl,aI (by omega),?_⟩;walk_at"";refine il ?_;rcases Cq p with⟨r,I,s1,s2⟩|⟨s1,J⟩
  rotate_left
  .rw[Ee s1];refine rd_exb (ao ?_);walk_at"";exact q _ H (Ext.rfl' _) (.inr ⟨J,ng _ _,λm=>rfl⟩)
  rw[Ef s1];refine rd_exb (av ?_);walk_at"";refine⟨p,rfl,aI (by omega),?_⟩;rw[s2];refine⟨rfl,?_⟩;have L:r.length<=p.length:=by
   have:=Txt.slice_le p (Vo 1) Vp
   rwa [s2]at this
  have j:Txt.split p " " = (⟨#[]⟩:Vn)::Txt.split r " ":=by rw[I];exact uu (c:=32) (a:=⟨#[]⟩) (by simp)
  walk_at"";refine fc rfl (by omega) (aP λl H1 B n _=>?_);have g:∀x∈Txt.split r " ",x.length<=r.length:=fm;have k:=mn (z:=p);rw[j]at k;generalize Txt.split r " " = ws at n g k j;walk_at"";refine eh (ah.of n) ?_;walk_at"";rw[Dh];by_cases M:ws.length=4
  rotate_left
  .rw[Ee (show ¬((ws.length:Nat):Int)=4 by omega)];refine ao ?_;walk_at"";exact q _ H1 B (.inr ⟨k (by rw[DJ];omega),ng _ _,λm=>rfl⟩)
  rw[Ef (show((ws.length:Nat):Int)=4 by omega)];refine av ?_;obtain⟨a,d,b,s',rfl⟩:∃a d b s,ws=[a,d,b,s]:=by
   match ws,M with
   | [a,d,b,s],_=>exact⟨a,d,b,s,rfl⟩
  have o:bH p=if aL a=true/\aL b=true then Vo ⟨aJ a,d,aJ b,s'⟩else Vp:=by
   unfold bH;rw[j];show(if(⟨#[]⟩:Vn) = ""/\aL a=true/\aL b=true then _ else _)=_;by_cases h:aL a=true/\aL b=true
   .rw[Eh ⟨rfl,h⟩,Eh h]
   .rw[Eg λz=>h z.2,Eg h]
  walk_at"";refine az (ah.of n) rfl ?_;walk_at"";refine⟨a,rfl,by have:=g a (by simp);omega,λH2 u=>?_⟩;walk_at"";refine az (ah.of (u _ _ n)) rfl ?_;walk_at"";refine az (ah.of (u _ _ n)) rfl ?_;walk_at"";refine⟨b,rfl,by have:=g b (by simp);omega,λS C=>?_⟩;walk_at"";refine az (ah.of (C _ _ (u _ _ n))) rfl ?_;walk_at"";refine aH λt N O v _=>?_;have hd:=g d (by simp);have hs:=g s' (by simp);refine q _ N (((B.trans u).trans C).trans O) ?_;by_cases h:aL a=true/\aL b=true
  .refine .inl ⟨⟨aJ a,d,aJ b,s'⟩,t,by rw[o,Eh h],rfl,?_,by show d.length<=1000;omega,by show s'.length<=1000;omega⟩;rw[v];unfold bp;rw[Eh h.1,Eh h.2]
  .refine .inr ⟨by rw[o,Eg h],eE v (by simp) (.cons (ny _ _ _) (.cons (fI _ _ (by omega)) (.cons (ny _ _ _) (.cons (fI _ _ (by omega)) (.nil _ _))))),λm=>AA v ?_⟩;unfold bp;by_cases ha:aL a=true
   .exact .inr (by rw[Eg λz=>h ⟨ha,z⟩];rfl)
   .exact .inl (by rw[Eg ha];rfl)
theorem gj.ext{H H':Hp}(e:Ext H H'){p:Vn}{v:V}(h:gj H p v):gj H' p v:=by
 rcases h with⟨w,b,h1,rfl,h2,a⟩|⟨h1,h2,a⟩
 .exact .inl ⟨w,b,h1,rfl,e _ _ h2,a⟩
 .exact .inr ⟨h1,h2.ext e,λm=>by rw[o6 e h2];exact a m⟩
def xa{vs:List V}(h:Paired (gj H) ps vs):(∃ws bs,bK ps=Vo ws/\vs=bs.map V.ref/\aZ H bs ws/\∀w∈ws,w.deed.length<=1000/\w.sign.length<=1000)\/(bK ps=Vp/\∃v∈vs,∀m,bz H m v=false):=by
 induction h with
 | nil=>exact .inl ⟨[],[],rfl,rfl,aZ.nil _,λw f=>by cases f⟩
 | @cons p v ps vs h t g=>
  rcases h with⟨w,b,h1,rfl,h2,a⟩|⟨h1,_,a⟩
  .rcases g with⟨ws,bs,i1,rfl,i3,i⟩|⟨i1,v,i2,i3⟩
   .refine .inl ⟨w::ws,b::bs,?_,rfl,⟨by rw[DJ,DJ,i3.1],λj k l d e=>?_⟩,λu c=>?_⟩
    .unfold bK;rw[h1,i1]
    .cases j with
     | zero=>cases d;cases e;exact h2
     | succ j=>exact i3.2 j k l d e
    .rcases Dw.mp c with rfl|c
     .exact a
     .exact i u c
   .refine .inr ⟨?_,v,Dk _ i2,i3⟩;unfold bK;rw[h1,i1]
  .refine .inr ⟨mj h1 Dn,v,Dn,a⟩
def xB{vs:List V}(h:Paired (gj H) ps vs):cD H 2 vs:=by
 induction h with
 | nil=>exact cD.nil _ _
 | @cons p v ps vs h t a=>
  refine cD.cons ?_ a;rcases h with⟨w,b,h1,rfl,h2,c,d⟩|⟨_,h2,_⟩
  .exact eE h2 (by show 4<=2000;decide) (.cons (fh _ _ _) (.cons (fI _ _ c) (.cons (fh _ _ _) (.cons (fI _ _ d) (.nil _ _)))))
  .exact h2
def tX(h:aL z=true)(b:c<48\/57<c):c∉z.cps.toList:=λa=>by have:=(hZ h).1 c a;omega
def xk{p:Vn}(h:bH p=Vo w)(ok:w.Ok m):58∉p.cps.toList:=λf=>by
 have c:=StrLaws.join_split p (" ":Vn);unfold bH at h;split at h
 .rename_i e a d b s hs;rw[hs]at c;split at h
  .rename_i hc;obtain⟨rfl,ha,hb⟩:=hc;cases h;have c:Str.join ⟨#[32]⟩ [DR "",a,d,b,s]=p:=c;rw[<-c]at f;rcases mem_join f with h|⟨x,g,h⟩
   .omega
   .simp only[Dw,DN,or_false]at g;rcases g with rfl|rfl|rfl|rfl|rfl
    .cases h
    .exact tX ha (by omega) h
    .have:=xK ok.dd 58 h;omega
    .exact tX hb (by omega) h
    .have:=sign_sign ok.sg 58 h;omega
  .cases h
 .cases h
def zY{r:Vn}(h:cL r=Vo ws)(ok:∀w∈ws,w.Ok m):58∉r.cps.toList:=λb=>by
 unfold cL at h;split at h
 .rename_i e;rw[e]at b;cases b
 .have g:Str.join ⟨#[44]⟩ (Txt.split r ",")=r:=StrLaws.join_split r (⟨#[44]⟩:Vn);rw[<-g]at b;rcases mem_join b with h'|⟨p,a,h'⟩
  .omega
  .have key:∀{ps:List Vn} {ws:List Way},bK ps=Vo ws->p∈ps->∃w∈ws,bH p=Vo w:=by
    intro ps;induction ps with
    | nil=>intro ws _ a;cases a
    | cons q r i=>
     intro ws e a;unfold bK at e;cases c:bH q with
     | none=>rw[c]at e;cases e
     | some u=>
      cases d:bK r with
      | none=>rw[c,d]at e;cases e
      | some us=>
       rw[c,d]at e;cases e;rcases Dw.mp a with rfl|a
       .exact⟨u,Dn,c⟩
       .obtain⟨w,f,e⟩:=i d a;exact⟨w,Dk _ f,e⟩
   obtain⟨w,f,e⟩:=key h a;exact xk e (ok w f) h'
def nA(K:Dd):Sp:=λvs H Q _=>∃z:Vn,vs=[.str z]/\z.length<=1000/\(∀m ws,cO z m ws->∀v H',Ext H H'->bE H' v m ws->Q v H')/\((∀m ws,¬cO z m ws)->∀H',Ext H H'->Q .non H')
abbrev mD:Vl:=stq 57
def uL:FnScope ["_law_text","_law_at","_law_ways","_law_thing"] ["_law_text"] (aK mD):=⟨rfl,rfl,rfl,by decide +kernel,rfl,by decide +kernel,by decide +kernel⟩
def zL{P:Vd}{w:Ve}{K:Dd}{mg:Vn->Option Va}{base:Vh}(D:Dfn K mg "_law_house_of" mD ["_law_text"])(T:Blt mg)(d:Cal P w K mg base "_law_is_house" 2 ["_law_thing"] (mP K))(b:Cal P w K mg base "_law_number_of" 1 ["_law_word"] (jW K))(g:Cal P w K mg base "_law_way_of" 2 ["_law_piece"] (um K)):Cal P w K mg base "_law_house_of" 3 ["_law_text"] (nA K):=by
 have nd:=(uL).nd;refine D.ok uL (λvs H Q E h=>?_) (λX hX H vs Q E h=>?_)
 .obtain⟨z,rfl,_⟩:=h;rfl
 .obtain⟨f,cdv,A,outer,s,H0,E0,rfl,n⟩:=hX;obtain⟨z,rfl,hz,q,qn⟩:=h;refine⟨_,(ak (ay (i:=1) nd rfl (Or.inl rfl) (bo K PySem.F.plainAttrs_str PySem.F.slot_str_find PySem.F.type_str_find kY (pv 0) (ae ai af)))
    (ak (aT (aD cW (pv 1) ag (aA _)) (au (ax dn)) aO)
    (ak (ay (i:=2) nd rfl (Or.inl rfl) (aU af))
    (ak (dX (aD cn (bU di (pv 0) (bw (aj aM (pv 1) ag)) cx) ai (aA _)) (au (iJ (i:=2) ["_law_piece"] [] nd rfl (Or.inl rfl) (eZ K (bo K PySem.F.plainAttrs_str PySem.F.slot_str_split PySem.F.type_str_split eV (bU di (pv 0) (bw (aj aM (pv 1) ag)) cx) (ae ai af))) (λ_=>(aV (i:=0) (show(["_law_piece"]:List Vn).Nodup from by decide +kernel) rfl (Or.inl rfl) (Or.inr rfl))) (λ_=>cy) (λ_=>(aC g n (ae (pv 0) af))))) aO)
    (ak (ay (i:=3) nd rfl (Or.inl rfl) (bA (ae (aC b n (ae (bU di (pv 0) cx (bw (pv 1))) af)) (ae (bT (eX K) rfl T.tuple_ PyProof.Rows.boot_tuple (ae (pv 2) af)) af))))
    (ak (aT (bt (br (aC d n (ae (pv 3) af)))) (au (ax dn)) aO)
    (au (ax (pv 3))))))))),?_⟩
  walk_at"";refine⟨rfl,?_⟩;walk_at"";refine⟨_,_,rfl,rfl,?_⟩;rcases xo z 58 with⟨e0,a1⟩|⟨a,r,a2,ha,e0,s1,s2⟩
  .rw[show eu z (DR ":") = -1 from e0];walk_at"";refine ao ?_;walk_at"";refine qn (λm ws ⟨a,r,e,_⟩=>?_) H (Ext.rfl' _);have:Txt.split z ":" = [z]:=nW a1;rw[this]at e;cases e
  rw[show eu z (DR ":")=(a.length:Int)from e0];walk_at"";rw[Ee (show ¬((a.length:Nat):Int)<0 by omega)];refine av ?_;have B:Txt.split z ":" = a::Txt.split r ":":=by rw[a2];exact uu (c:=58) ha
  have a9:a.length<=z.length:=by
   have:=Txt.slice_le z Vp (Vo (a.length:Int))
   rwa [s1]at this
  have aa:r.length<=z.length:=by
   have:=Txt.slice_le z (Vo ((a.length:Int)+1)) Vp
   rwa [s2]at this
  walk_at"";refine aH λwl H1 e1 a3 _=>?_;walk_at"";refine fo (λJ H'=>Ext H H'/\∃l vs,J=[Vo (.str z),Vo (.int (a.length:Int)),Vo (.ref l),Vp]/\H' l=Vo (.lst vs)/\vs.length<=1002/\cD H' 2 vs ∧
   ((∃ws bs,cL r=Vo ws/\vs=bs.map V.ref/\aZ H' bs ws/\∀w∈ws,w.deed.length<=1000/\w.sign.length<=1000)\/(cL r=Vp/\∃v∈vs,∀m,bz H' m v=false))) ?_ ?_
  .walk_at"";refine⟨z,rfl,aI (by omega),?_⟩;rw[s2];walk_at"";refine il ?_;by_cases n:r = ""
   .rw[Ef n];refine rd_exb (av ?_);exact⟨e1,wl,[],rfl,a3,by simp,cD.nil _ _,.inl ⟨[],[],by unfold cL;rw[Eh n],rfl,aZ.nil _,λw L=>by cases L⟩⟩
   rw[Ee n];refine rd_exb (ao ?_);walk_at"";refine⟨z,rfl,aI (by omega),?_⟩;rw[s2];refine⟨rfl,?_⟩;walk_at"";refine fc rfl (by omega) (aP λl H2 e2 M _=>?_);have N:∀p∈Txt.split r ",",p.length<=r.length:=fm;have a4:(Txt.split r ",").length<=r.length+2:=gZ r 44;have O:cL r=bK (Txt.split r ","):=by unfold cL;rw[Eg n]
   generalize Txt.split r "," = ps at M N a4 O;refine ff (ah.of M) ?_;refine fM (xs:=ps.map V.str) (λi ys H'=>Ext H2 H'/\Paired (gj H') (ps.take i) ys) (aI (by rw[Dh];omega)) ⟨Ext.rfl' _,.nil⟩ (λi ys H' hi h=>⟨ah.of (h.1 _ _ M),?_⟩) ?_ ?_
   .rw[<-Paired.length h.2,Ea];exact Nat.min_le_left _ _
   .rintro i x ys H' R ⟨C,pr⟩;rw[Dj]at R;obtain⟨p,hp,rfl⟩:=Du.mp R;have hm:=Ds hp;walk_at"";refine ao ?_;walk_at"";refine⟨p,rfl,by have:=N p hm;omega,λv H3 y S=>⟨C.trans y,?_⟩⟩;rw[List.take_add_one,hp];exact Paired.snoc (Paired.mapP pr λ_ _ z=>z.ext y) S
   rintro ys H' p ⟨C,pr⟩ hp;rw[Dh,DK]at pr;have y:=bu (o:=.lst ys) hp;have pr:=Paired.mapP pr λ_ _ z=>z.ext y;have a5:ys.length<=1002:=by rw[<-Paired.length pr];omega
   walk_at"";refine⟨e1.trans (e2.trans (C.trans y)),p,ys,rfl,bg,a5,xB pr,?_⟩;rw[O];exact xa pr
  rintro J H2 ⟨e2,l,vs,rfl,M,ab,hth,a6⟩;walk_at"";refine⟨z,rfl,aI (by omega),?_⟩;rw[s1];walk_at"";refine⟨a,rfl,by omega,λH3 C=>?_⟩;walk_at"";refine eP (ah.of (C _ _ M)) (aP λt H4 y ht _=>?_);walk_at"";refine aH λu I e5 hu _=>?_;have G:=C.trans (y.trans e5);have U:=e5 _ _ ht;have W:=hth.ext G;have tt:bx I 3 (.ref t):=eE U (by omega) W;walk_at"";refine⟨_,rfl,eE hu (by simp) (.cons (ny _ _ _) (.cons tt (.nil _ _))),λH6 e6=>?_⟩;have eA:=e2.trans (G.trans e6);walk_at""
  refine' jG (P:=(∀m ws,cO z m ws->False)/\dG I (.ref u)=false\/∃ws,bE I (.ref u) (aJ a) ws/\aL a=true/\cL r=Vo ws) (λkey=>?_) ?_
  .rcases key with⟨k1,k2⟩|⟨ws,S,j,L⟩
   .rw[k2];refine ao ?_;walk_at"";exact qn k1 _ eA
   .cases hh:dG I (.ref u)with
    | true=>
     have ok:=qL S hh;refine av ?_;walk_at"";refine q (aJ a) ws ⟨a,r,?_,j,rfl,L,ok⟩ _ H6 eA (S.ext e6);have a7:Txt.split r ":" = [r]:=nW (zY L ok.ok);rw[B,a7]
    | false=>
     refine ao ?_;walk_at"";refine qn (λm a8 ⟨a',Y,e,_,em,k,ok⟩=>?_) _ eA;rw[B]at e;have h1:a'=a:=(List.cons.inj e).1.symm;have h2:Txt.split r ":" = [Y]:=(List.cons.inj e).2;have Z:Y=r:=by have:=StrLaws.join_split r (":":Vn);rw[h2]at this;exact this
     subst h1 Z;rw[L]at k;cases k;subst em;rw[(jT S ok).2]at hh;cases hh
  have no:∀m ws,cO z m ws->aL a=true/\cL r=Vo ws:=λm a8 ⟨a',Y,e,hn,em,k,ok⟩=>by
   rw[B]at e;have h1:a'=a:=(List.cons.inj e).1.symm;have h2:Txt.split r ":" = [Y]:=(List.cons.inj e).2;have Z:Y=r:=by have:=StrLaws.join_split r (":":Vn);rw[h2]at this;exact this
   subst h1 Z;exact⟨hn,k⟩
  rw[iN hu];by_cases j:aL a=true
  .rcases a6 with⟨ws,bs,h1,rfl,Z,_⟩|⟨h1,v,a0,h2⟩
   .refine .inr ⟨ws,bE.mk ?_ (((Z.ext (C.trans y)).ways ht).ext e5),j,h1⟩;rw[hu];unfold bp;rw[Eh j]
   .refine .inl ⟨λm ws h=>(by have:=(no m ws h).2;rw[h1]at this;cases this),?_⟩;unfold bp;rw[Eh j];show(decide (1<=aJ a) && (decide (aJ a<=12) && gC I (aJ a) (.ref t)))=false;rw[iO U];unfold dP;have:vs.all (bz I (aJ a))=false:=by rw[List.all_eq_false];exact⟨v,a0,by rw[o6 G (hth v a0),h2];exact Dy⟩
    rw[this];simp
  .refine .inl ⟨λm ws h=>j (no m ws h).1,lh ?_⟩;unfold bp;rw[Eg j];rfl
def bB(o:Nat):List Vn->List Nat
 | []=>[]
 | p::r=>if p=(":":Vn)then o::bB (o+1) r else bB (o+1) r
theorem pP(p:Vn):∀(l:List Vn) (o:Nat),bB o (l++[p])=bB o l++if p=(":":Vn)then[o+l.length]else[]
 | [],o=>by show(if p=(":":Vn)then o::bB (o+1) []else bB (o+1) [])=_;split<;>rfl
 | q::r,o=>by show(if q=(":":Vn)then o::bB (o+1) (r++[p])else bB (o+1) (r++[p]))=(if q=(":":Vn)then o::bB (o+1) r else bB (o+1) r)++_;rw[pP p r,DJ,show o+1+r.length=o+(r.length+1) by omega];split<;>rfl
theorem jy:∀(l:List Vn) (o:Nat),(bB o l).length=l.count (":":Vn)
 | [],o=>rfl
 | q::r,o=>by
  show(if q=(":":Vn)then o::bB (o+1) r else bB (o+1) r).length=_;by_cases h:q=(":":Vn)
  .rw[Eh h,h,List.count_cons_self,DJ,jy r]
  .rw[Eg h,List.count_cons_of_ne h,jy r]
theorem kO:∀{A:List Vn} {o:Nat} (B:List Vn),(":":Vn)∉A->bB o (A++B)=bB (o+A.length) B
 | [],o,B,_=>rfl
 | q::r,o,B,h=>by show(if q=(":":Vn)then o::bB (o+1) (r++B)else bB (o+1) (r++B))=_;rw[Eg λe=>h (by rw[e];simp),kO B λz=>h (Dk _ z),DJ,show o+1+r.length=o+(r.length+1) by omega]
def qi(o:Nat)(B:List Vn):bB o ((":":Vn)::B)=o::bB (o+1) B:=by show(if(":":Vn)=(":":Vn)then o::bB (o+1) B else bB (o+1) B)=_;rw[Eh rfl]
def pQ(H:Hp)(z:Vn):Kd H (bp z):=by
 unfold bp;split
 .exact⟨"int",rfl⟩
 .exact⟨"NoneType",rfl⟩
def lO(h:isInt (bp z)=true):aL z=true:=by
 unfold bp at h;split at h
 .assumption
 .cases h
theorem mL{lo hi:Int}:∀{C:List Vn} {lo:Int},cQ lo hi (C.map bp)=true->cu C=true
 | [],_,_=>rfl
 | z::r,lo,h=>by
  cases a:isInt (bp z)with
  | false=>
   rw[List.map_cons,oK a]at h;cases h
  | true=>
   have b:=lO a;have e:bp z=.int (aJ z):=by unfold bp;rw[Eh b]
   rw[List.map_cons,e]at h;have h:(decide (lo<=aJ z) && decide (aJ z<hi) && cQ (aJ z+1) hi (r.map bp))=true:=h;simp only[DQ]at h;show(aL z && cu r)=true;rw[b,mL (lo:=lo) h.2];rfl
def pq{C:List Vn}(h:cu C=true):C.map bp=(C.map aJ).map V.int:=by rw[List.map_map];refine List.map_congr_left λz a=>?_;have:=DO.mp h z a;unfold bp;rw[Eh this];rfl
def oZ(K:Dd):Sp:=λvs H Q _=>∃z:Vn,vs=[.str z]/\z.length<=1000/\(∀b s o a,cR z b s o a->∀v H',Ext H H'->bX H' v b s o a->Q v H')/\((∀b s o a,¬cR z b s o a)->∀H',Ext H H'->Q .non H')
abbrev oj:Vl:=stq 58
def uv:FnScope ["_law_text","_law_words","_law_spots","_law_once","_law_again","_law_thing"] ["_law_text"] (aK oj):=⟨rfl,rfl,rfl,by decide +kernel,rfl,by decide +kernel,by decide +kernel⟩
def yY{P:Vd}{w:Ve}{K:Dd}{mg:Vn->Option Va}{base:Vh}(D:Dfn K mg "_law_stair_of" oj ["_law_text"])(T:Blt mg)(d:Cal P w K mg base "_law_is_stair" 3 ["_law_found"] (mi K))(c:Cal P w K mg base "_law_number_of" 1 ["_law_word"] (jW K)):Cal P w K mg base "_law_stair_of" 4 ["_law_text"] (oZ K):=by
 have nd:=(uv).nd;refine D.ok uv (λvs H Q E h=>?_) (λX hX H vs Q E h=>?_)
 .obtain⟨z,rfl,_⟩:=h;rfl
 .obtain⟨f,cdv,A,outer,s,H0,E0,rfl,hr⟩:=hX;obtain⟨z,rfl,hz,q,qn⟩:=h;refine⟨_,(ak (ay (i:=1) nd rfl (Or.inr rfl) (bo K PySem.F.plainAttrs_str PySem.F.slot_str_split PySem.F.type_str_split eV (pv 0) (ae ai af)))
    (ak (iJ (i:=2) ["_law_k"] [1] nd rfl (Or.inl rfl) (eB rfl T.range_ (ae (aF (cc K) rfl T.len_ PySem.boot_len (ae (pv 1) af)) af)) (λ_=>(aV (i:=0) (show(["_law_k","_law_words"]:List Vn).Nodup from by decide +kernel) rfl (Or.inl rfl) (Or.inr rfl))) (λ_=>(kP (aD b6 (aq (aB K) (pv 1) (pv 0) (λ_ _=>rfl)) ai (aA _)))) (λ_=>(pv 0)))
    (ak (aT (PW.pt (bj (aD cn (aF (cc K) rfl T.len_ PySem.boot_len (ae (pv 2) af)) ag (aA _)) (bQ (aD cn (aq (aB K) (pv 2) ag (λ_ _=>rfl)) ag (aA _))))) (au (ax dn)) aO)
    (ak (ay (i:=3) nd rfl (Or.inl rfl) (bT (eX K) rfl T.tuple_ PyProof.Rows.boot_tuple (ae (dm ["_law_word"] [] (eZ K (bU (eQ K) (pv 1) (bw ag) (bw (aq (aB K) (pv 2) ag (λ_ _=>rfl))))) (λ_=>(aV (i:=0) (show(["_law_word"]:List Vn).Nodup from by decide +kernel) rfl (Or.inl rfl) (Or.inr rfl))) (λ_=>cy) (λ_=>(aC c hr (ae (pv 0) af)))) af)))
    (ak (ay (i:=4) nd rfl (Or.inl rfl) (bT (eX K) rfl T.tuple_ PyProof.Rows.boot_tuple (ae (dm ["_law_word"] [] (eZ K (bU (eQ K) (pv 1) (bw (aj aM (aq (aB K) (pv 2) ag (λ_ _=>rfl)) ag)) cx)) (λ_=>(aV (i:=0) (show(["_law_word"]:List Vn).Nodup from by decide +kernel) rfl (Or.inl rfl) (Or.inr rfl))) (λ_=>cy) (λ_=>(aC c hr (ae (pv 0) af)))) af)))
    (ak (ay (i:=5) nd rfl (Or.inl rfl) (bA (ae (aC c hr (ae (aq (aB K) (pv 1) ag (λ_ _=>rfl)) af)) (ae (aC c hr (ae (aq (aB K) (pv 1) ag (λ_ _=>rfl)) af)) (ae (pv 3) (ae (pv 4) af))))))
    (ak (aT (bt (br (aC d hr (ae (pv 5) af)))) (au (ax dn)) aO)
    (au (ax (pv 5)))))))))),?_⟩
  walk_at"";refine⟨rfl,?_⟩;walk_at"";refine fc rfl (by omega) (aP λl H1 e1 Y _=>?_);have B:∀p∈Txt.split z " ",p.length<=z.length:=fm;have a3:(Txt.split z " ").length<=z.length+2:=gZ z 32;generalize N:Txt.split z " " = ps at Y B a3;walk_at"";refine eh (ah.of Y) ?_;walk_at"";rw[Dh];refine er (by omega) ?_;refine nE (λi ys H'=>H'=H1/\ys=(bB 0 (ps.take i)).map λk:Nat=>V.int (k:Int)) (aI (by omega)) ⟨rfl,rfl⟩ (λi ys H' hi h=>?_) ?_ ?_
  .rw[h.2,Dh,jy];exact DM List.count_le_length (by rw[Ea];exact Nat.min_le_left _ _)
  .rintro i ys H' hi ⟨rfl,rfl⟩;have hi:i<ps.length:=by omega
   have Z:=Di hi;walk_at"";refine az (ah.of Y) (v:=.str ps[i]) (by rw[Int.zero_add];exact ck (by rw[Dj,Z];rfl)) ?_;walk_at"";refine jw ?_;walk_at"";rw[List.take_add_one,Z];show if decide (ps[i]=DR ":")=true then _ else _;have G:=pP ps[i] (ps.take i) 0;rw[Ea,Nat.min_eq_left (Nat.le_of_lt hi),Nat.zero_add]at G;have a9:(Vo ps[i]).toList=[ps[i]]:=rfl;rw[a9,G];by_cases hc:ps[i]=(":":Vn)
   .rw[Ef hc,Eh hc];refine ao ?_;walk_at"";refine⟨rfl,?_⟩;rw[Dz,Int.zero_add];rfl
   .rw[Ee hc,Eg hc];refine av ?_;exact⟨rfl,by rw[List.append_nil]⟩
  rintro ys H' sl ⟨rfl,rfl⟩ G;rw[show List.take (((ps.length:Nat):Int)).toNat ps=ps from List.take_of_length_le (by omega)];have O:=bu (o:=.lst ((bB 0 ps).map λk:Nat=>V.int (k:Int))) G;have y:upd H' sl (.lst ((bB 0 ps).map λk:Nat=>V.int (k:Int))) sl=_:=bg;generalize upd H' sl (.lst ((bB 0 ps).map λk:Nat=>V.int (k:Int)))=H1 at O y ⊢;have Y:=O _ _ Y;have e1:=e1.trans O;clear O G;have aa:=jy ps 0;walk_at"";refine eh (ah.of y) ?_;walk_at"";rw[Dh];by_cases h2:ps.count (":":Vn)=2
  rotate_left
  .rw[Ee (show ¬(((bB 0 ps).length:Nat):Int)=2 by omega)];refine ao (ao ?_);walk_at"";refine qn (λb s o a ⟨w0,g,xs,ys,e,n,_⟩=>h2 ?_) _ e1;rw[<-N,e];rw[List.count_cons_of_ne (fk n.1),List.count_cons_of_ne (fk n.2.1),List.count_cons_self,List.count_append,List.count_cons_self,List.count_eq_zero.mpr (ig n.2.2.1),List.count_eq_zero.mpr (ig n.2.2.2)]
  rw[Ef (show(((bB 0 ps).length:Nat):Int)=2 by omega)];refine av ?_;obtain⟨A,C,D,rfl,hA,hC,hD⟩:=qH h2;clear h2 aa;have a0:bB 0 (A++(":":Vn)::(C++(":":Vn)::D))=[A.length,A.length+1+C.length]:=by
   rw[kO _ hA,qi,kO _ hC,qi,Nat.zero_add];have:bB (A.length+1+C.length+1) D=[]:=by have:=kO (A:=D) (o:=A.length+1+C.length+1) [] hD;rw[List.append_nil]at this;rw[this];rfl
   rw[this]
  rw[a0]at y;walk_at"";refine az (ah.of y) (v:=.int (A.length:Int)) rfl ?_;walk_at"";by_cases a2:A.length=2
  rotate_left
  .rw[Ee (show ¬((A.length:Nat):Int)=2 by omega)];refine ao ?_;walk_at"";refine qn (λb s o a ⟨w0,g,xs,ys,e,n,_⟩=>a2 ?_) _ e1;rw[N]at e;have:=(oG (xs':=[w0,g]) hA (by simp[Ne.symm (fk n.1),Ne.symm (fk n.2.1)]) e).1;rw[this];rfl
  rw[Ef (show((A.length:Nat):Int)=2 by omega)];refine av ?_;obtain⟨w0,g,rfl⟩:∃w0 g,A=[w0,g]:=by
   match A,a2 with
   | [a,b],_=>exact⟨a,b,rfl⟩
  clear a2 a0 hA;have ab:¬((aL w0=true/\aL g=true/\cu C=true/\cu D=true)/\Ok (aJ w0) (aJ g) (C.map aJ) (D.map aJ))->∀H',Ext H H'->Q .non H':=λn=>qn λb s o a h=>by obtain⟨m,rfl,rfl,rfl,rfl,ok⟩:=o5 N hC h;exact n ⟨m,ok⟩
  clear qn;have hlen:(List.map V.str ([w0,g]++(":":Vn)::(C++(":":Vn)::D))).length=C.length+D.length+4:=by simp only[Dh,DA,DJ,List.length_nil];omega
  have a4:C.length<=z.length+2/\D.length<=z.length+2:=by simp only[DA,DJ,List.length_nil]at a3;omega
  walk_at"";refine az (ah.of y) (v:=.int ((C.length+3:Nat):Int)) (by show some (V.int (((2+1+C.length:Nat)):Int))=_;rw[show 2+1+C.length=C.length+3 by omega]) ?_;walk_at"";refine fu (ah.of Y) (aP λl2 H2 O R _=>?_);have c1:bG (List.map V.str ([w0,g]++(":":Vn)::(C++(":":Vn)::D))) (some 3) (some ((C.length+3:Nat):Int))=C.map V.str:=by refine(kM (a:=3) (b:=C.length+3) (by omega) (by omega)).trans ?_;rw[<-List.map_drop,<-List.map_take,Nat.add_sub_cancel];show List.map V.str ((C++(":":Vn)::D).take C.length)=_;rw[List.take_left]
  rw[c1]at R;refine ff (ah.of R) ?_;refine fM (xs:=C.map V.str) (λi ys H'=>Ext H2 H'/\ys=(C.take i).map bp) (aI (by rw[Dh];omega)) ⟨Ext.rfl' _,rfl⟩ (λi ys H' hi h=>⟨ah.of (h.1 _ _ R),?_⟩) ?_ ?_
  .rw[h.2,Dh,Ea];exact Nat.min_le_left _ _
  .rintro i x ys H' M ⟨e3,rfl⟩;rw[Dj]at M;obtain⟨p,Z,rfl⟩:=Du.mp M;have hm:=Ds Z;walk_at"";refine ao ?_;walk_at"";refine⟨p,rfl,by have:=B p (by simp[hm]);omega,λH3 e4=>⟨e3.trans e4,?_⟩⟩;rw[List.take_add_one,Z,Dz];rfl
  rintro ys H' r1 ⟨e3,rfl⟩ a5;rw[Dh,DK];have e4:=bu (o:=.lst (C.map bp)) a5;walk_at"";refine eP (ah.of bg) (aP λt1 H3 e5 I _=>?_);have a6:=e1.trans (O.trans (e3.trans (e4.trans e5)));have S:=(O.trans (e3.trans (e4.trans e5))) _ _ Y;have a1:=(O.trans (e3.trans (e4.trans e5))) _ _ y;clear O e3 e4 e5 Y y a5 R;walk_at"";refine az (ah.of a1) (v:=.int ((C.length+3:Nat):Int)) (by show some (V.int (((2+1+C.length:Nat)):Int))=_;rw[show 2+1+C.length=C.length+3 by omega]) ?_;walk_at"";refine fu (ah.of S) (aP λl3 H4 e6 U _=>?_);have c2:bG (List.map V.str ([w0,g]++(":":Vn)::(C++(":":Vn)::D))) (some (((C.length+3:Nat):Int)+1)) none=D.map V.str:=by refine(tH _ (C.length+4)).trans ?_;rw[<-List.map_drop];show List.map V.str ((C++(":":Vn)::D).drop (C.length+1))=_;rw[<-List.drop_drop,List.drop_left];rfl
  rw[c2]at U;refine ff (ah.of U) ?_;refine fM (xs:=D.map V.str) (λi ys H'=>Ext H4 H'/\ys=(D.take i).map bp) (aI (by rw[Dh];omega)) ⟨Ext.rfl' _,rfl⟩ (λi ys H' hi h=>⟨ah.of (h.1 _ _ U),?_⟩) ?_ ?_
  .rw[h.2,Dh,Ea];exact Nat.min_le_left _ _
  .rintro i x ys H' M ⟨e3,rfl⟩;rw[Dj]at M;obtain⟨p,Z,rfl⟩:=Du.mp M;have hm:=Ds Z;walk_at"";refine ao ?_;walk_at"";refine⟨p,rfl,by have:=B p (by simp[hm]);omega,λH3 e4=>⟨e3.trans e4,?_⟩⟩;rw[List.take_add_one,Z,Dz];rfl
  rintro ys H' r2 ⟨e7,rfl⟩ a7;rw[Dh,DK];have e8:=bu (o:=.lst (D.map bp)) a7;walk_at"";refine eP (ah.of bg) (aP λt2 H5 e9 J _=>?_);have L:=e6.trans (e7.trans (e8.trans e9));walk_at"";refine az (ah.of (L _ _ S)) (v:=.str w0) (ck (j:=0) rfl) ?_;walk_at"";refine⟨w0,rfl,by have:=B w0 (by simp);omega,λH6 f6=>?_⟩;walk_at"";refine az (ah.of (f6 _ _ (L _ _ S))) (v:=.str g) (ck (j:=1) rfl) ?_;walk_at"";refine⟨g,rfl,by have:=B g (by simp);omega,λH7 f7=>?_⟩;walk_at"";refine aH λu H8 f8 hu _=>?_;have W:=(f6.trans f7).trans f8;have I:=(L.trans W) _ _ I;have J:=W _ _ J;have eA:=a6.trans (L.trans W);clear f6 f7 f8 W L a6 e6 e7 e8 e9 S a1 U a7;have a8:∀{zs:List Vn} {t:Vb},zs.length<=z.length+2->H8 t=Vo (.tup (zs.map bp))->Rw H8 (.ref t):=λ{zs t} ac ht=>by refine⟨⟨"tuple",.inr ⟨rfl,_,ht⟩⟩,λp xs e h=>?_⟩;cases e;rw[ht]at h;cases h;refine⟨by rw[Dh];omega,λx M=>?_⟩;obtain⟨w,_,rfl⟩:=List.mem_map.mp M;exact pQ _ _
  have nr:∀w:Vn,Rw H8 (bp w):=λw=>⟨pQ _ _,λp xs e _=>by unfold bp at e;split at e<;>cases e⟩
  walk_at"";refine⟨_,rfl,⟨⟨"tuple",.inr ⟨rfl,_,hu⟩⟩,λp xs e h=>?_⟩,λH9 f9=>?_⟩
  .cases e;rw[hu]at h;cases h;intro x M;simp only[Dw,DN,or_false]at M;rcases M with rfl|rfl|rfl|rfl
   .exact nr w0
   .exact nr g
   .exact a8 a4.1 I
   .exact a8 a4.2 J
  walk_at"";have yes:cX H8 (.ref u)=true->aL w0=true/\aL g=true/\cu C=true/\cu D=true:=λr=>by
   rw[jd hu]at r;cases i0:isInt (bp w0)with
   | false=>rw[oI i0]at r;cases r
   | true=>
    cases i1:isInt (bp g)with
    | false=>rw[lV i1]at r;cases r
    | true=>
     have n0:=lO i0;have n1:=lO i1;have g0:bp w0=.int (aJ w0):=by unfold bp;rw[Eh n0]
     have g1:bp g=.int (aJ g):=by unfold bp;rw[Eh n1]
     rw[g0,g1]at r;have r:(decide (0<=aJ w0) && decide (1<=aJ g) && bW H8 0 (aJ w0) (.ref t1) && bW H8 (aJ w0) (aJ w0+aJ g) (.ref t2))=true:=r;rw[eD I,eD J]at r;simp only[DQ]at r;exact⟨n0,n1,mL (lo:=0) r.1.2,mL (lo:=0) r.2⟩
  have at_:aL w0=true/\aL g=true/\cu C=true/\cu D=true->bX H8 (.ref u) (aJ w0) (aJ g) (C.map aJ) (D.map aJ):=λ⟨n0,n1,rC,rD⟩=>by refine⟨u,t1,t2,rfl,?_,by rw[I,pq rC],by rw[J,pq rD]⟩;rw[hu];unfold bp;rw[Eh n0,Eh n1]
  cases r:cX H8 (.ref u)with
  | true=>
   refine av ?_;walk_at"";have n:=yes r;have hv:=at_ n;exact q _ _ _ _ ⟨w0,g,C,D,N,n,rfl,rfl,rfl,rfl,hv.is r⟩ _ _ (eA.trans f9) (hv.ext f9)
  | false=>
   refine ao ?_;walk_at"";exact ab (λn=>by rw[(at_ n.1).yes n.2]at r;cases r) _ (eA.trans f9)
local macro_rules|`(tactic| walk_at "ra") => do
 let ts <- ("seq asg c name tup cons nil".splitOn " ").toArray.mapM λn =>
  let i := Lean.mkIdent (.mkSimple ("rd_" ++ n))
  `(tacticSeq| with_reducible refine $i ?_)
 `(tactic| repeat (first $[| $ts]*|dsimp only))
def Cy(z:Vn)(H:Hp)(Q:VK):Prop:=(∀m ws,cO z m ws->∀t v H',Ext H H'->H' t=Vo (.tup [.str "told",v])->bE H' v m ws->Q (.ref t) H')/\((∀m ws,¬cO z m ws)->∀t H',Ext H H'->H' t=Vo (.tup [.str "refused",.bl true])->Q (.ref t) H')
def yZ(z:Vn)(H:Hp)(Q:VK):Prop:=(∀b s o a,cR z b s o a->∀t v H',Ext H H'->H' t=Vo (.tup [.str "told",v])->bX H' v b s o a->Q (.ref t) H')/\((∀b s o a,¬cR z b s o a)->∀t H',Ext H H'->H' t=Vo (.tup [.str "refused",.bl true])->Q (.ref t) H')
def kU(K:Dd):Sp:=λvs H Q _=>∃(i:Int) (z:Vn),vs=[.int i,.str z]/\z.length<=1000/\((i=0/\Cy z H Q)\/(i=1/\yZ z H Q))
abbrev mG:Vl:=stq 59
def pK:FnScope ["_law_way","_law_text","_law_found","e","_law_others"] ["_law_way","_law_text"] (aK mG):=⟨rfl,rfl,rfl,by decide +kernel,rfl,by decide +kernel,by decide +kernel⟩
def zP{P:Vd}{w:Ve}{K:Dd}{mg:Vn->Option Va}{base:Vh}(D:Dfn K mg "_law_read" mG ["_law_way","_law_text"])(T:Blt mg)(g:Xf K mg base fR gh)(j:mZ K "NoText" = true)(c:CalX P w K mg base "read_stair" 5 ["text"] (om K))(d:CalX P w K mg base "read_house" 6 ["text"] (nV K)):Cal P w K mg base "_law_read" 7 ["_law_way","_law_text"] (kU K):=by
 have nd:=(pK).nd;refine D.ok pK (λvs H Q E h=>?_) (λX hX H vs Q E h=>?_)
 .obtain⟨i,z,rfl,_⟩:=h;rfl
 .obtain⟨f,cdv,A,outer,s,H0,E0,rfl,S⟩:=hX;obtain⟨i,z,rfl,U,Y⟩:=h;refine⟨_,(ak (ay (i:=2) nd rfl (Or.inl rfl) (bA (ae ai (ae dn af))))
    (ak (B3 (i:=3) rfl rfl nd rfl rfl rfl (g.cl "NoText" (by decide +kernel)) rfl (by decide) (kl (ue (aD b6 (pv 0) ag (aA _)) (kl (ro (i:=2) d S nd rfl (Or.inl rfl) (ae (pv 1) af)) iV) iV) (kl (ue (aD b6 (pv 0) ag (aA _)) (kl (ro (i:=2) c S nd rfl (Or.inl rfl) (ae (pv 1) af)) iV) iV) iV)) (λx oe I da J L a0 a1=>(ak (ay (i:=4) nd rfl (Or.inl rfl) (aF (oh J L) rfl T.isinstance_ PyProof.Rows.boot_isinstance (ae (pv 3) (ae (bA (ae (cP (v:=.ref (cA K "Endless")) rfl (g.cl "Endless" (by decide +kernel)) rfl) (ae (cP (v:=.ref (cA K "NoDeed")) rfl (g.cl "NoDeed" (by decide +kernel)) rfl) (ae (cP (v:=.ref (cA K "NoHouse")) rfl (g.cl "NoHouse" (by decide +kernel)) rfl) (ae (cP (v:=.ref (cA K "NoLine")) rfl (g.cl "NoLine" (by decide +kernel)) rfl) (ae (cP (v:=.ref (cA K "NoPlace")) rfl (g.cl "NoPlace" (by decide +kernel)) rfl) (ae (cP (v:=.ref (cA K "NoStair")) rfl (g.cl "NoStair" (by decide +kernel)) rfl) (ae (cP (v:=.ref (cA K "NotBare")) rfl (g.cl "NotBare" (by decide +kernel)) rfl) (ae (cP (v:=.ref (cA K "NoWalk")) rfl (g.cl "NoWalk" (by decide +kernel)) rfl) (ae (cP (v:=.ref (cA K "NoWay")) rfl (g.cl "NoWay" (by decide +kernel)) rfl) (ae (cP (v:=.ref (cA K "TooGreat")) rfl (g.cl "TooGreat" (by decide +kernel)) rfl) af))))))))))) af))))
    (au (ay (i:=2) nd rfl (Or.inl rfl) (bA (ae ai (ae (cM (aF (oh J L) rfl T.isinstance_ PyProof.Rows.boot_isinstance (ae (pv 3) (ae (cP (v:=.ref (cA K "StairError")) rfl (g.cl "StairError" (by decide +kernel)) rfl) af))) (cM (aF (oh J L) rfl T.isinstance_ PyProof.Rows.boot_isinstance (ae (pv 3) (ae (cq (v:=.ty "ValueError") rfl T.ValueError_ PyProof.Rows.Boot.«ValueError» rfl) af))) (dg (oY (pv 4))))) af))))))))
    (au (ax (pv 2))))),?_⟩
  walk_at "ra";refine aH λt0 H0 G a2 _=>?_;walk_at "ra";refine Ci (λI u H1=>Ext H H1/\I=cA K "NoText"/\u=[Vo (.int i),Vo (.str z),Vo (.ref t0),Vp,Vp]/\((i=0/\∀m ws,¬cO z m ws)\/(i=1/\∀b s o a,¬cR z b s o a))) (λE9 Z=>?_) ?_
  .walk_at"";rcases Y with⟨rfl,q,B⟩|⟨rfl,q,B⟩
   .rw[Ef rfl];refine ao ?_;walk_at"";refine⟨z,rfl,U,λm ws M v H1 k N=>?_,λl H1 k=>Z _ _ _ ⟨G.trans k,rfl,rfl,.inl ⟨rfl,l⟩⟩⟩;refine aP λt H2 n r _=>?_;walk_at"";refine av ?_;walk_at"";exact q m ws M t v H2 (G.trans (k.trans n)) r (N.ext n)
   .rw[Ee (by decide)];refine av ?_;walk_at"";refine ao ?_;walk_at"";refine⟨z,rfl,U,λb s o a M v H1 k N=>?_,λl H1 k=>Z _ _ _ ⟨G.trans k,rfl,rfl,.inr ⟨rfl,l⟩⟩⟩;refine aP λt H2 n r _=>?_;walk_at"";exact q b s o a M t v H2 (G.trans (k.trans n)) r (N.ext n)
  .rintro u I H1 ⟨k,rfl,rfl,F⟩;have p:=j;unfold mZ at p;rw[DQ]at p;refine⟨eq_of_beq p.1,g.exk "NoText" (by decide +kernel),λx hx=>?_⟩;walk_at"";refine aH λta H2 n O _=>?_;walk_at"";have ko:∀C∈(["Endless","NoDeed","NoHouse","NoLine","NoPlace","NoStair","NotBare","NoWalk","NoWay","TooGreat"]:List Vn).map (cA K),PySem.W.kitOne K (.ref (cA K "NoText")) (.ref C)=Vo false:=λC hC=>by
    obtain⟨y,hy,rfl⟩:=List.mem_map.mp hC;have h:∀y∈(["Endless","NoDeed","NoHouse","NoLine","NoPlace","NoStair","NotBare","NoWalk","NoWay","TooGreat"]:List Vn),y∈fR/\((("NoText":Vn) == y) || (y == ("StairError":Vn)))=false:=by decide +kernel
    rw[g.kc "NoText" (by decide +kernel) y (h y hy).1,(h y hy).2]
   refine yH (Cs:=(["Endless","NoDeed","NoHouse","NoLine","NoPlace","NoStair","NotBare","NoWalk","NoWay","TooGreat"]:List Vn).map (cA K)) O (qX ko) ?_;walk_at"";have R:PySem.W.kitOne K (.ref (cA K "NoText")) (.ref (cA K "StairError"))=Vo true:=(g.kc "NoText" (by decide +kernel) "StairError" (by decide +kernel)).trans (by decide +kernel);refine Ce R ?_;walk_at"";refine ao ?_;walk_at"";refine AV (g.kv "NoText" (by decide +kernel)) ?_;walk_at"";refine ao ?_;walk_at"";refine aH λt H3 e3 r _=>?_;walk_at"";have e:=k.trans (n.trans e3);rcases Y with⟨rfl,q,B⟩|⟨rfl,q,B⟩
   .rcases F with⟨_,l⟩|⟨h,_⟩
    .exact B l t H3 e r
    .exact absurd h (by decide)
   .rcases F with⟨h,_⟩|⟨_,l⟩
    .exact absurd h (by decide)
    .exact B l t H3 e r
def cO.uniq{f:Int}{b:List Way}(h:cO z m ws)(h':cO z f b):m=f/\ws=b:=by obtain⟨a,r,e,_,em,i,_⟩:=h;obtain⟨j,k,g,_,d,c,_⟩:=h';rw[e]at g;cases g;rw[i]at c;cases c;exact⟨em.trans d.symm,rfl⟩
def cR.uniq{b c s':Int}{o' d:List Int}(h:cR z b s o a)(h':cR z c s' o' d):b=c/\s=s'/\o=o'/\a=d:=by obtain⟨w0,f,xs,ys,e,n,rfl,rfl,rfl,rfl,_⟩:=h;obtain⟨_,rfl,rfl,rfl,rfl,_⟩:=o5 e (ig n.2.2.1) h';exact⟨rfl,rfl,rfl,rfl⟩
abbrev hD(m:Int)(ws:List Way):PyData:=.tuple [.int m,.tuple (ws.map Way.D)]
def bE.rep(h:bE H v m ws)(ok:HOuse m ws):bf H 3 v (hD m ws):=by obtain⟨p,q,rfl,h1,h2⟩:=h;obtain⟨bs,a,al⟩:=cE.al h2;exact .inr ⟨p,_,_,rfl,.inl ⟨h1,rfl⟩,.cons (.inl rfl) (.cons (.inr ⟨q,_,_,rfl,.inl ⟨a,rfl⟩,al.reps λu b=>(ok.ok u b).lay⟩) .nil)⟩
theorem rT:∀ws:List Way,PyData.eqvAll (ws.map Way.D) (ws.map Way.D)=true
 | []=>rfl
 | w::ws=>by show(PyData.eqv w.D w.D && PyData.eqvAll (ws.map Way.D) (ws.map Way.D))=true;rw[Way.eqv,rT ws,Ef rfl];rfl
def w8(m:Int)(ws:List Way):PyData.eqv (hD m ws) (hD m ws)=true:=by show((m == m) && ((PyData.eqvAll (ws.map Way.D) (ws.map Way.D)) && true))=true;rw[rT];simp
theorem r6{α:Type}{R:V->PyData->Prop}{g:α->V}{k:α->PyData}(h:∀x,R (g x) (k x)):∀l:List α,Paired R (l.map g) (l.map k)
 | []=>.nil
 | x::l=>.cons (h x) (r6 h l)
def dS(b s:Int)(o a:List Int):PyData:=.tuple [.int b,.int s,.tuple (o.map PyData.int),.tuple (a.map PyData.int)]
def sP{q:Vb}{xs:List Int}(h:H q=Vo (.tup (xs.map V.int))):bf H 1 (.ref q) (.tuple (xs.map PyData.int)):=
 .inr ⟨q,_,_,rfl,.inl ⟨h,rfl⟩,r6 (λi=>(rfl:i=i)) _⟩
def bX.rep{b:Int}(h:bX H v b s o a):bf H 2 v (dS b s o a):=by obtain⟨p,q,r,rfl,h1,h2,c⟩:=h;exact .inr ⟨p,_,_,rfl,.inl ⟨h1,rfl⟩,.cons (.inl (rfl:b=b)) (.cons (.inl (rfl:s=s)) (.cons (sP h2) (.cons (sP c) .nil)))⟩
theorem bX.eqv{H:Hp}{v:V}{b s:Int}{o a:List Int}(h:bX H v b s o a):PyData.eqv (dS b s o a) (dS b s o a)=true:=SeqAt.eqv_refl _ (bf.lay 2 h.rep).1
def iK(z:Vn)(H:Hp)(v:V):Prop:=(∃m ws,cO z m ws/\bE H v m ws)\/((∀m ws,¬cO z m ws)/\v=.non)
def iY(z:Vn)(H:Hp)(v:V):Prop:=(∃b s o a,cR z b s o a/\bX H v b s o a)\/((∀b s o a,¬cR z b s o a)/\v=.non)
theorem iK.ext{z:Vn}{H H':Hp}{v:V}(e:Ext H H')(h:iK z H v):iK z H' v:=by
 rcases h with⟨m,ws,h1,h2⟩|h
 .exact .inl ⟨m,ws,h1,h2.ext e⟩
 .exact .inr h
theorem iY.ext{z:Vn}{H H':Hp}{v:V}(e:Ext H H')(h:iY z H v):iY z H' v:=by
 rcases h with⟨b,s,o,a,h1,h2⟩|h
 .exact .inl ⟨b,s,o,a,h1,h2.ext e⟩
 .exact .inr h
def BH{K:Dd}{E:XK}(b:z.length<=1000)(k:∀v H1,Ext H H1->iK z H1 v->Q v H1):nA K [.str z] H Q E:=
 ⟨z,rfl,b,λm ws c v H1 a d=>k v H1 a (.inl ⟨m,ws,c,d⟩),λe H1 a=>k .non H1 a (.inr ⟨e,rfl⟩)⟩
def yS{K:Dd}{E:XK}(d:z.length<=1000)(k:∀v H1,Ext H H1->iY z H1 v->Q v H1):oZ K [.str z] H Q E:=
 ⟨z,rfl,d,λb s o a e v H1 c f=>k v H1 c (.inl ⟨b,s,o,a,e,f⟩),λg H1 c=>k .non H1 c (.inr ⟨g,rfl⟩)⟩
def zj(H:Hp)(v:V)(w:Vn)(x:V):Prop:=(v=.non/\w = "refused"/\x=.bl true)\/((∃p,v=.ref p)/\w = "told"/\∃n D,bf H n x D/\bf H n v D/\n<=3/\PyData.eqv D D=true)
def BD{K:Dd}{E:XK}{u vs:V}{i:Nat}(y:z.length<=1000)(A:iK z H u)(ds:iY z H vs)(d:[u,vs][i]?=Vo v)
  (k:∀t w x H1,Ext H H1->H1 t=Vo (.tup [.str w,x])->zj H1 v w x->Q (.ref t) H1):kU K [.int (0+((i:Nat):Int)),.str z] H Q E:=by
 have hi:i<2:=(Dr.mp d).1
 match i,hi,d with
 | 0,_,d=>
  cases d;refine⟨_,z,rfl,y,.inl ⟨rfl,λm ws j t x H1 e f n=>k t _ x H1 e f ?_,λg t H1 e f=>k t _ _ H1 e f (.inl ⟨?_,rfl,rfl⟩)⟩⟩
  .rcases A with⟨B,l,c,d⟩|⟨g,_⟩
   .obtain⟨rfl,rfl⟩:=j.uniq c;obtain⟨_,_,_,_,_,_,ok⟩:=j;have h:=d.ext e;have r:=h.rep ok;obtain⟨p,_,rfl,_⟩:=d;exact .inr ⟨⟨p,rfl⟩,rfl,3,_,n.rep ok,r,by decide,w8 _ _⟩
   .exact absurd j (g m ws)
  .rcases A with⟨B,l,c,_⟩|⟨_,rfl⟩
   .exact absurd c (g B l)
   .rfl
 | 1,_,d=>
  cases d;refine⟨_,z,rfl,y,.inr ⟨rfl,λb s o a j t x H1 e f n=>k t _ x H1 e f ?_,λg t H1 e f=>k t _ _ H1 e f (.inl ⟨?_,rfl,rfl⟩)⟩⟩
  .rcases ds with⟨C,s',o',F,c,d⟩|⟨g,_⟩
   .obtain⟨rfl,rfl,rfl,rfl⟩:=j.uniq c;have h:=d.ext e;have r:=h.rep;obtain⟨p,_,_,rfl,_⟩:=d;exact .inr ⟨⟨p,rfl⟩,rfl,2,_,n.rep,r,by decide,n.eqv⟩
   .exact absurd j (g b s o a)
  .rcases ds with⟨C,s',o',F,c,_⟩|⟨_,rfl⟩
   .exact absurd c (g C s' o' F)
   .rfl
def cR.len{b:Int}(h:cR z b s o a):o.length<=z.length+2/\a.length<=z.length+2:=by obtain⟨w0,c,xs,ys,e,_,_,_,rfl,rfl,_⟩:=h;have:=gZ z 32;have d:Txt.split z ⟨#[32]⟩=w0::c::(":":Vn)::(xs++(":":Vn)::ys):=e;rw[d]at this;simp only[DJ,DA,Dh]at this ⊢;omega
def bX.th{b:Int}(h:bX H v b s o a)(ol:o.length<=10000)(al:a.length<=10000):Th H v:=by
 obtain⟨p,q,r,rfl,h1,h2,j⟩:=h;have d:∀i:Int,Rw H (.int i):=λi=>⟨⟨"int",rfl⟩,λ_ _ e=>nomatch e⟩;have f:∀{t:Vb} {xs:List Int},xs.length<=10000->H t=Vo (.tup (xs.map V.int))->Rw H (.ref t):=λ{t xs} k g=>by refine⟨⟨"tuple",.inr ⟨rfl,_,g⟩⟩,λp ys e h=>?_⟩;cases e;rw[g]at h;cases h;refine⟨by rw[Dh];exact k,λx c=>?_⟩;obtain⟨i,_,rfl⟩:=List.mem_map.mp c;exact⟨"int",rfl⟩
 refine⟨⟨"tuple",.inr ⟨rfl,_,h1⟩⟩,λl xs e h x c=>?_⟩;cases e;rw[h1]at h;cases h;simp only[Dw,DN,or_false]at c;rcases c with rfl|rfl|rfl|rfl
 .exact d b
 .exact d s
 .exact f ol h2
 .exact f al j
def qk(K:Dd):Sp:=λvs H Q _=>∃z:Vn,vs=[.str z]/\z.length<=1000/\∀H',Ext H H'->Q (.bl true) H'
abbrev nP:Vl:=stq 60
def qP:FnScope ["_law_text","_law_dues","_law_way","_law_word","_law_found"] ["_law_text"] (aK nP):=⟨rfl,rfl,rfl,by decide +kernel,rfl,by decide +kernel,by decide +kernel⟩
def Ao{P:Vd}{w:Ve}{K:Dd}{mg:Vn->Option Va}{base:Vh}(D:Dfn K mg "_law_well_read" nP ["_law_text"])(T:Blt mg)(d:Cal P w K mg base "_law_is_stair" 3 ["_law_found"] (mi K))(c:Cal P w K mg base "_law_read" 7 ["_law_way","_law_text"] (kU K))(e:Cal P w K mg base "_law_is_house" 2 ["_law_thing"] (mP K))(g:Cal P w K mg base "_law_stair_of" 4 ["_law_text"] (oZ K))(k:Cal P w K mg base "_law_house_of" 3 ["_law_text"] (nA K)):Cal P w K mg base "_law_well_read" 8 ["_law_text"] (qk K):=by
 have nd:=(qP).nd;refine D.ok qP (λvs H Q E h=>?_) (λX hX H vs Q E h=>?_)
 .obtain⟨z,rfl,_⟩:=h;rfl
 .obtain⟨f,cdv,A,outer,s,H0,E0,rfl,F⟩:=hX;obtain⟨z,rfl,L,q⟩:=h;refine⟨_,(ak (ay (i:=1) nd rfl (Or.inl rfl) (aU (ae (aC k F (ae (pv 0) af)) (ae (aC g F (ae (pv 0) af)) af))))
    (ak (dO PassesOwn.never rfl (eB rfl T.range_ (ae ag af)) (aV (i:=2) nd rfl (Or.inl rfl)) (ak (nF (aC c F (ae (pv 2) (ae (pv 0) af))) (jE (n:=2) K rfl (cZ (aV (i:=3) nd rfl (Or.inl rfl)) (cZ (aV (i:=4) nd rfl (Or.inl rfl)) iL))))
    (ak (aT (PW.pt (ke (aD vj (aq (aB K) (pv 1) (pv 2) (λ_ _=>rfl)) dn (aA _)) (jY (PW.pt (bj (aD cn (pv 3) ai (aA _)) (bQ (aD Bo (pv 4) bJ (aA _)))))))) (au (ax bJ)) aO)
    (au (aT (PW.pt (ke (aD sd (aq (aB K) (pv 1) (pv 2) (λ_ _=>rfl)) dn (aA _)) (jY (PW.pt (bj (aD cn (pv 3) ai (aA _)) (bQ (aD (BN F) (pv 4) (aq (aB K) (pv 1) (pv 2) (λ_ _=>rfl)) (aA _)))))))) (au (ax bJ)) aO)))))
    (ak (aT (PW.pt (ke (aD sd (aq (aB K) (pv 1) ag (λ_ _=>rfl)) dn (aA _)) (jY (bt (br (aC e F (ae (aq (aW K) (aC c F (ae ag (ae (pv 0) af))) ag (λ_ _=>rfl)) af))))))) (au (ax bJ)) aO)
    (au (ax (vt (dD vj (aq (aB K) (pv 1) ag (λ_ _=>rfl)) dn (aA _)) (dg (aC d F (ae (aq (aW K) (aC c F (ae ag (ae (pv 0) af))) ag (λ_ _=>rfl)) af))))))))),?_⟩
  walk_at"";refine BH L λW H1 e1 I=>?_;walk_at"";refine yS L λvs H2 Y ds=>?_;walk_at"";refine aH λl H3 S M _=>?_;have I:=I.ext (Y.trans S);have ds:=ds.ext S;have U:=e1.trans (Y.trans S);clear e1 Y S;walk_at"";refine er (by omega) ?_;refine forR (λi σ H'=>Ext H3 H'/\∃k1 k2 k3,σ=[Vo (.str z),Vo (.ref l),k1,k2,k3]) ⟨Ext.rfl' _,_,_,_,rfl⟩ ?_ ?_
  .rintro i σ Z hi ⟨y,k1,k2,k3,rfl⟩;have hi:i<2:=hi;obtain⟨v,B⟩:∃v,[W,vs][i]?=Vo v:=⟨_,Di hi⟩;walk_at"";refine BD L (I.ext y) (ds.ext y) B λt w x N u O hm=>?_;have r:=u _ _ (y _ _ M);have u:=y.trans u;refine kr (ar.of O) rfl ?_;walk_at"";refine az (ah.of r) (v:=v) (by rw[Int.zero_add];exact ck B) ?_;walk_at"";refine⟨rfl,?_⟩;rcases hm with⟨rfl,rfl,rfl⟩|⟨⟨p,rfl⟩,rfl,n,D,r1,r2,J,heq⟩
   .rw[Ef rfl];refine rd_exb (ao ?_);walk_at"";refine il ?_;rw[Ef rfl];refine rd_exb (av ?_);walk_at"";refine⟨_,_,rfl,rfl,?_⟩;refine rd_exb (av ?_);walk_at"";refine az (ah.of r) (v:=.non) (by rw[Int.zero_add];exact ck B) ?_;walk_at"";refine⟨rfl,?_⟩;rw[Ef rfl];refine rd_exb (av (av ?_));exact⟨u,_,_,_,rfl⟩
   .rw[Ee (show ¬(V.ref p=V.non) by intro z;cases z)];refine rd_exb (av (av ?_));walk_at"";refine az (ah.of r) (v:=.ref p) (by rw[Int.zero_add];exact ck B) ?_;walk_at"";refine⟨rfl,?_⟩;rw[Ee (show ¬(V.ref p=V.non) by intro z;cases z)];refine rd_exb (ao ?_);walk_at"";refine il ?_;rw[Ef rfl];refine rd_exb (av ?_);walk_at"";refine az (ah.of r) (v:=.ref p) (by rw[Int.zero_add];exact ck B) ?_;refine⟨n,n,_,_,r1,r2,by omega,?_⟩;rw[heq];refine rd_exb (av ?_);exact⟨u,_,_,_,rfl⟩
  rintro σ Z ⟨y,k1,k2,k3,rfl⟩;have I:=I.ext y;have ds:=ds.ext y;have M:=y _ _ M;have U:=U.trans y;clear y;walk_at"";refine az (ah.of M) (v:=W) rfl ?_;walk_at"";refine⟨rfl,?_⟩
  refine' jG (P:=∀N,Ext Z N->lM _ [Vo (.str z),Vo (.ref l),k1,k2,k3] N) (λkey=>?_) ?_
  rotate_left
  .rcases I with⟨m,ws,hp,B⟩|⟨J,rfl⟩
   .have G:¬(W=V.non):=by obtain⟨p,_,rfl,_⟩:=B;intro z;cases z
    rw[Ee G];refine rd_exb (ao ?_);walk_at"";refine⟨0,z,rfl,L,.inl ⟨rfl,λm' a1 C t x N u O R=>?_,λJ=>absurd hp (J m ws)⟩⟩;walk_at"";refine aX (ar.of O) (v:=x) rfl ?_;walk_at"";obtain⟨_,_,_,_,_,_,ok⟩:=C;refine⟨x,rfl,(jT R ok).1,λH6 e6=>?_⟩;rw[(jT R ok).2];refine rd_exb (av ?_);refine key H6 ?_;exact u.trans e6
   .rw[Ef rfl];refine rd_exb (av (av ?_));refine key Z ?_;exact Ext.rfl' _
  intro N u;have r:=u _ _ M;have a0:=ds.ext u;walk_at"";refine az (ah.of r) (v:=vs) (ck (j:=1) rfl) ?_;walk_at"";refine⟨rfl,?_⟩;rcases a0 with⟨b,s',o,a,hp,B⟩|⟨J,rfl⟩
  .have G:¬(vs=V.non):=by obtain⟨p,_,_,rfl,_⟩:=B;intro z;cases z
   rw[Ee G];refine rd_exb (av ?_);walk_at"";refine⟨1,z,rfl,L,.inr ⟨rfl,λb' s2 o' a' C t x H6 e6 O R=>?_,λJ=>absurd hp (J b s' o a)⟩⟩;walk_at"";refine aX (ar.of O) (v:=x) rfl ?_;walk_at"";have a2:=C.len;obtain⟨_,_,_,_,_,_,_,_,_,_,ok⟩:=C;refine⟨x,rfl,R.th (by omega) (by omega),λH7 e7=>?_⟩;rw[R.yes ok];exact q _ (U.trans (u.trans (e6.trans e7)))
  .rw[Ef rfl];refine rd_exb (ao ?_);exact q _ (U.trans u)
def uO(K:Dd):Sp:=λvs H Q _=>vs=[]/\∀z:Vn,z.length=94->Q (.str z) H
abbrev kg:Vl:=stq 62
def va:FnScope ["_law_some"] [] (aK kg):=⟨rfl,rfl,rfl,by decide +kernel,rfl,by decide +kernel,by decide +kernel⟩
def B6{P:Vd}{w:Ve}{K:Dd}{mg:Vn->Option Va}{base:Vh}(D:Dfn K mg "_law_signs" kg [])(T:Blt mg):Cal P w K mg base "_law_signs" 1 [] (uO K):=by
 have nd:=(va).nd;refine D.ok va (λvs H Q E h=>?_) (λX a H vs Q E h=>?_)
 .obtain⟨rfl,_⟩:=h;rfl
 .obtain⟨f,cdv,A,outer,s,H0,E0,rfl,b⟩:=a;obtain⟨rfl,q⟩:=h;refine⟨_,(ak (ay (i:=0) nd rfl (Or.inl rfl) ai)
    (au (ax (aj dR (pv 0) ai)))),?_⟩
  walk_at"";refine⟨_,_,rfl,rfl,by decide +kernel,q _ (by decide +kernel)⟩
def pZ:(Txt.join ⟨#[c]⟩ (Txt.split z ⟨#[c]⟩).reverse).length=z.length:=by have h:=congrArg Str.length (StrLaws.join_split z ⟨#[c]⟩);rw[<-StrLaws.glued_eq_join,size_glued]at h;show(Builtin.Str.glued ⟨#[c]⟩ (Txt.split z ⟨#[c]⟩).reverse).length=z.length;rw[size_glued,List.length_reverse,List.map_reverse,List.sum_reverse];exact h
def fN{lo hi:Option Int}(a:z.length<=1000)(h:∀y:Vn,y.length<=z.length->Q (.str y) H):qY (.str z) lo hi H Q:=⟨z,rfl,aI (by omega),h _ (Txt.slice_le _ _ _)⟩
def cU{a b:Vn}(c:a.length+b.length<=1000000)(h:∀y:Vn,y.length=a.length+b.length->Q (.str y) H):oE (.str a) (.str b) H Q:=
 ⟨a,b,rfl,rfl,DM c (by decide),h _ (Str.length_append _ _)⟩
def fe(H:Hp)(l:Vb)(n:Nat):Prop:=∃zs:List Vn,H l=Vo (.lst (zs.map V.str))/\zs.length=n/\∀y∈zs,y.length<=1000
def fe.cat{ws:List V}{l l2 l3:Vb}{m:Nat}{ys:List Vn}(t:fe H l n)(a:H1 l3=Vo (.lst (ws++ys.map V.str)))(b:H l=Vo (.lst ws))(c:ys.length=m)(d:∀y∈ys,y.length<=1000):fe H1 l3 (n+m):=by
 obtain⟨zs,h1,h2,f⟩:=t;rw[b]at h1;have e:ws=zs.map V.str:=HO.lst.inj (DS h1);refine⟨zs++ys,by rw[a,e,Dz],by rw[DA,h2,c],λy h=>?_⟩;rcases DF.mp h with h|h
 .exact f y h
 .exact d y h
def vO(a:z.length<=450):((Txt.split z ⟨#[c]⟩).reverse.map (·.length)).sum+(Txt.split z ⟨#[c]⟩).reverse.length*(⟨#[c]⟩:Vn).length<=1000000:=by have h:=congrArg Str.length (StrLaws.join_split z ⟨#[c]⟩);rw[<-StrLaws.glued_eq_join,size_glued]at h;have b:=gZ z c;rw[List.length_reverse,List.map_reverse,List.sum_reverse];have h1:(⟨#[c]⟩:Vn).length=1:=rfl;rw[h1]at h ⊢;omega
def qf(K:Dd):Sp:=λvs H Q _=>∃(z:Vn) (l:Vb) (a c b:Int),vs=[.str z,.ref l]/\z.length<=450/\H l=Vo (.lst [.int a,.int c,.int b])/\(0<=a/\a<18)/\(0<=c)/\(0<=b/\b<121)/\∀d H',Ext H H'->d.length<=1000->Q (.str d) H'
abbrev nz:Vl:=stq 63
def qm:FnScope ["_law_text","_law_way","_law_at","_law_sign","_law_some"] ["_law_text","_law_way"] (aK nz):=⟨rfl,rfl,rfl,by decide +kernel,rfl,by decide +kernel,by decide +kernel⟩
def xw{P:Vd}{w:Ve}{K:Dd}{mg:Vn->Option Va}{base:Vh}(D:Dfn K mg "_law_changed" nz ["_law_text","_law_way"])(T:Blt mg)(b:Cal P w K mg base "_law_signs" 1 [] (uO K)):Cal P w K mg base "_law_changed" 2 ["_law_text","_law_way"] (qf K):=by
 have nd:=(qm).nd;refine D.ok qm (λvs H Q E h=>?_) (λX hX H vs Q E h=>?_)
 .obtain⟨z,l,d0,u,d2,rfl,_⟩:=h;rfl
 .obtain⟨f,cdv,A,outer,s,H0,E0,rfl,hr⟩:=hX;obtain⟨z,l,d0,u,d2,rfl,hz,x,b0,b1,b2,q⟩:=h;refine⟨_,(ak (ay (i:=2) nd rfl (Or.inl rfl) (aj cj (aq (aB K) (pv 1) ag (λ_ _=>rfl)) (aj aM (aF fJ rfl T.len_ PySem.boot_len (ae (pv 0) af)) ag)))
    (ak (ay (i:=3) nd rfl (Or.inl rfl) (aq jj (aj fP ai (vQ b hr)) (aq (aB K) (pv 1) ag (λ_ _=>rfl)) (λ_ _=>rfl)))
    (yQ (i:=4) (aU (ae (pv 0) (ae (aj fP (aj fP (bU di (pv 0) cx (bw (pv 2))) (pv 3)) (bU di (pv 0) (bw (pv 2)) cx)) (ae (aj fP (bU di (pv 0) cx (bw (pv 2))) (bU di (pv 0) (bw (aj aM (pv 2) ag)) cx)) (ae (aj fP (aj fP (bU di (pv 0) cx (bw (pv 2))) (pv 3)) (bU di (pv 0) (bw (aj aM (pv 2) ag)) cx)) af)))))
    (nJ (i:=4) (m5 bI (dk (i:=4)) (nK (ef (hJ (dk (i:=0)) ik) (ef (hJ ik (dk (i:=0))) (ef (jM (dk (i:=0))) (ef (jM (dk (i:=0))) (ef (hJ ik (dk (i:=0))) lX)))))))
    (nJ (i:=4) (m5 bI (dk (i:=4)) (nK (ef (hJ (dk (i:=0)) ik) (ef (hJ (dk (i:=0)) ik) (ef (hJ (dk (i:=0)) ik) (ef (jM (dk (i:=0))) lX))))))
    (nJ (i:=4) (m5 bI (dk (i:=4)) (nK (ef (jM (dk (i:=0))) lX)))
    (b9.q (ak (ay (i:=4) nd rfl (Or.inl rfl) (aj bI (pv 4) (aU (ae (bU di (pv 0) cx (bw (aF (qC rfl) rfl T.max_ PyProof.Rows.boot_max (ae ag (ae (bo K PySem.F.plainAttrs_str PySem.F.slot_str_rfind PySem.F.type_str_rfind Bs (pv 0) (ae ai af)) af))))) (ae (aj fP (aj fP (pv 0) ai) (bU di (pv 0) (bw (aj aM (bo K PySem.F.plainAttrs_str PySem.F.slot_str_find PySem.F.type_str_find kY (pv 0) (ae ai af)) ag)) cx)) af)))))
    (ak (ay (i:=4) nd rfl (Or.inl rfl) (aj bI (pv 4) (aU (ae (bo K PySem.F.plainAttrs_str PySem.F.slot_str_join PySem.F.type_str_join (kf K) ai (ae (lR K (bo K PySem.F.plainAttrs_str PySem.F.slot_str_split PySem.F.type_str_split eV (pv 0) (ae ai af)) (bw (lJ lL ag))) af)) (ae (bo K PySem.F.plainAttrs_str PySem.F.slot_str_join PySem.F.type_str_join (kf K) ai (ae (lR K (bo K PySem.F.plainAttrs_str PySem.F.slot_str_split PySem.F.type_str_split eV (pv 0) (ae ai af)) (bw (lJ lL ag))) af)) af)))))
    (au (ax (aq (aB K) (pv 4) (aq (aB K) (pv 1) ag (λ_ _=>rfl)) (λ_ _=>rfl))))))) nd) nd) nd) nd))),?_⟩
  walk_at"";refine az (ah.of x) (v:=.int u) rfl ?_;walk_at"";refine⟨z,rfl,aI (by omega),?_⟩;walk_at"";have a0:=Int.emod_nonneg u (show(z.length:Int)+1≠0 by omega);have a1:=Int.emod_lt_of_pos u (show(0:Int)<(z.length:Int)+1 by omega);generalize u % ((z.length:Int)+1)=at_ at a0 a1;walk_at"";refine⟨rfl,λzs a4=>?_⟩;walk_at"";have a5:(DR " :,0123456789-updownstayzer").length=27:=by decide +kernel
  refine cU (by omega) λy0 a6=>?_;walk_at"";refine az (ah.of x) (v:=.int d2) rfl ?_;obtain⟨k,rfl⟩:∃k:Nat,d2=(k:Int):=⟨d2.toNat,by omega⟩;have hk:k<y0.cps.toList.length:=by rw[Dl];show k<y0.length;omega
  have hc:=Di hk;generalize y0.cps.toList[k]=c at hc;refine⟨y0,_,c,rfl,rfl,aI (by omega),ck hc,?_⟩;have a7:(⟨#[c]⟩:Vn).length=1:=rfl;generalize (⟨#[c]⟩:Vn)=sg at a7;clear hc hk a5 a6 a4 b2;walk_at"";refine fN (by omega) λy1 h1=>?_;walk_at"";refine cU (by omega) λy2 h2=>?_;walk_at"";refine fN (by omega) λy3 h3=>?_;refine cU (by omega) λy4 h4=>?_;walk_at"";refine fN (by omega) λy5 h5=>?_;walk_at"";refine fN (by omega) λy6 h6=>?_;refine cU (by omega) λy7 h7=>?_;walk_at"";refine fN (by omega) λy8 h8=>?_;walk_at"";refine cU (by omega) λy9 h9=>?_;walk_at"";refine fN (by omega) λab a8=>?_;refine cU (by omega) λa9 aa=>?_;walk_at"";refine aH λl1 H1 e1 B _=>?_;have t1:fe H1 l1 4:=⟨[z,y4,y7,a9],B,rfl,λy e=>by simp only[Dw,DN,or_false]at e;rcases e with rfl|rfl|rfl|rfl<;>omega⟩
  clear h1 h2 h3 h4 h5 h6 h7 h8 h9 a8 aa B;have c1:(DR " ").length=1:=rfl;have c2:(DR "0").length=1:=rfl;have c3:(DR "000000").length=6:=rfl;have c4:(DR ",").length=1:=rfl;have c5:(DR ":").length=1:=rfl;obtain⟨ws,a,d,hwb⟩:=id t1;walk_at"";refine cU (by omega) λj m=>?_;walk_at"";refine cU (by omega) λt C=>?_;walk_at"";refine⟨z,rfl,by omega,λu3 G=>?_⟩;walk_at"";refine⟨z,rfl,by omega,λI J=>?_⟩;walk_at"";refine cU (by omega) λu5 g5=>?_;walk_at"";refine aH λl2 H2 e2 L _=>?_;refine cK (e2 _ _ a) L (aI (by simp;omega)) (aP λl3 H3 e3 M _=>?_);have t3:fe H3 l3 9:=t1.cat (l2:=l2) (ys:=[j,t,u3,I,u5]) M a rfl λy e=>by simp only[Dw,DN,or_false]at e;rcases e with rfl|rfl|rfl|rfl|rfl<;>omega
  have g:=e1.trans (e2.trans e3);clear e1 e2 e3 L M a d hwb t1 m C G J g5;obtain⟨ws,a,d,hwb⟩:=id t3;walk_at"";refine cU (by omega) λj m=>?_;walk_at"";refine cU (by omega) λt C=>?_;walk_at"";refine cU (by omega) λu3 G=>?_;walk_at"";refine⟨z,rfl,by omega,λI J=>?_⟩;walk_at"";refine aH λl4 H4 e4 N _=>?_;refine cK (e4 _ _ a) N (aI (by simp;omega)) (aP λl5 H5 e5 O _=>?_);have t5:fe H5 l5 13:=t3.cat (l2:=l4) (ys:=[j,t,u3,I]) O a rfl λy e=>by simp only[Dw,DN,or_false]at e;rcases e with rfl|rfl|rfl|rfl<;>omega
  have g:=g.trans (e4.trans e5);clear e4 e5 N O a d hwb t3 m C G J;obtain⟨ws,a,d,hwb⟩:=id t5;walk_at"";refine⟨z,rfl,by omega,λj m=>?_⟩;walk_at"";refine aH λl6 H6 e6 R _=>?_;refine cK (e6 _ _ a) R (aI (by simp;omega)) (aP λl7 H7 e7 S _=>?_);have t7:fe H7 l7 14:=t5.cat (l2:=l6) (ys:=[j]) S a rfl λy e=>by rw[Dt.mp e];omega
  have g:=g.trans (e6.trans e7);clear e6 e7 R S a d hwb t5 m;obtain⟨ws,a,d,hwb⟩:=id t7;walk_at"";refine⟨rfl,?_⟩;walk_at"";refine⟨z,_,rfl,rfl,λr r0 r1=>?_⟩;walk_at"";refine fN (by omega) λj m=>?_;walk_at"";refine cU (by omega) λt C=>?_;walk_at"";refine⟨rfl,?_⟩;walk_at"";refine⟨z,_,rfl,rfl,?_⟩;generalize eu z (DR ":")=fi;walk_at"";refine fN (by omega) λu3 G=>?_;refine cU (by omega) λI J=>?_;walk_at"";refine aH λl8 H8 e8 U _=>?_;refine cK (e8 _ _ a) U (aI (by simp;omega)) (aP λl9 H9 e9 W _=>?_);have t9:fe H9 l9 16:=t7.cat (l2:=l8) (ys:=[j,I]) W a rfl λy e=>by simp only[Dw,DN,or_false]at e;rcases e with rfl|rfl<;>omega
  have g:=g.trans (e8.trans e9);clear e8 e9 U W a d hwb t7 m C G J r0 r1;obtain⟨ws,a,d,hwb⟩:=id t9;walk_at"";refine⟨rfl,?_⟩;walk_at"";refine⟨rfl,?_⟩;walk_at"";refine fc rfl (by omega) (aP λm1 HA f1 Y _=>?_);walk_at"";refine⟨rfl,nS (ah.of Y) (aP λm2 HB f2 n _=>?_)⟩;rw[<-List.map_reverse]at n;walk_at"";refine⟨_,m2,_,rfl,rfl,ah.of n,?_,?_⟩
  .exact vO (c:=44) hz
  have j1:(Txt.join (DR ",") (Txt.split z (DR ",")).reverse).length=z.length:=pZ;generalize Txt.join (DR ",") (Txt.split z (DR ",")).reverse=j at j1;walk_at"";refine⟨rfl,?_⟩;walk_at"";refine⟨rfl,?_⟩;walk_at"";refine fc rfl (by omega) (aP λm3 HC f3 Z _=>?_);walk_at"";refine⟨rfl,nS (ah.of Z) (aP λm4 HD f4 o _=>?_)⟩;rw[<-List.map_reverse]at o;walk_at"";refine⟨_,m4,_,rfl,rfl,ah.of o,?_,?_⟩
  .exact vO (c:=32) hz
  have j2:(Txt.join (DR " ") (Txt.split z (DR " ")).reverse).length=z.length:=pZ;generalize Txt.join (DR " ") (Txt.split z (DR " ")).reverse=t at j2;have p:=f1.trans (f2.trans (f3.trans f4));clear f1 f2 f3 f4 Y n Z o;walk_at"";refine aH λla HE f5 a2 _=>?_;refine cK ((p.trans f5) _ _ a) a2 (aI (by simp;omega)) (aP λlb HF f6 a3 _=>?_);have tb:fe HF lb 18:=t9.cat (l2:=la) (ys:=[j,t]) a3 a rfl λy e=>by simp only[Dw,DN,or_false]at e;rcases e with rfl|rfl<;>omega
  have g:=g.trans (p.trans (f5.trans f6));have x:=g _ _ x;clear p f5 f6 a2 a3 a d hwb t9 j1 j2;walk_at"";refine az (ah.of x) (v:=.int d0) rfl ?_;obtain⟨ws,a,d,hwb⟩:=tb;obtain⟨i,rfl⟩:∃i:Nat,d0=(i:Int):=⟨d0.toNat,by omega⟩;have hi:i<ws.length:=by omega
  refine az (ah.of a) (v:=.str ws[i]) (ck (by rw[Dj,Di hi];rfl)) ?_;exact q _ _ g (hwb _ (DI hi))
def nN:V->Bool
 | .str z=>decide (z.length<=100)
 | _=>false
def jO(H:Hp)(l:Vb)(n:Nat):Prop:=∃xs:List V,H l=Vo (.lst xs)/\xs.length=n/\xs.all nN=true
theorem all_strs:∀{xs:List V},xs.all nN=true->∃zs:List Vn,xs=zs.map V.str/\∀z∈zs,z.length<=100
 | [],_=>⟨[],rfl,λz h=>by cases h⟩
 | x::r,h=>by
  rw[List.all_cons,DQ]at h;obtain⟨zs,rfl,h2⟩:=all_strs h.2;cases x with
  | str z=>exact⟨z::zs,rfl,λy a=>by
    rcases Dw.mp a with rfl|a
    .exact of_decide_eq_true h.1
    .exact h2 y a⟩
  | _=>cases h.1
def dv{l:Vb}{ys:List V}(m:Nat)(e:Ext H0 H)(t:jO H l n)(i:ys.length=m)(j:ys.all nN=true)(p:n+m<=1000)(k:∀l3 a,Ext H0 a->H0 l3=Vp->jO a l3 (n+m)->Q (.ref l3) a):
  ys.length<=sizeLine/\df H (.lst ys) λy H2=>kX (.ref l) y H2 Q:=by
 obtain⟨ws,b,c,hwb⟩:=t;refine⟨aI (by omega),aP λl2 H2 d f _=>?_⟩;refine cK (d _ _ b) f (aI (by omega)) (aP λl3 a o g h=>?_);exact k l3 a (e.trans (d.trans o)) ((e.trans d).none h) ⟨_,g,by rw[DA,c,i],by rw[List.all_append,hwb,j];rfl⟩
def rf(K:Dd):Sp:=λvs H Q _=>vs=[]/\∀(l:Vb) (zs:List Vn) H',Ext H H'->H' l=Vo (.lst (zs.map V.str))->zs.length=63->(∀z∈zs,z.length<=100)->Q (.ref l) H'
abbrev jI:Vl:=stq 61
def qv:FnScope ["_law_some"] [] (aK jI):=⟨rfl,rfl,rfl,by decide +kernel,rfl,by decide +kernel,by decide +kernel⟩
def A3{P:Vd}{w:Ve}{K:Dd}{mg:Vn->Option Va}{base:Vh}(D:Dfn K mg "_law_odd_lines" jI [])(T:Blt mg):Cal P w K mg base "_law_odd_lines" 1 [] (rf K):=by
 have nd:=(qv).nd;refine D.ok qv (λvs H Q E h=>?_) (λX Y H vs Q E h=>?_)
 .obtain⟨rfl,_⟩:=h;rfl
 .obtain⟨f,cdv,A,outer,s,H0,E0,rfl,hr⟩:=Y;obtain⟨rfl,q⟩:=h;refine⟨_,(@ak _ _ _ _ _ (@ay _ _ 0 _ _ _ _ nd rfl (Or.inl rfl) (@aU _ _ _ _ (@ae _ _ _ _ _ ai (@ae _ _ _ _ _ ai (@ae _ _ _ _ _ ai (@ae _ _ _ _ _ ai (@ae _ _ _ _ _ ai (@ae _ _ _ _ _ ai (@ae _ _ _ _ _ ai (@ae _ _ _ _ _ ai (@ae _ _ _ _ _ ai (@ae _ _ _ _ _ ai (@ae _ _ _ _ _ ai (@ae _ _ _ _ _ ai (@ae _ _ _ _ _ ai af rfl) rfl) rfl) rfl) rfl) rfl) rfl) rfl) rfl) rfl) rfl) rfl) rfl)) rfl (Or.inl rfl))
    (@ak _ _ _ _ _ (@ay _ _ 0 _ _ _ _ nd rfl (Or.inl rfl) (aj bI (pv 0) (@aU _ _ _ _ (@ae _ _ _ _ _ ai (@ae _ _ _ _ _ ai af rfl) rfl))) rfl (Or.inl rfl))
    (@ak _ _ _ _ _ (@ay _ _ 0 _ _ _ _ nd rfl (Or.inl rfl) (aj bI (pv 0) (@aU _ _ _ _ (@ae _ _ _ _ _ ai (@ae _ _ _ _ _ ai (@ae _ _ _ _ _ ai (@ae _ _ _ _ _ ai (@ae _ _ _ _ _ ai af rfl) rfl) rfl) rfl) rfl))) rfl (Or.inl rfl))
    (@ak _ _ _ _ _ (cF (bo K Dp DD DE cB (pv 0) (@ae _ _ _ _ _ ai af rfl)))
    (@ak _ _ _ _ _ (@ay _ _ 0 _ _ _ _ nd rfl (Or.inl rfl) (aj bI (pv 0) (@aU _ _ _ _ (@ae _ _ _ _ _ ai (@ae _ _ _ _ _ ai (@ae _ _ _ _ _ ai (@ae _ _ _ _ _ ai af rfl) rfl) rfl) rfl))) rfl (Or.inl rfl))
    (@ak _ _ _ _ _ (@ay _ _ 0 _ _ _ _ nd rfl (Or.inl rfl) (aj bI (pv 0) (@aU _ _ _ _ (@ae _ _ _ _ _ ai af rfl))) rfl (Or.inl rfl))
    (@ak _ _ _ _ _ (@ay _ _ 0 _ _ _ _ nd rfl (Or.inl rfl) (aj bI (pv 0) (@aU _ _ _ _ (@ae _ _ _ _ _ ai (@ae _ _ _ _ _ ai (@ae _ _ _ _ _ ai (@ae _ _ _ _ _ ai (@ae _ _ _ _ _ ai af rfl) rfl) rfl) rfl) rfl))) rfl (Or.inl rfl))
    (@ak _ _ _ _ _ (@ay _ _ 0 _ _ _ _ nd rfl (Or.inl rfl) (aj bI (pv 0) (@aU _ _ _ _ (@ae _ _ _ _ _ ai af rfl))) rfl (Or.inl rfl))
    (@ak _ _ _ _ _ (@ay _ _ 0 _ _ _ _ nd rfl (Or.inl rfl) (aj bI (pv 0) (@aU _ _ _ _ (@ae _ _ _ _ _ ai (@ae _ _ _ _ _ ai (@ae _ _ _ _ _ ai (@ae _ _ _ _ _ ai (@ae _ _ _ _ _ ai (@ae _ _ _ _ _ ai (@ae _ _ _ _ _ ai af rfl) rfl) rfl) rfl) rfl) rfl) rfl))) rfl (Or.inl rfl))
    (@ak _ _ _ _ _ (@ay _ _ 0 _ _ _ _ nd rfl (Or.inl rfl) (aj bI (pv 0) (@aU _ _ _ _ (@ae _ _ _ _ _ ai (@ae _ _ _ _ _ ai (@ae _ _ _ _ _ ai (@ae _ _ _ _ _ ai (@ae _ _ _ _ _ ai (@ae _ _ _ _ _ ai (@ae _ _ _ _ _ ai (@ae _ _ _ _ _ ai af rfl) rfl) rfl) rfl) rfl) rfl) rfl) rfl))) rfl (Or.inl rfl))
    (@ak _ _ _ _ _ (@ay _ _ 0 _ _ _ _ nd rfl (Or.inl rfl) (aj bI (pv 0) (@aU _ _ _ _ (@ae _ _ _ _ _ ai (@ae _ _ _ _ _ ai (@ae _ _ _ _ _ ai (@ae _ _ _ _ _ ai (@ae _ _ _ _ _ ai af rfl) rfl) rfl) rfl) rfl))) rfl (Or.inl rfl))
    (@ak _ _ _ _ _ (@ay _ _ 0 _ _ _ _ nd rfl (Or.inl rfl) (aj bI (pv 0) (@aU _ _ _ _ (@ae _ _ _ _ _ ai af rfl))) rfl (Or.inl rfl))
    (@ak _ _ _ _ _ (@ay _ _ 0 _ _ _ _ nd rfl (Or.inl rfl) (aj bI (pv 0) (@aU _ _ _ _ (@ae _ _ _ _ _ ai (@ae _ _ _ _ _ ai af rfl) rfl))) rfl (Or.inl rfl))
    (@au _ _ _ (@ax _ _ _ _ (aj bI (pv 0) (@aU _ _ _ _ (@ae _ _ _ _ _ ai (@ae _ _ _ _ _ ai (@ae _ _ _ _ _ ai (@ae _ _ _ _ _ ai (@ae _ _ _ _ _ ai (@ae _ _ _ _ _ ai (@ae _ _ _ _ _ ai (@ae _ _ _ _ _ ai af rfl) rfl) rfl) rfl) rfl) rfl) rfl) rfl)))))))))))))))))),?_⟩
  walk_at"";refine aH λl0 Z y d n0=>?_;have z:jO Z l0 13:=⟨_,d,rfl,by decide +kernel⟩;clear d;walk_at"";refine dv 2 y z rfl (by decide +kernel) (by decide) λl1 G1 B n1 C=>?_;clear y z;walk_at"";refine dv 5 B C rfl (by decide +kernel) (by decide) λl2 p e2 n2 t2=>?_;clear B C;walk_at"";obtain⟨ws,a,c,hwb⟩:=t2;refine⟨iB (ah.of a),?_⟩;walk_at"";refine cG a (Nat.lt_of_le_of_lt (show _<=1000 by omega) (by decide)) ?_;have t:Ext H (upd p l2 (.lst (ws++[.str "1: 0 up 1 a"]))):=λb o hb=>by rw[aY (du hb n2)];exact e2 b o hb
  have r:jO (upd p l2 (.lst (ws++[.str "1: 0 up 1 a"]))) l2 21:=⟨_,bg,by rw[DA,c];rfl,by rw[List.all_append,hwb];decide +kernel⟩;show(iX _ _) _ _ (upd p l2 (.lst (ws++[.str "1: 0 up 1 a"])));generalize upd p l2 (.lst (ws++[.str "1: 0 up 1 a"]))=G3 at t r ⊢;clear a;obtain⟨l3,e⟩:∃l:Vb,l=l2:=⟨_,rfl⟩;rw[<-e]at r ⊢;clear e;walk_at"";refine dv 4 t r rfl (by decide +kernel) (by decide) λl4 G4 F n4 G=>?_;clear t r;walk_at"";refine dv 1 F G rfl (by decide +kernel) (by decide) λl5 G5 I n5 J=>?_;clear F G;walk_at"";refine dv 5 I J rfl (by decide +kernel) (by decide) λl6 G6 L n6 M=>?_;clear I J;walk_at"";refine dv 1 L M rfl (by decide +kernel) (by decide) λl7 G7 N n7 O=>?_;clear L M;walk_at"";refine dv 7 N O rfl (by decide +kernel) (by decide) λl8 G8 R n8 S=>?_;clear N O;walk_at"";refine dv 8 R S rfl (by decide +kernel) (by decide) λl9 G9 U n9 W=>?_;clear R S;walk_at"";refine dv 5 U W rfl (by decide +kernel) (by decide) λl10 a0 g a1 i=>?_;clear U W;walk_at"";refine dv 1 g i rfl (by decide +kernel) (by decide) λl11 a2 j a3 k=>?_;clear g i;walk_at"";refine dv 2 j k rfl (by decide +kernel) (by decide) λl12 a4 m a5 n=>?_;clear j k;walk_at"";refine dv 8 m n rfl (by decide +kernel) (by decide) λl13 u v a6 x=>?_;clear m n;walk_at"";obtain⟨ws,a,c,hwb⟩:=x;obtain⟨zs,rfl,hz⟩:=all_strs hwb;exact q l13 zs u v a (by rw[Dh]at c;exact c) hz
def kq(K:Dd):Sp:=λvs H Q _=>∃(a:Vb) (ns:List Int),vs=[.ref a]/\ah K H a (ns.map V.int)/\ns.length<=63/\∀H',Q (.bl true) H'
abbrev fB:Vl:=stq 64
def rh:FnScope ["_law_script","_law_way","_law_text","_law_lines","_law_first"] ["_law_script"] (aK fB):=⟨rfl,rfl,rfl,by decide +kernel,rfl,by decide +kernel,by decide +kernel⟩
def wK{w:Ve}{K:Dd}{fd:Vm}(F:Fun K "law" "law" fB f fd)(T:Blt mg)(k:Cal P w K mg base "_law_well_read" 8 ["_law_text"] (qk K))(t:Cal P w K mg base "_law_draws" 2 ["_law_cell_here","_law_widths","_law_prime"] (fT K))(j:Cal P w K mg base "_law_cell" 1 ["_law_script","_law_k"] (vV K))(G:Cal P w K mg base "_law_odd_lines" 1 [] (rf K))(I:Cal P w K mg base "_law_changed" 2 ["_law_text","_law_way"] (qf K))(B:Cal P w K mg base "_law_stair_text" 1 ["_law_stair"] (sk K))(p:Cal P w K mg base "_law_drawn_stair" 3 ["_law_cell_here","_law_prime"] (vK K))(C:Cal P w K mg base "_law_house_text" 1 ["_law_house_here"] (vc K))(J:Cal P w K mg base "_law_house" 4 ["_law_cell_here","_law_prime"] (qB K)):FnOk P w K mg base eR 9 f fd ["_law_script"] (kq K):=by
 have nd:=(rh).nd;refine F.ok rh (λvs H Q E h=>?_) (λcdv A outer s H vs Q E L h=>?_)
 .obtain⟨a,ns,rfl,_⟩:=h;rfl
 .obtain⟨a,ns,rfl,ha,hlen,q⟩:=h;refine⟨_,(ak (ay (i:=1) nd rfl (Or.inl rfl) (aC t L (ae (aC j L (ae (pv 0) (ae ag af))) (ae (aU (gJ (.c (.c (.c (.c .n)))))) (ae ag af)))))
    (ak (ay (i:=2) nd rfl (Or.inl rfl) (aC C L (ae (aC J L (ae (aC j L (ae (pv 0) (ae ag af))) (ae ag af))) af)))
    (ak (dX (aD b6 (aq (aB K) (pv 1) ag (λ_ _=>rfl)) ag (aA _)) (au (ay (i:=2) nd rfl (Or.inl rfl) (aC B L (ae (aC p L (ae (aC j L (ae (pv 0) (ae ag af))) (ae ag af))) af)))) aO)
    (ak (aT (bt (br (aC k L (ae (aC I L (ae (pv 2) (ae (bU (eQ K) (pv 1) (bw ag) cx) af))) af)))) (au (ax bJ)) aO)
    (ak (ay (i:=3) nd rfl (Or.inl rfl) (vQ G L))
    (ak (ay (i:=4) nd rfl (Or.inl rfl) (aq (aB K) (aC t L (ae (aC j L (ae (pv 0) (ae ag af))) (ae (aU (ae (aF (cc K) rfl T.len_ PySem.boot_len (ae (pv 3) af)) af)) (ae ag af)))) ag (λ_ _=>rfl)))
    (au (ax (aF (gr K rfl) rfl T.all_ PyProof.Rows.boot_all (ae (dm ["_law_line"] [] (eZ K (bU (eQ K) (aj bI (pv 3) (pv 3)) (bw (pv 4)) (bw (aj aM (pv 4) ag)))) (λ_=>(aV (i:=0) (show(["_law_line"]:List Vn).Nodup from by decide +kernel) rfl (Or.inl rfl) (Or.inr rfl))) (λ_=>cy) (λ_=>(aC k L (ae (pv 0) af)))) af)))))))))),?_⟩
  walk_at"";refine⟨a,ns,0,rfl,ha,hlen,by omega,λc0=>?_⟩;walk_at"";refine aH λw H1 e1 W hw=>?_;walk_at"";refine fW [2,18,4000,121] W (by decide) (by decide) (by decide) λdq ds H2 e2 hd a4 O hb=>?_;obtain⟨w0,w1,w2,w3,rfl⟩:∃w0 w1 w2 w3,ds=[w0,w1,w2,w3]:=by
   match ds,O with
   | [a,b,c,d],_=>exact⟨a,b,c,d,rfl⟩
  have b1:=hb 1 _ _ rfl rfl;have b2:=hb 2 _ _ rfl rfl;have b3:=hb 3 _ _ rfl rfl;have R:=e1.trans e2;clear hb O a4 W hw e1 e2;walk_at"";refine⟨a,ns,1,rfl,ha.ext R,hlen,by omega,λc1=>?_⟩;walk_at"";refine⟨c1,_,rfl,by decide,λv m ws H3 e3 hv ok=>?_⟩;walk_at"";refine⟨v,m,ws,rfl,hv,ok.house,λH4 e4=>?_⟩;have M:=B1 ok.house ok.few;generalize kB m ws=z at M ⊢;have S:=e3.trans e4;have hd:=S _ _ hd;have ha:=ha.ext (R.trans S);clear hv ok e3 e4 S R;walk_at"";refine fo (λX H'=>Ext H4 H'/\∃z:Vn,z.length<=450/\X=[Vo (.ref a),Vo (.ref dq),Vo (.str z),Vp,Vp]) ?_ ?_
  .walk_at"";refine az (ah.of hd) (v:=.int w0) rfl ?_;walk_at"";refine cJ (λh=>?_) (λh=>?_)
   .walk_at"";refine⟨a,ns,1,rfl,ha,hlen,by omega,λc2=>?_⟩;walk_at"";refine⟨c2,_,rfl,by decide,λv b s' o aa H5 Y hv g ho a5=>?_⟩;walk_at"";refine⟨v,b,s',o,aa,rfl,hv,g.sml,λH6 e6=>?_⟩;walk_at"";exact⟨Y.trans e6,_,by have:=w9 g.sml ho a5;omega,rfl⟩
   .walk_at"";exact⟨Ext.rfl' _,z,M,rfl⟩
  clear M z;rintro X H5 ⟨Y,z,hz,rfl⟩;have hd:=Y _ _ hd;have ha:=ha.ext Y;walk_at"";refine fu (ah.of hd) (aP λdl H6 e6 Z _=>?_);walk_at"";refine⟨z,dl,w1,w2,w3,rfl,hz,Z,b1,b2.1,b3,λy H7 e7 hy=>?_⟩;walk_at"";refine⟨y,rfl,hy,λH8 e8=>?_⟩;have ha:=ha.ext (e6.trans (e7.trans e8));clear hd Z Y e6 e7 e8 hz hy;refine rd_exb (av ?_);walk_at"";refine⟨rfl,λl zs H9 e9 O hn a6=>?_⟩;have ha:=ha.ext e9;walk_at"";refine⟨a,ns,2,rfl,ha,hlen,by omega,λc3=>?_⟩;walk_at"";refine eh (ah.of O) ?_;walk_at"";rw[Dh,hn];refine aH λab HA f1 a0 _=>?_;walk_at"";refine fW [63] a0 (by decide) (by decide) (by decide) λac a1 HB f2 a7 a2 N a3=>?_;obtain⟨x0,rfl⟩:∃x0,a1=[x0]:=by
   match a1,N with
   | [x0],_=>exact⟨x0,rfl⟩
  have y0:=a3 0 _ _ rfl rfl;obtain⟨n,rfl⟩:∃n:Nat,x0=(n:Int):=⟨x0.toNat,by omega⟩;have O:=(f1.trans f2) _ _ O;clear a3 N a2 a0 f1 f2;walk_at"";refine az (ah.of a7) (v:=.int (n:Int)) rfl ?_;walk_at"";refine cK O O (aI (by rw[Dh];omega)) (aP λl2 HC f3 N _=>?_);walk_at"";refine fu (ah.of N) (aP λl3 HD f4 U _=>?_);obtain⟨us,a8,ad,a9⟩:∃us:List Vn,bG (zs.map V.str++zs.map V.str) (Vo ((n:Nat):Int)) (Vo (((n:Nat):Int)+16))=us.map V.str/\us.length<=126/\∀u∈us,u.length<=100:=by
   rw[<-Dz];unfold bG;rw[<-List.map_drop,<-List.map_take];refine⟨_,rfl,?_,λu hu=>?_⟩
   .rw[Ea,List.length_drop,DA];omega
   .rcases DF.mp (List.mem_of_mem_drop (List.mem_of_mem_take hu))with h|h<;>exact a6 u h
  rw[a8]at U;refine ff (ah.of U) ?_;refine fM (xs:=us.map V.str) (λi ys H'=>Ext HD H'/\ys=(DV i true).map V.bl) (aI (by rw[Dh];omega)) ⟨Ext.rfl' _,rfl⟩ (λi ys H' hi h=>⟨ah.of (h.1 _ _ U),?_⟩) ?_ ?_
  .rw[h.2];simp
  .rintro i x ys H' hx ⟨e,rfl⟩;rw[Dj]at hx;obtain⟨u,hu,rfl⟩:=Du.mp hx;have:=a9 u (Ds hu);walk_at"";refine ao ?_;walk_at"";refine⟨u,rfl,by omega,λH2 e2=>⟨e.trans e2,?_⟩⟩;rw[List.replicate_succ',Dz];rfl
  rintro ys H' r ⟨e,rfl⟩ L;walk_at"";refine⟨r,_,rfl,ah.of bg,?_⟩;rw[show (DV (us.map V.str).length true).all id=true by simp];exact q _
abbrev Dq(K:Dd)(mg:Vn->Option Va)(x:Vn)(st:Vl):Prop:=∃(f:Vb) (fd:Vm),mg x=Vo (.ref f)/\Fun K x x st f fd
def dq{K:Dd}{h:Vh}{mg:Vn->Option Va}(X:K.In h)(G:h.Ns Vj mg){x:Vn}{st:Vl}{f:Vb}{od an:Option Vb}{sl:Array (Option Va)}{oc kV b pm cd ct:Va}(a:PySem.W.nsIn K Vj x=Vo (Vo (.ref f)))(l:K.lookup f=Vo ⟨oc,od,.func (PySem.W.fnOf x x (fD st) (dU st) (aK st) .none kV b pm an cd ct),sl⟩)(c:PySem.W.codeIn K cd x=true)(k:PySem.W.keepIn K (.ref f)=true):Dq K mg x st:=⟨f,_,PySem.W.mg_of X G a,pE (st:=st) l c k⟩
abbrev bd(x:Vn)(st:Vl)(us:List Va)(r:List (Vn×Va)):Prop:=∀(kV doc pm:Va) (an:Option Vb) (cdv ct:Va),bindArgs (PySem.W.fnOf x x (fD st) (dU st) (aK st) .none kV doc pm an cdv ct) ⟨us,[]⟩=pure r
def bS{K:Dd}{x:Vn}(b:Vn)(d:Dq K mg x st)(h:∀c,bd x st [c] [(b,c)]):Dfn K mg x st [b]:=let ⟨f,fd,a,F⟩:=d;⟨f,fd,a,F,F.binds (ps:=[b]) λ_ _ _ _ _ _ us e=>match us,e with|[_],_=>h _ _ _ _ _ _ _⟩
def dJ{K:Dd}{x:Vn}(b c:Vn)(d:Dq K mg x st)(h:∀e g,bd x st [e,g] [(b,e),(c,g)]):Dfn K mg x st [b,c]:=let ⟨f,fd,a,F⟩:=d;⟨f,fd,a,F,F.binds (ps:=[b,c]) λ_ _ _ _ _ _ us i=>match us,i with|[_,_],_=>h _ _ _ _ _ _ _ _⟩
def jt{K:Dd}{x:Vn}(b c p2:Vn)(d:Dq K mg x st)(h:∀e g i,bd x st [e,g,i] [(b,e),(c,g),(p2,i)]):Dfn K mg x st [b,c,p2]:=let ⟨f,fd,a,F⟩:=d;⟨f,fd,a,F,F.binds (ps:=[b,c,p2]) λ_ _ _ _ _ _ us j=>match us,j with|[_,_,_],_=>h _ _ _ _ _ _ _ _ _⟩
def AX{K:Dd}{x:Vn}(b c p2 e:Vn)(d:Dq K mg x st)(h:∀g i j k,bd x st [g,i,j,k] [(b,g),(c,i),(p2,j),(e,k)]):Dfn K mg x st [b,c,p2,e]:=let ⟨f,fd,a,F⟩:=d;⟨f,fd,a,F,F.binds (ps:=[b,c,p2,e]) λ_ _ _ _ _ _ us l=>match us,l with|[_,_,_,_],_=>h _ _ _ _ _ _ _ _ _ _⟩
def all_mk{l:PySem.W.OpenLaw}{w:Ve}{K:Dd}{h:Vh}{fa:Vb}(X:K.In h)(G:h.Ns Vj mg)(N:mg "law" = Vo (.ref fa))
  (d0:Dq K mg "_law_whole" lT)
  (d1:Dq K mg "_law_rises" kT)
  (d2:Dq K mg "_law_is_stair" mx)
  (d3:Dq K mg "is_whole" oo)
  (d4:Dq K mg "is_rising_row" lq)
  (d5:Dq K mg "are_stair_places" mX)
  (d6:Dq K mg "is_stair" nO)
  (d7:Dq K mg "is_number_word" oa)
  (d8:Dq K mg "read_number" ma)
  (d9:Dq K mg "read_row" nL)
  (O:Dq K mg "read_stair" oF)
  (P:Dq K mg "is_sign" oO)
  (Q:Dq K mg "is_deed" lC)
  (R:Dq K mg "is_room" nq)
  (S:Dq K mg "is_way" oP)
  (U:Dq K mg "are_ways" oX)
  (Y:Dq K mg "is_house" lE)
  (Z:Dq K mg "read_way" mB)
  (a0:Dq K mg "read_ways" oW)
  (a1:Dq K mg "read_house" oJ)
  (a2:Dq K mg "_law_read" mG)
  (a3:Dq K mg "_law_is_house" oq)
  (a4:Dq K mg "_law_number_of" o9)
  (a5:Dq K mg "_law_stair_of" oj)
  (a6:Dq K mg "_law_way_of" nH)
  (a7:Dq K mg "_law_house_of" mD)
  (a8:Dq K mg "_law_well_read" nP)
  (a9:Dq K mg "_law_mixed" mh)
  (aa:Dq K mg "_law_draws" nX)
  (ab:Dq K mg "_law_cell" my)
  (ac:Dq K mg "_law_odd_lines" jI)
  (ad:Dq K mg "_law_signs" kg)
  (am:Dq K mg "_law_changed" nz)
  (an:Dq K mg "_law_stair_text" mV)
  (ap:Dq K mg "_law_drawn_stair" m8)
  (as:Dq K mg "_law_house_text" oi)
  (b0:Dq K mg "_law_unlike" ot)
  (b1:Dq K mg "_law_drawn_house" mI)
  (b2:Dq K mg "_law_gate_house" mQ)
  (b3:Dq K mg "_law_ring_house" mW)
  (b4:Dq K mg "_law_spare" mz)
  (b5:Dq K mg "_law_house" ll)
  {n:Vb} {p g:Option Vb} {r:Array (Option Va)} {t i j k d m:Va} (a42:PySem.W.nsIn K Vj "law" = Vo (Vo (.ref n))) (l42:K.lookup n=Vo ⟨t,p,.func (PySem.W.fnOf "law" "law" (fD fB) (dU fB) (aK fB) .none i j k g d m),r⟩) (c42:PySem.W.codeIn K d "law" = true) (k42:PySem.W.keepIn K (.ref n)=true)
  (z0:PySem.W.nsIn K Vj "len" = Vo Vp)
  (z1:PySem.W.nsIn K Vj "isinstance" = Vo Vp)
  (z2:PySem.W.nsIn K Vj "tuple" = Vo Vp)
  (z3:PySem.W.nsIn K Vj "list" = Vo Vp)
  (z4:PySem.W.nsIn K Vj "int" = Vo Vp)
  (z5:PySem.W.nsIn K Vj "bool" = Vo Vp)
  (z6:PySem.W.nsIn K Vj "range" = Vo Vp)
  (z7:PySem.W.nsIn K Vj "zip" = Vo Vp)
  (z8:PySem.W.nsIn K Vj "max" = Vo Vp)
  (z9:PySem.W.nsIn K Vj "min" = Vo Vp)
  (z10:PySem.W.nsIn K Vj "abs" = Vo Vp)
  (z11:PySem.W.nsIn K Vj "all" = Vo Vp)
  (z12:PySem.W.nsIn K Vj "ValueError" = Vo Vp)
  (z13:PySem.W.nsIn K Vj "set" = Vo Vp)
  (z14:PySem.W.nsIn K Vj "str" = Vo Vp)
  (z15:PySem.W.nsIn K Vj "sorted" = Vo Vp)
  {t0:Tok} (v0:PySem.W.nsIn K Vj "FIGURES" = Vo (Vo (.str "0123456789" t0)))
  {t1:Tok} (v1:PySem.W.nsIn K Vj "MOST_FIGURES" = Vo (Vo (.int 6 t1)))
  {t2:Tok} (v2:PySem.W.nsIn K Vj "GREATEST_WAYS" = Vo (Vo (.int 100 t2)))
  {t3:Tok} (v3:PySem.W.nsIn K Vj "GREATEST_MANY" = Vo (Vo (.int 12 t3)))
  {e0:Vb} {u x y z A B C E:Tok} {b7:Nat} (x0:PySem.W.nsIn K Vj "TURNED" = Vo (Vo (.ref e0))) (y0:K.lookup e0=Vo (kN w [("up",u,.str "down" x),("down",y,.str "up" z),("stay",A,.str "stay" B),("zero",C,.str "zero" E)] b7)) (w0:(e0 == sysModules)=false)
  (hxf:nY K fR gh=true)
  (b:mZ K "NoText" = true)
  : ∃fd:Vm,(∀(s:Vc) (v:Va),BindsTo s fd ⟨[v],[]⟩ [("_law_script",v)])/\∀base:Vh,K.In base->base.Ns Vj mg->FnOk l.prog w K mg base eR 9 fa fd ["_law_script"] (kq K):=by
 have e:=N.symm.trans (PySem.W.mg_of X G a42);cases e;have T:Blt mg:=⟨PySem.W.mg_none_of X G z0,PySem.W.mg_none_of X G z1,PySem.W.mg_none_of X G z2,PySem.W.mg_none_of X G z3,PySem.W.mg_none_of X G z4,PySem.W.mg_none_of X G z5,PySem.W.mg_none_of X G z6,PySem.W.mg_none_of X G z7,PySem.W.mg_none_of X G z8,PySem.W.mg_none_of X G z9,PySem.W.mg_none_of X G z10,PySem.W.mg_none_of X G z11,PySem.W.mg_none_of X G z12,PySem.W.mg_none_of X G z13,PySem.W.mg_none_of X G z14,PySem.W.mg_none_of X G z15⟩;have D0:=bS "_law_found" d0 λ_ _ _ _ _ _ _=>rfl;have D1:=jt "_law_row" "_law_low" "_law_high" d1 λ_ _ _ _ _ _ _ _ _=>rfl;have D2:=bS "_law_found" d2 λ_ _ _ _ _ _ _=>rfl;have D3:=bS "thing" d3 λ_ _ _ _ _ _ _=>rfl;have D4:=jt "thing" "low" "end" d4 λ_ _ _ _ _ _ _ _ _=>rfl;have D5:=AX "base" "step" "once" "again" d5 λ_ _ _ _ _ _ _ _ _ _=>rfl;have D6:=bS "thing" d6 λ_ _ _ _ _ _ _=>rfl;have D7:=bS "word" d7 λ_ _ _ _ _ _ _=>rfl;have D8:=bS "word" d8 λ_ _ _ _ _ _ _=>rfl;have D9:=bS "words" d9 λ_ _ _ _ _ _ _=>rfl;have b8:=bS "text" O λ_ _ _ _ _ _ _=>rfl;have ba:=bS "thing" P λ_ _ _ _ _ _ _=>rfl;have bb:=bS "thing" Q λ_ _ _ _ _ _ _=>rfl;have bc:=dJ "thing" "many" R λ_ _ _ _ _ _ _ _=>rfl;have be:=dJ "thing" "many" S λ_ _ _ _ _ _ _ _=>rfl;have bi:=dJ "thing" "many" U λ_ _ _ _ _ _ _ _=>rfl;have bl:=bS "thing" Y λ_ _ _ _ _ _ _=>rfl;have bm:=bS "text" Z λ_ _ _ _ _ _ _=>rfl;have bn:=bS "text" a0 λ_ _ _ _ _ _ _=>rfl;have bv:=bS "text" a1 λ_ _ _ _ _ _ _=>rfl;have c0:=dJ "_law_way" "_law_text" a2 λ_ _ _ _ _ _ _ _=>rfl;have c1:=bS "_law_thing" a3 λ_ _ _ _ _ _ _=>rfl;have c2:=bS "_law_word" a4 λ_ _ _ _ _ _ _=>rfl;have c3:=bS "_law_text" a5 λ_ _ _ _ _ _ _=>rfl;have c4:=bS "_law_piece" a6 λ_ _ _ _ _ _ _=>rfl;have c5:=bS "_law_text" a7 λ_ _ _ _ _ _ _=>rfl;have c6:=bS "_law_text" a8 λ_ _ _ _ _ _ _=>rfl;have c7:=jt "_law_cell_here" "_law_k" "_law_prime" a9 λ_ _ _ _ _ _ _ _ _=>rfl;have c8:=jt "_law_cell_here" "_law_widths" "_law_prime" aa λ_ _ _ _ _ _ _ _ _=>rfl;have c9:=dJ "_law_script" "_law_k" ab λ_ _ _ _ _ _ _ _=>rfl;have ca:Dfn K mg "_law_odd_lines" jI []:=let ⟨f,fd,a,F⟩:=ac;⟨f,fd,a,F,F.binds (ps:=[]) λ_ _ _ _ _ _ us hl=>match us,hl with|[],_=>rfl⟩;have cd:Dfn K mg "_law_signs" kg []:=let ⟨f,fd,a,F⟩:=ad;⟨f,fd,a,F,F.binds (ps:=[]) λ_ _ _ _ _ _ us hl=>match us,hl with|[],_=>rfl⟩;have ce:=dJ "_law_text" "_law_way" am λ_ _ _ _ _ _ _ _=>rfl;have cf:=bS "_law_stair" an λ_ _ _ _ _ _ _=>rfl;have cg:=dJ "_law_cell_here" "_law_prime" ap λ_ _ _ _ _ _ _ _=>rfl;have ch:=bS "_law_house_here" as λ_ _ _ _ _ _ _=>rfl;have ci:=bS "_law_ways" b0 λ_ _ _ _ _ _ _=>rfl;have cl:=dJ "_law_cell_here" "_law_prime" b1 λ_ _ _ _ _ _ _ _=>rfl;have cm:=dJ "_law_cell_here" "_law_prime" b2 λ_ _ _ _ _ _ _ _=>rfl;have cr:=dJ "_law_cell_here" "_law_prime" b3 λ_ _ _ _ _ _ _ _=>rfl;have cs:=dJ "_law_cell_here" "_law_width" b4 λ_ _ _ _ _ _ _ _=>rfl;have ct:=dJ "_law_cell_here" "_law_prime" b5 λ_ _ _ _ _ _ _ _=>rfl;refine⟨PySem.W.fnOf "law" "law" (fD fB) (dU fB) (aK fB) .none i j k g d m,λs v=>.of_eq rfl,λbase KB GB=>?_⟩;have H:Xf K mg base fR gh:=AI KB GB hxf;have C0:=@Ai l.prog w K mg base D0 T;have C1:=@xJ l.prog w K mg base D1 T C0;have C2:=@Ah l.prog w K mg base D2 T C1 C0;have L:=@A7 l.prog w K mg base D3 T;have C4:=@BL l.prog w K mg base D4 T L;have C5:=@xX l.prog w K mg base D5 T C4 L;have C6:=@AU l.prog w K mg base D6 T C5;have C7:=@xm l.prog w K mg base D7 T ⟨_,PySem.W.mg_of X G v0⟩ ⟨_,PySem.W.mg_of X G v1⟩;have M:CalX l.prog w K mg base "read_number" 2 ["word"] (gY K):=zh D8 T H C7;have C9:CalX l.prog w K mg base "read_row" 3 ["words"] (mY K):=zU D9 T M;have da:CalX l.prog w K mg base "read_stair" 5 ["text"] (om K):=yp b8 T H C6 M C9;have db:=@xj l.prog w K mg base ba T;have dc:=@xc l.prog w K mg base bb T ⟨_,PySem.W.mg_of X G x0,Ca y0 w0⟩;have dd:=@Bp l.prog w K mg base bc T L;have dh:=@AM l.prog w K mg base be T db dc dd;have dl:=@Cm l.prog w K mg base bi T ⟨_,PySem.W.mg_of X G v2⟩ dh;have dp:=@xF l.prog w K mg base bl T ⟨_,PySem.W.mg_of X G v3⟩ dl L;have ds:CalX l.prog w K mg base "read_way" 3 ["text"] (mM K):=zd bm T H M;have dt:CalX l.prog w K mg base "read_ways" 4 ["text"] (nU K):=Cp bn T ds;have dx:CalX l.prog w K mg base "read_house" 6 ["text"] (nV K):=Cn bv T H dp dt M;have dz:=@zP l.prog w K mg base c0 T H b da dx;have I:=@yl l.prog w K mg base c1 T C0;have o:=@xA l.prog w K mg base c2 T;have e1:=@yY l.prog w K mg base c3 T C2 o;have e2:=@wx l.prog w K mg base c4 T o;have e3:=@zL l.prog w K mg base c5 T I o e2;have e4:=@Ao l.prog w K mg base c6 T C2 dz I e1 e3;have e5:=@yP l.prog w K mg base c7 T;have c:=@CD l.prog w K mg base c8 T e5;have e6:=@An l.prog w K mg base c9 T;have e7:=@A3 l.prog w K mg base ca T;have e8:=@B6 l.prog w K mg base cd T;have e9:=@xw l.prog w K mg base ce T e8;have ea:=@xQ l.prog w K mg base cf T;have eb:=@Cv l.prog w K mg base cg T c;have eg:=@Bx l.prog w K mg base ch T;have J:=@CQ l.prog w K mg base ci T;have ei:=@AD l.prog w K mg base cl T J c;have ej:=@wt l.prog w K mg base cm T J c;have ek:=@AY l.prog w K mg base cr T c;have el:=@B9 l.prog w K mg base cs T;have em:=@Bn l.prog w K mg base ct T ei ej ek el c;exact wK (pE (st:=fB) l42 c42 k42) T e4 c e6 e7 e9 ea eb eg em
def walk{l:PySem.W.OpenLaw}{q:Vd}{loose:List Vn}{g:(Vn->Option Va)->Vh->Prop}{c:Ve->Vh->Prop}{d:DefRec}{K:Params->Dd}(i:l.most=Vo 63)(b:d.params.defaults=[])
  (j:∀(w:Ve) (h:Vh),c w h->(K w.params).In h)
  (F:∀(w:Ve) (mg:Vn->Option Va) (e:Vb) (h:Vh),(K w.params).In h->h.Ns Vj mg->mg d.name=Vo (.ref e) ->
   ∃fd:Vm,(∀(s:Vc) (u:Va),BindsTo s fd ⟨[u],[]⟩ [("_law_script",u)])/\∀base:Vh,(K w.params).In base->base.Ns Vj mg->FnOk l.prog w (K w.params) mg base eR 9 e fd ["_law_script"] (kq (K w.params))) :
  PySem.W.WalkO q loose g c l.row.toRowW d [] (λf vs=>PySem.call f vs):=
 L2.CP (n:=63) (k:=9) (x:="_law_script") (CX:=λ_=>eR) (sp:=λw=>kq (K w.params)) i (by decide) b ⟨rfl,by decide,by decide⟩ j F (λ_ _ a ns m _ o=>⟨a,ns,rfl,o,m,λ_=>rfl⟩) λ_ _ _ _ _ z=>z
end My
end
open PySem PySem.W PyProof.Rows
set_option maxRecDepth 100000 in
set_option maxHeartbeats 0 in
theorem PySem.Challenge.cw_stairrooms_k18_read_or_refused_holds : PySem.Challenge.rw_stairrooms_k18_read_or_refused.Holds := by
 refine My.top ?_
 k_fill
 refine My.walk (l := PySem.Challenge.rw_stairrooms_k18_read_or_refused) rfl rfl (λw h Y => by first|exact PySem.W.kIn_of Y|exact PySem.W.km_in_of Y) ?F
 case F =>
  intro w mg fa h KX G hmg;have q := @My.dq _ _ _ KX G
  refine' My.all_mk KX G hmg (q ?a0 ?l0 ?c0 ?k0) (q ?a1 ?l1 ?c1 ?k1) (q ?a2 ?l2 ?c2 ?k2) (q ?a3 ?l3 ?c3 ?k3) (q ?a4 ?l4 ?c4 ?k4) (q ?a5 ?l5 ?c5 ?k5) (q ?a6 ?l6 ?c6 ?k6) (q ?a7 ?l7 ?c7 ?k7) (q ?a8 ?l8 ?c8 ?k8) (q ?a9 ?l9 ?c9 ?k9) (q ?a10 ?l10 ?c10 ?k10) (q ?a11 ?l11 ?c11 ?k11) (q ?a12 ?l12 ?c12 ?k12) (q ?a13 ?l13 ?c13 ?k13) (q ?a14 ?l14 ?c14 ?k14) (q ?a15 ?l15 ?c15 ?k15) (q ?a16 ?l16 ?c16 ?k16) (q ?a17 ?l17 ?c17 ?k17) (q ?a18 ?l18 ?c18 ?k18) (q ?a19 ?l19 ?c19 ?k19) (q ?a20 ?l20 ?c20 ?k20) (q ?a21 ?l21 ?c21 ?k21) (q ?a22 ?l22 ?c22 ?k22) (q ?a23 ?l23 ?c23 ?k23) (q ?a24 ?l24 ?c24 ?k24) (q ?a25 ?l25 ?c25 ?k25) (q ?a26 ?l26 ?c26 ?k26) (q ?a27 ?l27 ?c27 ?k27) (q ?a28 ?l28 ?c28 ?k28) (q ?a29 ?l29 ?c29 ?k29) (q ?a30 ?l30 ?c30 ?k30) (q ?a31 ?l31 ?c31 ?k31) (q ?a32 ?l32 ?c32 ?k32) (q ?a33 ?l33 ?c33 ?k33) (q ?a34 ?l34 ?c34 ?k34) (q ?a35 ?l35 ?c35 ?k35) (q ?a36 ?l36 ?c36 ?k36) (q ?a37 ?l37 ?c37 ?k37) (q ?a38 ?l38 ?c38 ?k38) (q ?a39 ?l39 ?c39 ?k39) (q ?a40 ?l40 ?c40 ?k40) (q ?a41 ?l41 ?c41 ?k41) ?a42 ?l42 ?c42 ?k42 ?z0 ?z1 ?z2 ?z3 ?z4 ?z5 ?z6 ?z7 ?z8 ?z9 ?z10 ?z11 ?z12 ?z13 ?z14 ?z15 ?v0 ?v1 ?v2 ?v3 ?x0 ?y0 ?w0 ?hxf ?hxq0
  case a0|l0|c0|k0|a1|l1|c1|k1|a2|l2|c2|k2|a3|l3|c3|k3|a4|l4|c4|k4|a5|l5|c5|k5|a6|l6|c6|k6|a7|l7|c7|k7|a8|l8|c8|k8|a9|l9|c9|k9|a10|l10|c10|k10|a11|l11|c11|k11|a12|l12|c12|k12|a13|l13|c13|k13|a14|l14|c14|k14|a15|l15|c15|k15|a16|l16|c16|k16|a17|l17|c17|k17|a18|l18|c18|k18|a19|l19|c19|k19|a20|l20|c20|k20|a21|l21|c21|k21|a22|l22|c22|k22|a23|l23|c23|k23|a24|l24|c24|k24|a25|l25|c25|k25|a26|l26|c26|k26|a27|l27|c27|k27|a28|l28|c28|k28|a29|l29|c29|k29|a30|l30|c30|k30|a31|l31|c31|k31|a32|l32|c32|k32|a33|l33|c33|k33|a34|l34|c34|k34|a35|l35|c35|k35|a36|l36|c36|k36|a37|l37|c37|k37|a38|l38|c38|k38|a39|l39|c39|k39|a40|l40|c40|k40|a41|l41|c41|k41|a42|l42|c42|k42|z0|z1|z2|z3|z4|z5|z6|z7|z8|z9|z10|z11|z12|z13|z14|z15|v0|v1|v2|v3=>k_is
  (case x0 => k_is); (case y0 => k_is); (case w0 => first|rfl|k_is)
  (case hxf => first|kernel_rfl|k_is)
  (case hxq0 => first|kernel_rfl|k_is)
